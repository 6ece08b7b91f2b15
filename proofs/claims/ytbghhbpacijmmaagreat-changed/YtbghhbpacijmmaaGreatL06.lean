import Derived.Test.YtbghhbpacijmmaaGreatL05
open Go.Proofs.Tryz
namespace Go.Proofs.YtbghhbpacijmmaaGreat
set_option maxRecDepth 99999
set_option maxHeartbeats 0
set_option linter.defProp false
set_option linter.unusedVariables false
open Go.RowKit Go.Maps
open Go.ChangeMaps (setBlock)
attribute [local go_sem ↓] Go.wp_at_zero Go.wp_at_succ
variable {gH gI qb:Nat->Nat} {w w' w1:World} {t p g gm q ga:Nat} {X X':Cx} {c c':jz} {V V':CV} {cv cv':kM} {zz:List (Int×An)} {l:List Ae} {fr k:Int} {rs:List Rz} {es:Array MapEntry} {ln:MapEntry->Nat} {xs:List Value} {ns:List Int}
def tV.set{gg len cap:Nat}(h:tV w gH gg t (gN (G g) len cap) rs)(A:gg≠t)(H:rs.length=len)(i)(Q:i<rs.length)(r)(s)(T:Rd w gH t 5 s (r.val.map B8)):tV (((w.setCell (U g (i*3)) (I r.wh)).setCell (U g (i*3+1)) (I r.ad)).setCell (U g (i*3+2)) s) gH gg t (gN (G g) len cap) (rs.set i r):=by
 let⟨xs,F,L,W⟩:=h;rw[H]at F;obtain⟨Y,g1⟩:=F.stored (i*3) (I r.wh);obtain⟨Z,g2⟩:=Y.stored (i*3+1) (I r.ad);obtain⟨k3,g3⟩:=Z.stored (i*3+2) s;have a0:xs.length=len*3:=F.1;have M:gL (λb=>b=g) w (((w.setCell (U g (i*3)) (I r.wh)).setCell (U g (i*3+1)) (I r.ad)).setCell (U g (i*3+2)) s):=(((gL.refl (λb=>b=g) w).setCell (U g _) (.inl rfl) _).setCell (U g _) (.inl rfl) _).setCell (U g _) (.inl rfl) _;have P:∀b,b<w.heap.size->b=g->gH b≠t:=λb _ e=>by rw[e,L g rfl];exact A
 refine⟨((xs.set (i*3) (I r.wh)).set (i*3+1) (I r.ad)).set (i*3+2) s,by rw[bK,H];exact k3,L,λj r' y=>?_⟩;by_cases e:j=i
 .subst e;rw[aQ Q]at y;simp only[aJ]at y;subst y;refine⟨?_,?_,s,?_,T.only M P λ_ _ e=>e⟩
  .rw[aH C,aH C,cN,aQ C]
  .rw[aH C,cN,aQ ig]
  rw[cN,aQ ig]
 rw[aH (Ne.symm e)]at y;let⟨y1,y2,s',y3,y4⟩:=W j r' y;refine⟨?_,?_,s',?_,y4.only M P λ_ _ e=>e⟩
 .rw[aH C,aH C,aH C];exact y1
 .rw[aH C,aH C,aH C];exact y2
 rw[aH C,aH C,aH C];exact y3
def jf.Yd(h:jf w gH t p qb X V)(i:gL (λb=>gH b=t+2) w w1)(F:tV w1 gH (t+2) (t+3) V.rv rs)(L:rs.length=X.c.length):jf w1 gH t p qb {X with c:=rs} V:=by
 have j:∀b,b<w.heap.size->gH b=gH b:=λ_ _=>rfl;have y:∀b,b<w.heap.size->gH b=t+2->gH b≠t+3:=λb _ e=>C;refine⟨(i.block p h.A λe=>by have:=h.tp;omega).H h.hp,h.tp,h.r.lay.only i y λ_ _ e=>e,F,h.r.tb,(i.block _ h.r.lb λe=>by have:=h.r.tb;omega).H h.r.mp,h.r.bo,h.r.bn,h.r.pr.only i y (λb _ e=>C) j,h.r.sl.only i y (λb _ e=>C) j,h.r.vt.only i y (λb _ e=>C) j,h.r.bg.only i (λb _ e=>C) j,h.r.b.only i y λ_ _ e=>e,λd A=>?_,h.r.a.gU,λd A=>?_,h.r.a.a,h.r.a.b⟩
 .obtain⟨M,P⟩:=h.r.d d A;exact⟨M,P.only i (λb _ e=>C) j⟩
 show d.gU<rs.length;rw[L];exact h.r.a.lt d A
def I8(i:X.a.Pairwise λc d=>c.gU<d.gU)(A:c∈X.a):∃l1 l2,X.a=l1++c::l2/\(∀d∈l1,d.gU≠c.gU)/\(∀d∈l2,d.gU≠c.gU)/\X.a.filter (λd=>d.gU !=c.gU)=l1++l2:=by
 obtain⟨l1,l2,e⟩:=fe A;rw[e]at i;have j:∀d∈l1,d.gU≠c.gU:=λd h=>by have:=(cu.1 i).2.2 d h c aN;omega
 have y:∀d∈l2,d.gU≠c.gU:=λd h=>by have:=(cI.1 (cu.1 i).2.1).1 d h;omega
 refine⟨l1,l2,e,j,y,?_⟩;rw[e,cz,cT];simp only[bne_self_eq_false,fg,if_false];rw[eD.2 λd h=>by simpa using j d h,eD.2 λd h=>by simpa using y d h]
def jf.Xv(h:jf w gH t p qb X V)(M:c∈X.a):∃l1 l2,X.a=l1++c::l2/\(∀d∈l1,d.gU≠c.gU)/\(∀d∈l2,d.gU≠c.gU)/\jf (setBlock w V.bm (.map (iu (l1.map (kt qb V.bo)++l2.map (kt qb V.bo))) V.clk)) gH t p qb {X with a:=X.a.filter λd=>d.gU !=c.gU} V/\gL (λb=>b=V.bm) w (setBlock w V.bm (.map (iu (l1.map (kt qb V.bo)++l2.map (kt qb V.bo))) V.clk)):=by
 let⟨l1,l2,e,P,Q,T⟩:=I8 h.r.a.gU M;have i:gL (λb=>b=V.bm) w (setBlock w V.bm (.map (iu (l1.map (kt qb V.bo)++l2.map (kt qb V.bo))) V.clk)):=j7 _ _ _;have Z:=h.r.tb;have A:∀b,b<w.heap.size->gH b=gH b:=λ_ _=>rfl;have F:∀b,b<w.heap.size->b=V.bm->gH b≠t+3:=λb _ e=>pI e;have j:∀d,d∈X.a.filter (λd=>d.gU !=c.gU)->d∈X.a:=λd y=>(aU.1 y).1;have L:=h.r.bn;refine⟨l1,l2,e,P,Q,⟨(i.block p h.A λe=>by have:=h.tp;rw[e]at this;omega).H h.hp,h.tp,h.r.lay.only i F λ_ _ e=>e,h.r.c.only i F (λb _ e=>pI e) A,h.r.tb,?_,λd y=>h.r.bo d (j d y),?_,h.r.pr.only i F (λb _ e=>pI e) A,h.r.sl.only i F (λb _ e=>pI e) A,h.r.vt.only i F (λb _ e=>pI e) A,h.r.bg.only i (λb _ e=>pI e) A,h.r.b.only i F λ_ _ e=>e,λd y=>?_,?_,λd y=>h.r.a.lt d (j d y),?_,λd y=>h.r.a.b d (j d y)⟩,i⟩
 .show(setBlock w V.bm _).heap[V.bm]?=some (.map (iu ((X.a.filter λd=>d.gU !=c.gU).map (kt qb V.bo))) V.clk);rw[nW h.r.lb,T,aZ]
 .show((X.a.filter λd=>d.gU !=c.gU).map λc=>V.bo c.gU).Nodup;exact L.sublist (List.Sublist.map _ cE)
 .obtain⟨W,Y⟩:=h.r.d d (j d y);exact⟨W,Y.only i (λb _ e=>pI e) A⟩
 .exact h.r.a.gU.sublist cE
 exact h.r.a.a.sublist cE
theorem J8(h:jf w gH t p qb X V)(T:c∈X.a)(r:Rz)(P:Option Addr)(Q:Nat)(hs:Rd w gH (t+3) 5 (gN P r.val.length Q) (r.val.map B8)):iB 96 #[O p,O (qb c.gU),.agg #[I r.wh,I r.ad,gN P r.val.length Q]] w λen w'=>en=iw/\CS w gH t p qb (X.fin c r) w'/\gL (λb=>gH b=t+1\/gH b=t+2) w w':=by
 obtain⟨cv,hk⟩:=h.r.d c T;have hl:=h.r.a.lt c T;let⟨W,hW⟩:=gJ (w.alloc (im (A6 r P Q) 43));have Z:=(Bl.refl w).alloc (im (A6 r P Q) 43);have hX:=ao w (im (A6 r P Q) 43);rw[hW]at Z hX;have j:=h.bl Z (gI:=gH) hU;have a0:=hs.bl Z (gI:=gH) λ_ _ e=>e;obtain⟨xs,y,h2,h3⟩:=j.r.c;obtain⟨g,cap,A⟩:∃g cap,V.rv=gN (G g) X.c.length cap:=by
  obtain⟨_,h0⟩|⟨g,cap,ai,e,_⟩:=y.2
  .omega
  exact⟨g,cap,e⟩
 have F:=j.r.c;rw[A]at F y h2;obtain⟨HR,a7⟩:=gO (F.set C rfl c.gU hl r _ a0) j;have ak:=(y.lt g rfl).2;have L:gH g=t+2:=h2 g rfl;have xl:xs.length=X.c.length*3:=y.1;have x0:W.cell? (U g (c.gU*3))=some xs[c.gU*3]:=by rw[y.cellAt _ C,ah]
 have x1:W.cell? (U g (c.gU*3+1))=some xs[c.gU*3+1]:=by rw[y.cellAt _ C,ah]
 have x2:W.cell? (U g (c.gU*3+2))=some xs[c.gU*3+2]:=by rw[y.cellAt _ C,ah]
 have f0:=y.frozenAt (c.gU*3);have f1:=y.frozenAt (c.gU*3+1);have f2:=y.frozenAt (c.gU*3+2);let⟨r0,r1,r2,lr⟩:=AZ hX;have d7:=j.cellAt 7 rfl;rw[A]at d7;obtain⟨al,i⟩:=j.r.d c T;have e1:=i.cellAt 1 rfl;have lp:=j.A;have lq:=i.lt;have h8:=h.r.a.b c T;have am:g≠p:=λe=>by have:=h.tp;rw[e,this]at L;omega
 have an:g≠qb c.gU:=λe=>by have:=hk.tq;rw[e,this]at L;omega
 generalize xs[c.gU*3]=y0 at*;generalize xs[c.gU*3+1]=y1 at*;generalize xs[c.gU*3+2]=y2 at*;have ap:g<w.heap.size:=by obtain⟨aq,a3,_⟩:=h.r.c;rw[A]at a3;exact(a3.lt g rfl).2
 have ar:g≠w.heap.size:=C;have au:(0:Int)<=(c.gU:Int):=C;have av:(c.gU:Int)<(X.c.length:Int):=C;let⟨a4,BW,a8,a9⟩:=jR hW Z A L;clear h hk i j a0 y h2 h3 hW Z hX hs F L A;generalize hq:qb c.gU=q at*;have Hq:=gP hq;clear hq;go_enter func96,ntmps96;go_upto_region 1 with fail;rw[a4.o];clear a4;go_cut[] λwx=>Hid (jf wx gH t p qb {X with c:=X.c.set c.gU r} V)/\Hid (gL (λb=>gH b=t+2) W wx)
 case first=>
  go_region;all_goals(go_wp2_with fail;go_meet)
  have ho:gL (λb=>b=g) W (((W.setCell (U g (c.gU*3)) (I r.wh)).setCell (U g (c.gU*3+1)) (I r.ad)).setCell (U g (c.gU*3+2)) (gN P r.val.length Q)):=(((gL.refl (λb=>b=g) W).setCell (U g _) (.inl rfl) _).setCell (U g _) (.inl rfl) _).setCell (U g _) (.inl rfl) _;have a5:gL (λb=>gH b=t+2) W (((W.setCell (U g (c.gU*3)) (I r.wh)).setCell (U g (c.gU*3+1)) (I r.ad)).setCell (U g (c.gU*3+2)) (gN P r.val.length Q)):=ho.L λb _ e=>jk e a9;exact⟨(a7.Yd a5 (jk a8.o HR) gG).bl (jC.drew) hU,a5.drew⟩
 case rest=>
  let⟨Y,HO⟩:=hcut;have j8:=Y.cellAt 8 rfl;obtain⟨aw,i⟩:=Y.r.d c T;rw[Hq.o]at i;have j1:=i.cellAt 1 rfl;have aY:=Y.A;have b0:=i.lt;obtain⟨l1,l2,hp,a1,a2,K2,O2⟩:=(Y.bl ((Bl.refl wc).drew) (gI:=gH) hU).Xv (c:=c) T;have a6:X.a=l1++c::l2:=hp;have M:=Y.r.mp;simp only[a6,aZ,bj]at M;have b1:∀x∈l1.map (kt qb V.bo),x.k≠(kt qb V.bo c).k:=λx hx=>by obtain⟨d,hd,rfl⟩:=aD.1 hx;have:=a1 d hd;show((d.gU:Nat):Int)≠(c.gU:Int);omega
  have b2:∀x∈l2.map (kt qb V.bo),x.k≠(kt qb V.bo c).k:=λx hx=>by obtain⟨d,hd,rfl⟩:=aD.1 hx;have:=a2 d hd;show((d.gU:Nat):Int)≠(c.gU:Int);omega
  have aa:=λty=>Of (w:=wc) ty M b1 b2;have ab:=λty=>Of (w:=wc.drew) ty M b1 b2;rw[show(kt qb V.bo c).k=((c.gU:Nat):Int)from rfl]at aa ab;let⟨ac,ad,ag⟩:=iz K2 O2 Y.r.tb;clear i M x0 x1 x2 f0 f1 f2 r0 r1 r2 d7 e1 K2 O2 b1 b2 a1 a2 hp a6;go_upto_region 2 with fail;go_region;go_wp2;go_end0;have Z1:gL (λb=>gH b=t+1\/gH b=t+2) w wc:=(gL.B BW).H (HO.L λb _ e=>.inr e);have Z2:=(Z1.H (gL.B ((Bl.refl wc).drew))).H (ad.L λb _ e=>by have:=ag.o;rw[e];exact .inl this);exact⟨rfl,⟨gH,λ_ _=>rfl,⟨V,ac⟩,Z2.L λb _ e=>by unfold Mc;omega⟩,Z2⟩
def xr(h:jf w gH t p qb X V)(i:c∈X.a)(r)(sa)(sc)(j:Rd w gH (t+3) 5 (gN sa r.val.length sc) (r.val.map B8)):iB 96 #[O p,O (qb c.gU),.agg #[I r.wh,I r.ad,gN sa r.val.length sc]] w λy w'=>y=iw/\CS w gH t p qb (X.fin c r) w':=
 (J8 h i r sa sc j).L λ_ _ e=>⟨e.1,e.2.1⟩
def Cx.wF(X:Cx)(h:X.a.Pairwise λc d=>c.gU<d.gU)(i:c∈X.a):X.put c=X:=by
 unfold Cx.put;have:X.a.map (λd=>if d.gU=c.gU then c else d)=X.a:=by
  conv=>rhs;rw[<-eI X.a]
  refine bf λx j=>?_;by_cases e:x.gU=c.gU
  .rw[aE e];exact(rI h j i e).symm
  simp_all
 rw[this]
def Cx.D5(X:Cx)(c)(r):(X.put c).fin c r=X.fin c r:=by
 unfold Cx.fin Cx.put;congr 1;rw[dZ];have h:((λd:jz=>d.gU !=c.gU)∘λd=>if d.gU=c.gU then c else d)=λd=>d.gU !=c.gU:=by
  funext d;show((if d.gU=c.gU then c else d).gU !=c.gU)=_;by_cases e:d.gU=c.gU
  .simp_all
  rw[az e]
 rw[h]
 conv=>rhs;rw[<-eI (X.a.filter _)]
 refine bf λx i=>?_;simp_all
def Cx.pO(X:Cx)(c):(X.put c).kL c=X.kL c:=Cx.JW X c _ _ _ _
def CS.iW(i:gL (λb=>Mc t (gH b)) w w1)(h:CS w1 gH t p qb X w'):CS w gH t p qb X w':=by let⟨gI,j,y,A⟩:=h;exact⟨gI,λb F=>j b (af F i.size),y,i.H A⟩
def jf.TH(h:jf w gH t p qb X V)(i:c∈X.a)(k:kN w gH t (qb c.gU) c cv)(j:gL (λb=>b=qb c.gU) w w')(y:kN w' gH t (qb c.gU) c' cv')(A:c'.gU=c.gU)(F:c'.a=c.a):jf w' gH t p qb (X.put c') V/\gL (λb=>Mc t (gH b)) w w':=
 ⟨h.call i (k.xg j) y A F,h.DI i (k.xg j)⟩
def jf.VV(h:jf w gH t p qb X V)(i:c∈X.a)(u)(tv)(y:Rd w gH (t+3) 5 tv (u.val.map B8)):jf (ku w (qb c.gU) 9 [I u.kd,I u.cl,I u.ca,tv]) gH t p qb (X.put {c with jb:=u}) V/\gL (λb=>Mc t (gH b)) w (ku w (qb c.gU) 9 [I u.kd,I u.cl,I u.ca,tv]):=by obtain⟨cv,k⟩:=h.r.d c i;have j:gL _ w (ku w _ 9 [I u.kd,I u.cl,I u.ca,tv]):=jO (S:=λb=>b=qb c.gU) (.inl rfl) _ 9 w (gL.refl _ w);exact h.TH i k j (k.A (cv':={cv with cv:=tv}) j (kA _ 9 w _ k.hq) rfl k.ie y k.e k.q) rfl rfl
def jf.VY(h:jf w gH t p qb X V)(j:c∈X.a)(i:Nat):jf (w.setCell (U (qb c.gU) 13) (I i)) gH t p qb (X.put {c with c:=i}) V/\gL (λb=>Mc t (gH b)) w (w.setCell (U (qb c.gU) 13) (I i)):=by obtain⟨cv,k⟩:=h.r.d c j;have y:gL _ w (w.setCell (U (qb c.gU) 13) (I i)):=(gL.refl (λb=>b=qb c.gU) w).setCell (U (qb c.gU) 13) (.inl rfl) _;exact h.TH j k y (k.A y (jx 13 _ w _ k.hq) rfl k.ie k.jb k.e k.q) rfl rfl
def jf.WO(h:jf w gH t p qb X V)(i:c∈X.a):jf (ku w (qb c.gU) 17 [I 0,I 0,I 0,I 0,I 0,I 0,I 0,I 0,OO,OO,.bool false,.map none]) gH t p qb (X.put {c with q:=Qn.zero}) V/\gL (λb=>Mc t (gH b)) w (ku w (qb c.gU) 17 [I 0,I 0,I 0,I 0,I 0,I 0,I 0,I 0,OO,OO,.bool false,.map none]):=by obtain⟨cv,k⟩:=h.r.d c i;have j:gL (λb=>b=qb c.gU) w (ku w (qb c.gU) 17 [I 0,I 0,I 0,I 0,I 0,I 0,I 0,I 0,OO,OO,.bool false,.map none]):=jO (S:=λb=>b=qb c.gU) (.inl rfl) _ 17 w (gL.refl _ w);exact h.TH i k j (k.A (c':={c with q:=Qn.zero}) (cv':={cv with q:=QV.zero}) j (kA _ 17 w _ k.hq) rfl k.ie k.jb k.e QR.zero) rfl rfl
theorem DW(h:jf w gH t p qb X V)(F:100<=t)(Q:nf X)(H:c∈X.a)(hA:X.D c.ij)(hk1:c.kind=1\/c.kind=3):iB 89 #[O p,O (qb c.gU)] w λM w'=>M=iw/\CS w gH t p qb (X.dO c) w':=by
 have hX:X.dO c=X.kL {c with jb:=c.ie,c:=0}:=by unfold Cx.dO;rw[aE hk1]
 obtain⟨cv,j⟩:=h.r.d c H;obtain⟨Z,oc,y⟩:=j.ie.B;rw[ay]at y;obtain⟨_,ch,_,_,T,W,_⟩:=Q.chain c.ij;have i:=j.ie;rw[y]at i;obtain⟨K1,O1⟩:=h.VV H c.ie _ i;let⟨P,O2⟩:=K1.VY (c:={c with jb:=c.ie}) (Cx.jV H rfl) 0;rw[Cx.DK X (c1:={c with jb:=c.ie}) (c2:={c with jb:=c.ie,c:=0}) rfl]at P;have Y:=O1.H O2;let⟨W1,A⟩:=gJ ((ku w (qb c.gU) 9 [I c.ie.kd,I c.ie.cl,I c.ie.ca,gN Z c.ie.val.length oc]).setCell (U (qb c.gU) 13) (I (0:Nat)));rw[A]at P Y;have HN:Hid (iB 149 #[O p,O (qb c.gU)] W1 λM w'=>M=iw/\CS w gH t p qb (X.dO c) w'):=
  (wq P F (Q.put _) (c:={c with jb:=c.ie,c:=0}) (Cx.jV H rfl) hA (by show 0<(X.chain c.ij).length;rw[T];exact W)).L λM w'⟨e1,e2⟩=>⟨e1,by
   rw[hX,<-Cx.pO]
   exact CS.iW Y e2⟩
 let⟨e0,e5,e6⟩:=j.Km 0 5 6 rfl;let⟨e7,e8⟩:=j.R 7 8 rfl;rw[y]at e8;let⟨e9,a0,a1⟩:=j.Km 9 10 11 rfl;let⟨a2,a3⟩:=j.R 12 13 rfl;let⟨g9,a4,a5⟩:=j.Xl 9 10 11;let⟨a6,a7⟩:=j.X8 12 13;have lq:=j.lt;have HE:Hid (((((w.setCell (U (qb c.gU) 9) (I c.ie.kd)).setCell (U (qb c.gU) 10) (I c.ie.cl)).setCell (U (qb c.gU) 11) (I c.ie.ca)).setCell (U (qb c.gU) 12) (gN Z c.ie.val.length oc)).setCell (U (qb c.gU) 13) (I 0)=W1):=A;clear h j K1 P O1 O2 Y A i Q;generalize qb c.gU=q at*;obtain hk1|hk1:=hk1;all_goals
  rw[hk1]at e0;go_enter func89,ntmps89;go_upto_region 4 with fail;rw[HE.o];go_wp2_with(go_at_call 149;refine iO HN λw3 HS=>?_);go_end0;exact⟨rfl,HS⟩
theorem Pe(h:jf w gH t p qb X V)(i:100<=t)(A:nf X)(F:c∈X.a)(L:X.D c.ij)(j:c.kind=2):iB 89 #[O p,O (qb c.gU)] w λM w'=>M=iw/\CS w gH t p qb (X.dO c) w':=by
 have P:X.dO c=X.qq c:=by unfold Cx.dO;rw[az C,aE j]
 obtain⟨cv,y⟩:=h.r.d c F;have H:=gP (Tk h i A F L);rw[<-P]at H;have Q:=y.cellAt 0 rfl;have W:=y.lt;rw[j]at Q;clear h y A;go_enter func89,ntmps89;go_wp2_with(go_at_call 150;refine iO H λY T=>?_);go_end0;exact⟨rfl,T⟩
theorem Pp(h:jf w gH t p qb X V)(i:100<=t)(A:nf X)(F:c∈X.a)(j:c.kind=4):iB 89 #[O p,O (qb c.gU)] w λL w'=>L=iw/\CS w gH t p qb (X.dO c) w':=by
 have M:X.dO c=X.pW c c.ij ⟨1,0,[]⟩:=by unfold Cx.dO;rw[az C,az C,aE j]
 obtain⟨cv,y⟩:=h.r.d c F;have H:=gP (JG h i A F c.ij 1 0);rw[<-M]at H;let⟨P,T⟩:=y.R 0 3 rfl;have W:=y.lt;rw[j]at P;clear h y A;go_enter func89,ntmps89;go_wp2_with(go_at_call 151;refine iO H λY Q=>?_);go_end0;exact⟨rfl,Q⟩
theorem Gs(kd cl ca)(va)(vn vc)(w):iB 308 #[.agg #[I kd,I cl,I ca,gN va vn vc]] w λh w'=>h=gX (.agg #[I kd,I 0,gN va vn vc])/\Bl w w':=by
 go_enter func308,ntmps308;go_wp2;refine aG (by simp[results,results308,go_sem]) rfl ⟨rfl,?_⟩;exact(jC.alloc _).alloc _
def Cx.JH(X:Cx)(c)(h:c.c+1<(X.chain c.ij).length):X.kW c=(X.put {c with c:=c.c+1}).kL {c with c:=c.c+1}:=by unfold Cx.kW;rw[aE h,Cx.pO]
def Cx.CN(X:Cx)(c)(h:¬c.c+1<(X.chain c.ij).length)(i:c.kind=1):X.kW c=(X.put {c with c:=c.c+1}).fin {c with c:=c.c+1} ⟨1,c.ij,[]⟩:=by unfold Cx.kW;rw[az h,aE i,Cx.D5];rfl
def Cx.D0(X:Cx)(c)(h:¬c.c+1<(X.chain c.ij).length)(i:c.kind≠1):X.kW c=(X.put {c with c:=c.c+1}).fin {c with c:=c.c+1} (Cx.py c.jb):=by unfold Cx.kW;rw[az h,az i,Cx.D5];rfl
theorem zk(h:jf w gH t p qb X V)(a4:100<=t)(hx:nf X)(hc:c∈X.a)(hA:X.D c.ij)(aq:c.c<1000):iB 309 #[O p,O (qb c.gU)] w λen w'=>en=iw/\CS w gH t p qb (X.kW c) w':=by
 obtain⟨cv,hk⟩:=h.r.d c hc;let⟨H1,O1⟩:=h.VY hc (c.c+1);let⟨W1,Z⟩:=gJ (w.setCell (U (qb c.gU) 13) (I (c.c+1:Nat)));rw[Z]at H1 O1;have M:({c with c:=c.c+1}:jz)∈(X.put {c with c:=c.c+1}).a:=Cx.jV hc rfl;have T1:Hid (∀W,Bl W1 W->jf W gH t p qb (X.put {c with c:=c.c+1}) V):=λW hW=>H1.bl hW λ_ _=>rfl;have HC:Hid (∀W,Bl W1 W->_):=λW hW=>zA (T1 W hW) (hx.put _) (c:={c with c:=c.c+1}) M hA;have ab:=hk.cellAt 13 rfl;have ac:=hk.M 13;have lq:=hk.lt;obtain⟨ag,i⟩:=H1.r.d _ M;obtain⟨a0,a1,P⟩:=i.jb.B;rw[ay]at P;have a5:W1.cell? (U (qb c.gU) 13)=some (I ((c.c:Int)+1)):=i.cellAt 13 rfl;have d0:W1.cell? (U (qb c.gU) 0)=some (I c.kind):=i.cellAt 0 rfl;have d3:W1.cell? (U (qb c.gU) 3)=some (I c.ij):=i.cellAt 3 rfl;have d9:W1.cell? (U (qb c.gU) 9)=some (I c.jb.kd):=i.cellAt 9 rfl;have a6:W1.cell? (U (qb c.gU) 10)=some (I c.jb.cl):=i.cellAt 10 rfl;have a7:W1.cell? (U (qb c.gU) 11)=some (I c.jb.ca):=i.cellAt 11 rfl;have a2:W1.cell? (U (qb c.gU) 12)=some ag.cv:=i.cellAt 12 rfl;rw[P]at a2;have a8:=i.lt;have HE:Hid (w.setCell (U (qb c.gU) 13) (I (c.c+1))=W1):=Z;have ar:(c.c:Int)<1000:=C;have j:=i.jb;rw[P]at j;have ai:Hid (Rd W1 gH (t+3) 5 (gN a0 c.jb.val.length a1) (c.jb.val.map B8)):=j;let⟨ak,a3,Hx⟩:=iz O1 M hx;have A:qb c.gU<W1.heap.size:=a8;clear h hk H1 O1 Z i j a8 P;generalize hq:qb c.gU=q at*;have Hq:=gP hq;clear hq hx M;have a9:(X.put {c with c:=c.c+1}).chain c.ij=X.chain c.ij:=rfl;dsimp only at HC;rw[a9]at HC;go_enter func309,ntmps309;go_upto_region 2 with fail;rw[HE.o];clear HE;go_cut[19] λy wx=>y=.bool (decide ((c.c:Int)+1<((X.chain c.ij).length:Int)))/\Hid (Bl W1 wx)
 case first=>
  go_region_held3(λW=>W.cell? (U q 13)=some (I (c.c+1))) (go_keep) (first|(go_at_call 189;refine(HC _ ?hb).L ?_;(case hb=>exact jg);rintro en w2⟨au,av,rfl,aa,al⟩;have hB:Bl W1 w2:=Bl.H jg aa;have z4:=(hB.cell A).H a5;have Q:=gP hB;clear aa hB al));all_goals(go_wp2_with fail;go_meet)
  all_goals exact⟨rfl,Q⟩
 case rest=>
  obtain⟨rfl,Y⟩:=hcut;let⟨Xe,aw,aY⟩:=Y.D A d0 d3 d9;let⟨am,an,ap⟩:=Y.D A a6 a7 a2;have b0:=af A Y.lt;have OB:=gP (ak.H (gL.B Y));clear d0 d3 d9 a6 a7 a2 a5 ab ac HC;by_cases ja:c.c+1<(X.chain c.ij).length
  .have hd:decide ((c.c:Int)+1<((X.chain c.ij).length:Int))=true:=ig;rw[hd];obtain⟨F,hX⟩:=gO (wq (T1 wc Y) a4 (Hx.put _) (c:={c with c:=c.c+1}) a3 hA ja) (X.JH c ja);dsimp only at F;rw[Hq.o]at F;go_wp2_with(go_at_call 149;refine iO F λw3 HS=>?_);go_end0;exact⟨rfl,by rw[hX.o];exact CS.iW OB HS⟩
  have hd:decide ((c.c:Int)+1<((X.chain c.ij).length:Int))=false:=ig;rw[hd];by_cases T:c.kind=1
  .let⟨F,hX⟩:=gO (xr (T1 wc Y) (c:={c with c:=c.c+1}) a3 ⟨1,c.ij,[]⟩ none 0 Rd.nil) (X.CN c ja T);simp only[dA]at F;rw[Hq.o]at F;rw[T]at Xe;go_wp2_with(go_at_call 96;refine iO F λw3 HS=>?_);go_end0;exact⟨rfl,by rw[hX.o];exact CS.iW OB HS⟩
  have b1:(c.kind==1)=false:=by simpa using T
  have F:Hid (∀W,Bl wc W->_):=λW hW=>xr (T1 W (Y.H hW)) (c:={c with c:=c.c+1}) a3 (Cx.py c.jb) a0 a1 (ai.bl (Y.H hW) λ_ _ e=>e);let⟨hX,HT⟩:=gO (X.D0 c ja T) (Gs c.jb.kd c.jb.cl c.jb.ca a0 c.jb.val.length a1);simp only[show(Cx.py c.jb).wh=c.jb.kd from rfl,show(Cx.py c.jb).ad=0 from rfl,show(Cx.py c.jb).val=c.jb.val from rfl]at F;rw[Hq.o]at F;go_wp2_with(first|(go_at_call 308;refine iO (HT _) λw2 Q=>?_)|(go_at_call 96;refine iO (F _ Q) λw3 HS=>?_));go_end0;exact⟨rfl,by rw[hX.o];exact CS.iW (OB.H (gL.B Q)) HS⟩
theorem yM(y:kN w gH t q c cv)(kd cl ca)(va)(vn vc):iB 315 #[O q,.agg #[I kd,I cl,I ca,gN va vn vc]] w λQ w'=>Q=gX (.bool (cl==c.ie.cl&&ca==c.ie.ca))/\Bl w w':=by
 let⟨W,F⟩:=gJ (w.alloc (im #[I kd,I cl,I ca,gN va vn vc] 91));have A:=(Bl.refl w).alloc (im #[I kd,I cl,I ca,gN va vn vc] 91);have L:=ao w (im #[I kd,I cl,I ca,gN va vn vc] 91);rw[F]at A L;let⟨Y,Z,r2,r3,lr⟩:=rX L;have e6:=(A.cell y.lt).H (y.cellAt 6 rfl);have e7:=(A.cell y.lt).H (y.cellAt 7 rfl);have lq:=af y.lt A.lt;let⟨T,i⟩:=gO F A;clear y F A L;go_enter func315,ntmps315;go_upto_region 1 with fail;rw[T.o];by_cases M:cl=c.ie.cl
 .by_cases P:ca=c.ie.ca
  .have h:(cl==c.ie.cl)=true:=by simpa using M
   have j:(ca==c.ie.ca)=true:=iU P;go_quiet(fail);go_wp2;go_ret;exact⟨by simp[h,j],by first|exact i.o|exact i.drew|exact i.drewN _⟩
  have h:(cl==c.ie.cl)=true:=by simpa using M
  have j:(ca==c.ie.ca)=false:=iU P;go_quiet(fail);go_wp2;go_ret;exact⟨by simp[h,j],by first|exact i.o|exact i.drew|exact i.drewN _⟩
 have h:(cl==c.ie.cl)=false:=by simpa using M
 go_quiet(fail);go_wp2;go_ret;exact⟨nN h,by first|exact i.o|exact i.drew|exact i.drewN _⟩
theorem Nb(h:jf w gH t p qb X V)(T:c∈X.a)(M:c.kind=1)(u)(y:Cx.iX c u=false)(va)(vc):iB 310 #[O p,O (qb c.gU),.agg #[I u.kd,I u.cl,I u.ca,gN va u.val.length vc]] w λen w'=>en=iw/\CS w gH t p qb (X.kY c u) w':=by
 have Y:Hid (X.kY c u=X.put {c with q:=Qn.zero}):=by unfold Hid Cx.kY;rw[aE ⟨M,y⟩]
 let⟨W,Z⟩:=gJ (w.alloc (Mh u va vc));have P:=(Bl.refl w).alloc (Mh u va vc);have hX:=ao w (Mh u va vc);rw[Z]at P hX;let⟨r0,r1,r2,r3,lr⟩:=rX hX;have A:=h.bl P (gI:=gH) hU;obtain⟨cv,Q⟩:=A.r.d c T;have HO:=gP (yM Q u.kd u.cl u.ca va u.val.length vc);have j:(u.cl==c.ie.cl&&u.ca==c.ie.ca)=false:=y;rw[j]at HO;have e0:=Q.cellAt 0 rfl;rw[M]at e0;have lq:=Q.lt;let⟨a0,HW,BW⟩:=iz A Z P;clear h Q Z P hX A y j;generalize hq:qb c.gU=q at*;have Hq:=gP hq;clear hq;go_enter func310,ntmps310;go_upto_region 1 with fail;rw[HW.o];clear HW;go_wp2_with(go_at_call 315;refine gT HO λw2 F=>?_;have H:=a0.bl F (gI:=gH) hU;obtain⟨a2,i⟩:=H.r.d c T;rw[Hq.o]at i;have l3:=i.lt;let⟨a3,a4,a5,a6⟩:=i.T 17 18 19 20 rfl;let⟨a7,a8,a9,aa⟩:=i.T 21 22 23 24 rfl;let⟨ab,ac,ad,ag⟩:=i.T 25 26 27 28 rfl;let⟨ai,ak,al,am⟩:=i.Z 17 18 19 20;let⟨an,ap,aq,ar⟩:=i.Z 21 22 23 24;let⟨au,av,aw,aY⟩:=i.Z 25 26 27 28;let⟨HZ,a1⟩:=gO (H.WO T) F;clear F H i HO);(try simp only[Exit.inBlock,Exit.then])
 refine aG (v:= .tuple #[]) (by simp[results,results310,go_sem]) rfl ⟨rfl,?_⟩;rw[Y.o];have L:=HZ.o;rw[Hq.o]at L;exact CS.D (BW.H a1) (CS.mk L.1 L.2)
theorem Mb(h:jf w gH t p qb X V)(H:100<=t)(hx:nf X)(hc:c∈X.a)(u)(M:¬(c.kind=1/\Cx.iX c u=false))(hA:X.D c.ij)(a4:c.c<1000)(va)(vc)(ht:Rd w gH (t+3) 5 (gN va u.val.length vc) (u.val.map B8)):iB 310 #[O p,O (qb c.gU),.agg #[I u.kd,I u.cl,I u.ca,gN va u.val.length vc]] w λen w'=>en=iw/\CS w gH t p qb (X.kY c u) w':=by
 have a5:Hid (X.kY c u=(X.put {c with jb:=u}).kW {c with jb:=u}):=by
  unfold Hid Cx.kY;rw[az M];unfold Cx.kW;rw[show(X.put {c with jb:=u}).chain=X.chain from rfl];simp only[Cx.D5 X {c with jb:=u}];have:∀n,(X.put {c with jb:=u}).kL {c with jb:=u,c:=n}=X.kL {c with jb:=u,c:=n}:=λn=>by rw[<-Cx.pO (X.put {c with jb:=u}),Cx.DK X (c1:={c with jb:=u}) (c2:={c with jb:=u,c:=n}) rfl,Cx.pO]
  simp only[this]
 let⟨W,hW⟩:=gJ (w.alloc (Mh u va vc));have P:=(Bl.refl w).alloc (Mh u va vc);have hX:=ao w (Mh u va vc);rw[hW]at P hX;let⟨r0,r1,r2,r3,lr⟩:=rX hX;have y:=h.bl P (gI:=gH) hU;obtain⟨cv,F⟩:=y.r.d c hc;have HO:=gP (yM F u.kd u.cl u.ca va u.val.length vc);have HN:Hid (∀W2,Bl W W2->∀W1,ku W2 (qb c.gU) 9 [I u.kd,I u.cl,I u.ca,gN va u.val.length vc]=W1->iB 309 #[O p,O (qb c.gU)] W1 λen w'=>en=iw/\CS w gH t p qb (X.kY c u) w'):=λW2 i W1 e1=>by obtain⟨H1,O1⟩:=(y.bl i (gI:=gH) hU).VV hc u _ (ht.bl (P.H i) λ_ _ e=>e);rw[e1]at H1 O1;refine(zk H1 H (hx.put _) (c:={c with jb:=u}) (Cx.jV hc rfl) hA a4).L λen w'⟨e1,e2⟩=>⟨e1,?_⟩;rw[a5.o];exact CS.D (P.H i) (CS.iW O1 e2)
 have e0:=F.cellAt 0 rfl;have lq:=F.lt;let⟨e9,Q,T,Y⟩:=F.T 9 10 11 12 rfl;let⟨g9,Z,a0,a1⟩:=F.Z 9 10 11 12;let⟨HW,a6⟩:=gO hW y;clear h F hW P hX y ht hx;generalize hq:qb c.gU=q at*;have Hq:=gP hq;clear hq;by_cases A:c.kind=1
 .have a2:(u.cl==c.ie.cl&&u.ca==c.ie.ca)=true:=by
   cases e:Cx.iX c u with
   |true=>exact e
   |false=>exact absurd ⟨A,e⟩ M
  rw[a2]at HO;rw[A]at e0;clear e9 Q T Y g9 Z a0 a1;go_enter func310,ntmps310;go_upto_region 1 with fail;rw[HW.o];clear HW;go_upto_region 4 with(go_at_call 315;refine gT HO λw2 i=>?_;have a3:=a6.bl i (gI:=gH) hU;obtain⟨a9,k4⟩:=a3.r.d c hc;rw[Hq.o]at k4;have l3:=k4.lt;let⟨e9,Q,T,Y⟩:=k4.T 9 10 11 12 rfl;let⟨g9,Z,a0,a1⟩:=k4.Z 9 10 11 12;let⟨z0,z1,z2,z3⟩:=i.M lr r0 r1 r2 r3;have aa:=af lr i.lt;have a7:=gP i;clear i a3 k4 HO);have j:=gP (HN w2 a7 _ rfl);unfold ku ku ku ku ku at j;go_wp2_with(go_at_call 309;refine iO j λw3 HS=>?_);go_end0;exact⟨rfl,HS⟩
 have a8:(c.kind==1)=false:=by simpa using A
 have j:=gP (HN W jC _ rfl);unfold ku ku ku ku ku at j;go_enter func310,ntmps310;go_upto_region 1 with fail;rw[HW.o];clear HW;go_upto_region 4 with fail;go_wp2_with(go_at_call 309;refine iO j λw3 HS=>?_);go_end0;exact⟨rfl,HS⟩
def NI(h:jf w gH t p qb X V)(i:100<=t)(F:nf X)(A:c∈X.a)(u)(H:X.D c.ij)(j:c.c<1000)(va)(vc)(L:Rd w gH (t+3) 5 (gN va u.val.length vc) (u.val.map B8)):iB 310 #[O p,O (qb c.gU),.agg #[I u.kd,I u.cl,I u.ca,gN va u.val.length vc]] w λM w'=>M=iw/\CS w gH t p qb (X.kY c u) w':=by
 by_cases y:c.kind=1/\Cx.iX c u=false
 .exact Nb h A y.1 u y.2 va vc
 exact Mb h i F A u y H j va vc L
def FH(c:jz)(A:An):Bool:=Cx.iX c A.ct||(decide (0<c.c)&&Cx.iX c c.jb)
abbrev ri(A:An)(va:Option Addr)(vc:Nat):Value:= .agg #[I A.wh,I A.ep,I A.mark,I A.ct.kd,I A.ct.cl,I A.ct.ca,.slice va A.ct.val.length vc]
theorem Jb(h:jf w gH t p qb X V)(a1:100<=t)(hx:nf X)(hc:c∈X.a)(A)(va)(vc):iB 311 #[O p,O (qb c.gU),ri A va vc] w λen w'=>en=iw/\CS w gH t p qb (X.kV c A) w':=by
 let⟨W,hW⟩:=gJ (w.alloc (Vd A va vc));have bW:=(Bl.refl w).alloc (Vd A va vc);have hX:=ao w (Vd A va vc);rw[hW]at bW hX;obtain⟨⟨r0,r1,r2,r3,r4,r5,r6⟩,_,lr⟩:=Db hX;have Y:=h.bl bW (gI:=gH) hU;obtain⟨cv,hk⟩:=Y.r.d c hc;obtain⟨ca,cc,a2⟩:=hk.jb.B;rw[ay]at a2;have M:=gP (yM hk A.ct.kd A.ct.cl A.ct.ca va A.ct.val.length vc);have a3:Hid (∀W2,Bl W W2->iB 315 #[O (qb c.gU),.agg #[I c.jb.kd,I c.jb.cl,I c.jb.ca,gN ca c.jb.val.length cc]] W2 λen w'=>en=gX (.bool (c.jb.cl==c.ie.cl&&c.jb.ca==c.ie.ca))/\Bl W2 w'):=λW2 hb=>by obtain⟨bc,b5⟩:=(Y.bl hb (gI:=gH) hU).r.d c hc;exact yM b5 c.jb.kd c.jb.cl c.jb.ca ca c.jb.val.length cc
 let⟨e9,a4,a5,a0⟩:=hk.T 9 10 11 12 rfl;rw[a2]at a0;have Z:=hk.cellAt 13 rfl;have lq:=hk.lt;let⟨b6,HW,BW⟩:=iz Y hW bW;clear h hk hW bW hX Y;have Hx:=gP hx;clear hx;have j:Hid (FH c A=((A.ct.cl==c.ie.cl&&A.ct.ca==c.ie.ca)||(decide (0<c.c)&&(c.jb.cl==c.ie.cl&&c.jb.ca==c.ie.ca)))):=rfl;generalize hq:qb c.gU=q at*;have Hq:=gP hq;clear hq;generalize b7:(A.ct.cl==c.ie.cl&&A.ct.ca==c.ie.ca)=o1 at*;generalize b8:(c.jb.cl==c.ie.cl&&c.jb.ca==c.ie.ca)=o2 at*;clear b7 b8;go_enter func311,ntmps311;go_upto_region 1 with fail;rw[HW.o];clear HW;go_cut[6] λy wx=>y=.bool (FH c A)/\Hid (Bl W wx)
 case first=>
  by_cases hp:0<c.c
  .have Q:decide (0<c.c)=true:=by simpa using hp
   have bd:(0:Int)<(c.c:Int):=C
   cases o1 with
   |true=>go_wp2_with(go_at_call 315;refine iO M λw2 F=>?_);go_meet;exact⟨Z5 Value.bool (by rw[j.o,Q];simp),F⟩
   |false=>go_wp2_with(first|(go_at_call 315;refine gT M λw2 i=>?_;let⟨z9,be,bg⟩:=i.D lq e9 a4 a5;let⟨bi,b9⟩:=i.B lq a0 Z;have ba:=af lq i.lt;have F:=gP i;clear i M)|(go_at_call 315;refine iO (a3 _ F) λw3 bb=>?_));go_meet;exact⟨Z5 Value.bool (by rw[j.o,Q];simp),F.H bb⟩
  have a6:c.c=0:=C;have Q:decide (0<c.c)=false:=iU a6;rw[a6]at Z
  cases o1 with
  |true=>go_wp2_with(go_at_call 315;refine iO M λw2 F=>?_);go_meet;exact⟨Z5 Value.bool (by rw[j.o,Q];simp),F⟩
  |false=>go_wp2_with(go_at_call 315;refine gT M λw2 i=>?_;have b9:=(i.cell lq).H Z;have ba:=af lq i.lt;have F:=gP i;clear i M);go_meet;exact⟨Z5 Value.bool (by rw[j.o,Q];simp),F⟩
 case rest=>
  obtain⟨rfl,HB⟩:=hcut;have H2:=b6.bl HB (gI:=gH) hU;obtain⟨bl,T⟩:=H2.r.d c hc;rw[Hq.o]at T;have l3:=T.lt;have z2:=(HB.cell lr).H r2;have bm:=af lr HB.lt;let⟨y0,y3⟩:=T.R 0 3 rfl;have HZ:=gP (H2.WO hc);have HL:Hid (∀W2,Bl wc W2->∀wh ad,_):=λW2 i wh ad=>JG (H2.bl i (gI:=gH) hU) a1 Hx hc A.mark wh ad;rw[Hq.o]at HL HZ;have hT:X.kV c A=if FH c A then(if c.kind=1 then X.pW c A.mark ⟨1,c.ij,[]⟩else X.pW c A.mark ⟨9,0,[]⟩)else(if c.kind=1 then X.put {c with q:=Qn.zero}else X.pW c A.mark ⟨4,0,[]⟩):=rfl
  have HT:=gP hT;clear hT M a3 e9 a4 a5 a0 Z r0 r1 r2 r3 r4 r5 r6;let⟨a7,a8,a9,aa⟩:=T.T 17 18 19 20 rfl;let⟨ab,ac,ag,ai⟩:=T.T 21 22 23 24 rfl;let⟨ak,al,am,an⟩:=T.T 25 26 27 28 rfl;let⟨ap,aq,ar,au⟩:=T.Z 17 18 19 20;let⟨av,aw,aY,b0⟩:=T.Z 21 22 23 24;let⟨b1,b2,b3,b4⟩:=T.Z 25 26 27 28;have BB:=gP (BW.H HB);clear T H2;by_cases P:c.kind=1
  .rw[P]at y0
   cases hm:FH c A with
   |true=>
    have hE:Hid (X.kV c A=X.pW c A.mark ⟨1,c.ij,[]⟩):=by unfold Hid;rw[HT.o,aE hm,aE P]
    clear a7 a8 a9 aa ab ac ag ai ak al am an ap aq ar au av aw aY b0 b1 b2 b3 b4;go_upto_region 6 with fail;go_region_with(first|(go_at_call 151;refine(HL _ ?hb 1 c.ij).L ?_;(case hb=>exact jg);rintro en w3⟨rfl,hs⟩;have HS:=gP hs;clear hs));all_goals
     go_wp2;first
      |go_end0
      |((try simp only[Exit.inBlock,Exit.then]);refine aG (v:= .tuple #[]) (by simp[results,results311,go_sem]) rfl ?_)
     refine⟨rfl,?_⟩;rw[hE.o];exact CS.D (BB.H jg) HS
   |false=>
    have hE:Hid (X.kV c A=X.put {c with q:=Qn.zero}):=by unfold Hid;rw[HT.o,az (nG hm),aE P]
    go_wp2;first
     |go_end0
     |((try simp only[Exit.inBlock,Exit.then]);refine aG (v:= .tuple #[]) (by simp[results,results311,go_sem]) rfl ?_)
    refine⟨rfl,?_⟩;rw[hE.o];exact CS.D BB (CS.mk HZ.1 HZ.2)
  have bn:(c.kind==1)=false:=by simpa using P
  clear a7 a8 a9 aa ab ac ag ai ak al am an ap aq ar au av aw aY b0 b1 b2 b3 b4
  cases hm:FH c A with
  |true=>
   have hE:Hid (X.kV c A=X.pW c A.mark ⟨9,0,[]⟩):=by unfold Hid;rw[HT.o,aE hm,az P]
   go_wp2_with(go_at_call 151;refine iO (HL _ jC 9 0) λw3 HS=>?_);first
    |go_end0
    |((try simp only[Exit.inBlock,Exit.then]);refine aG (v:= .tuple #[]) (by simp[results,results311,go_sem]) rfl ?_)
   refine⟨rfl,?_⟩;rw[hE.o];exact CS.D BB HS
  |false=>
   have hE:Hid (X.kV c A=X.pW c A.mark ⟨4,0,[]⟩):=by unfold Hid;rw[HT.o,az (nG hm),az P]
   go_wp2_with(go_at_call 151;refine iO (HL _ jC 4 0) λw3 HS=>?_);first
    |go_end0
    |((try simp only[Exit.inBlock,Exit.then]);refine aG (v:= .tuple #[]) (by simp[results,results311,go_sem]) rfl ?_)
   refine⟨rfl,?_⟩;rw[hE.o];exact CS.D BB HS
abbrev sX(A:An)(va:Option Addr)(vc:Nat):Obj:= .cells #[I A.wh,I A.ep,I A.mark,I A.ct.kd,I A.ct.cl,I A.ct.ca,.slice va A.ct.val.length vc] 215
theorem NY(h:jf w gH t p qb X V)(y:100<=t)(P:nf X)(hc:c∈X.a)(hA:X.D c.ij)(W:c.c<1000)(A)(va)(vc)(Y:Rd w gH (t+3) 5 (gN va A.ct.val.length vc) (A.ct.val.map B8)):iB 289 #[O p,O (qb c.gU),ri A va vc] w λen w'=>en=iw/\CS w gH t p qb (X.ou c A) w':=by
 have L:=(Bl.refl w).alloc (sX A va vc);have i:=h.bl L (gI:=gH) hU;have F:=Y.bl L (gI:=gH) λ_ _ e=>e;have H:=gP L;by_cases M:A.wh=1
 .have j:=gP (zk i y P hc hA W);have Q:Hid (X.ou c A=X.kW c):=by unfold Hid Cx.ou;rw[aE M]
  clear h i F Y L P;unfold ri;unfold sX at j H;rw[M]at j H|-;generalize qb c.gU=q at*;go_enter func289,ntmps289;go_wp2_with(go_at_call 309;refine iO j λw3 Z=>?_);go_end0;exact⟨rfl,by rw[Q.o];exact CS.D H Z⟩
 by_cases T:A.wh=2
 .have j:=gP (NI i y P hc A.ct hA W va vc F);have Q:Hid (X.ou c A=X.kY c A.ct):=by unfold Hid Cx.ou;rw[az M,aE T]
  clear h i F Y L P M;unfold ri;unfold sX at j H;rw[T]at j H|-;generalize qb c.gU=q at*;go_enter func289,ntmps289;go_wp2_with(go_at_call 310;refine iO j λw3 Z=>?_);go_end0;exact⟨rfl,by rw[Q.o];exact CS.D H Z⟩
 by_cases h4:A.wh=4
 .have j:=gP (Jb i y P hc A va vc);have Q:Hid (X.ou c A=X.kV c A):=by unfold Hid Cx.ou;rw[az M,az T,aE h4]
  clear h i F Y L P M T;unfold ri at j|-;unfold sX at j H;rw[h4]at j H|-;generalize qb c.gU=q at*;go_enter func289,ntmps289;go_wp2_with(go_at_call 311;refine iO j λw3 Z=>?_);go_end0;exact⟨rfl,by rw[Q.o];exact CS.D H Z⟩
 have Q:X.ou c A=X:=by unfold Cx.ou;rw[az M,az T,az h4,Cx.wF X h.r.a.gU hc]
 have HF:=gP (CS.B ⟨V,h⟩ L);have b1:(A.wh==1)=false:=iU M;have b2:(A.wh==2)=false:=iU T;have b4:(A.wh==4)=false:=iU h4;rw[Q];clear h i F Y L P H;unfold ri;unfold sX at HF;generalize qb c.gU=q at*;go_enter func289,ntmps289;go_wp2;go_end0;exact⟨rfl,HF⟩
def P6:Value->Int
 | .agg a=>Go.RowKit.intOf ((a[0]?).getD undef)
 |_=>0
def xw(k:Int)(l:List MapEntry):Nat:=(l.filter λx=>P6 x.val==k).length
def BJ(k)(e)(l):xw k (e::l)=xw k l+if P6 e.val==k then 1 else 0:=by unfold xw;rw[cT];split<;>simp
def Lc{l1 l2:List MapEntry}(h:l1.Perm l2):xw k l1=xw k l2:=(h.filter _).length_eq
def Rm(k)(l):xw k l<=l.length:=bF _ _
theorem Ek(k):∀(l:List Ae) (zz:List (Int×An)),l.length=zz.length->(∀(i:Nat) e z,l[i]?=some e->zz[i]?=some z->P6 e.v=z.2.wh)->xw k (l.map Ae.A)=(zz.filter λz=>z.2.wh==k).length
 |[],[],_,_=>rfl
 |[],_::_,h,_=>mi h
 |_::_,[],h,_=>mi h
 |e::l,z::zz,h,j=>by have y:=j 0 e z rfl rfl;rw[bj,BJ,Ek k l zz (iU h) λi e' A F H=>j (i+1) e' A (iU F) (iU H),cT];show _+(if P6 e.v==k then 1 else 0)=_;rw[y];split<;>simp
def Mm.GC{clk:Nat}(h:Mm w gm clk l zz (nY.ev w gH t))(k):xw k (iu l).toList=(zz.filter λz=>z.2.wh==k).length:=by
 have:(iu l).toList=l.map Ae.A:=by simp[iu]
 rw[this];refine Ek k l zz h.len λi e z j y=>?_;obtain⟨_,s,A,_⟩:=h.jU i e z j y;rw[A];rfl
def Mm.agg{clk:Nat}(h:Mm w gm clk l zz (nY.ev w gH t)):∀x∈(iu l).toList,∃(j y A F H L:Int) (M:Option Addr) (P Q:Nat),x.val=.agg #[I j,I y,I A,I F,I H,I L,gN M P Q]:=λx T=>by obtain⟨e,W,rfl⟩:=lQ T;obtain⟨i,Y,rfl⟩:=aV.1 W;have hl:=h.len;obtain⟨_,s,Z,h4⟩:=h.jU i l[i] zz[i] (ah Y) (ah C);obtain⟨a,c,rfl⟩:=h4.B;exact⟨_,_,_,_,_,_,_,_,_,Z⟩
def Mm.born{α:Type}{clk:Nat}{zz:List (Int×α)}{R:α->Value->Prop}(h:Mm w gm clk l zz R):(∀x∈(iu l).toList,x.born<clk)/\((iu l).toList.map (·.born)).Nodup:=by
 have i:(iu l).toList=l.map Ae.A:=by simp[iu]
 refine⟨λx j=>?_,?_⟩
 .obtain⟨e,y,rfl⟩:=lQ j;exact h.bo e y
 rw[i,br];exact h.nd
theorem EH(x0)(x1 x2 x3 x4 x5)(va)(vn vc)(w):iB 291 #[.agg #[I x0,I x1,I x2,I x3,I x4,I x5,gN va vn vc]] w λh w'=>h=gX (.bool (x0==1))/\Bl w w':=by go_enter func291,ntmps291;go_wp2;go_ret;exact⟨gG,jC.alloc _⟩
theorem D8(x0)(x1 x2 x3 x4 x5)(va)(vn vc)(w):iB 307 #[.agg #[I x0,I x1,I x2,I x3,I x4,I x5,gN va vn vc]] w λh w'=>h=gX (.bool (x0==2))/\Bl w w':=by go_enter func307,ntmps307;go_wp2;go_ret;exact⟨gG,jC.alloc _⟩
theorem zQ(k:Int)(F:Nat)(hF:F=291\/F=307)(hS:∀(M x1 x2 x3 x4 x5:Int) (va:Option Addr) (vn vc:Nat) (w:World),iB F #[.agg #[I M,I x1,I x2,I x3,I x4,I x5,gN va vn vc]] w λen w'=>en=gX (.bool (M==k))/\Bl w w'){o clk:Nat}(h:Mm w gm clk l zz (nY.ev w gH t))(BD:w.cell? (U g (o+11))=some (.map (some gm)))(a5:zz.length<=100):iB 290 #[.pointer (some (U g o)),.func (.func F) #[] #[]] w λen w'=>en=gX (I ((zz.filter λz=>z.2.wh==k).length:Nat))/\Bl w w':=by
 let⟨HF,HC,HE⟩:=iz hS (h.GC k) h.agg;obtain⟨bo,nd⟩:=h.born;let⟨HM,a2,a3⟩:=iz h.mp bo nd;have Y:(iu l).size<=100:=by have:=h.len;simp[iu];omega
 generalize iu l=es at*;have HS:=gP Y;clear h bo nd Y hS;go_enter func290,ntmps290;go_wp2_with(at_range;refine j9 _ rfl _ 101 rfl 3 215 underlying101 gm es clk rfl HM a2 a3 ?_;intro hI;have HI:=gP hI;clear hI);go_frame;go_loopw[5](λv wr=>∃i:List MapEntry,v=I (xw k i:Nat)/\Hid (Bl w wr)/\Hid (It wr w.heap.size gm es clk i)) λ_ wr=>es.size-(wr.iterSeen w.heap.size).size
 case atStart=>exact⟨[],rfl,jC.alloc _,HI⟩
 obtain⟨i,rfl,HB,HJ⟩:=hrel;have a6:xw k i<=100:=by have:=Rm k i;have:=HJ.len;have:=HS.o;omega
 go_wp2_with(at_next;refine kQ _ rfl _ rfl w.heap.size gm clk es i rfl HJ ?_ ?_)
 .intro h0;have hL:=(Lc (k:=k) h0).H HC;rw[hL];go_wp2;go_ret;exact⟨rfl,HB⟩
 intro e W he Z hO a4;let⟨M,x1,x2,x3,x4,x5,va,vn,vc,hx⟩:=HE e (iU he);have P:=BJ k e i;rw[show P6 e.val=M by rw[hx];rfl]at P;rw[hx]at a4|-;have HW:Hid (Bl w W):=HB.A hO λb hb=>C;let⟨a0,a1⟩:=gO Z P;generalize xw k i=n at*;clear Z hO he P hx;by_cases hp:M=k
 .have Q:Hid (xw k (e::i)=n+1):=by unfold Hid;rw[a1.o,hp];simp
  have L:(M==k)=true:=iU hp;clear hp;obtain rfl|rfl:=hF;all_goals
   go_wp2_with((first|go_at_call 291|go_at_call 307);refine gT (HF _ _ _ _ _ _ _ _ _ _) λw2 y=>?_;rw[L];have A:=gP y;clear y);obtain⟨j,T⟩:=gO ((a0.bl ((Bl.refl W).alloc _)).bl A) ((HW.alloc _).H A);go_wp2;go_roundw
   case rel=>exact⟨e::i,by rw[Q.o];go_num,T,j⟩
   have e1:w2.iterSeen w.heap.size=((e::i).map (·.born)).reverse.toArray:=by unfold World.iterSeen;rw[j.it]
   have e2:wr.iterSeen w.heap.size=(i.map (·.born)).reverse.toArray:=by unfold World.iterSeen;rw[HJ.it]
   have:=j.len;rw[e1,e2];simp at this|-;omega
 have L:(M==k)=false:=by simpa using hp
 have Q:Hid (xw k (e::i)=n):=by unfold Hid;rw[a1.o,L];simp
 obtain rfl|rfl:=hF;all_goals
  go_wp2_with((first|go_at_call 291|go_at_call 307);refine gT (HF _ _ _ _ _ _ _ _ _ _) λw2 y=>?_;rw[L];have A:=gP y;clear y);obtain⟨j,T⟩:=gO ((a0.bl ((Bl.refl W).alloc _)).bl A) ((HW.alloc _).H A);go_roundw
  case rel=>exact⟨e::i,mf Q.o,T,j⟩
  have e1:w2.iterSeen w.heap.size=((e::i).map (·.born)).reverse.toArray:=by unfold World.iterSeen;rw[j.it]
  have e2:wr.iterSeen w.heap.size=(i.map (·.born)).reverse.toArray:=by unfold World.iterSeen;rw[HJ.it]
  have:=j.len;rw[e1,e2];simp at this|-;omega
def JB{o clk:Nat}(h:Mm w gm clk l zz (nY.ev w gH t))(j:w.cell? (U g (o+11))=some (.map (some gm)))(i:zz.length<=100):iB 290 #[.pointer (some (U g o)),.func (.func 291) #[] #[]] w λy w'=>y=gX (I ((zz.filter λz=>z.2.wh==1).length:Nat))/\Bl w w':=zQ 1 291 (.inl rfl) EH h j i
def Jg{o clk:Nat}(h:Mm w gm clk l zz (nY.ev w gH t))(j:w.cell? (U g (o+11))=some (.map (some gm)))(i:zz.length<=100):iB 290 #[.pointer (some (U g o)),.func (.func 307) #[] #[]] w λy w'=>y=gX (I ((zz.filter λz=>z.2.wh==2).length:Nat))/\Bl w w':=zQ 2 307 (.inr rfl) D8 h j i
def Pj(w)(gm n)(l)(h:w.heap[gm]?=some (.map (iu l) n)):(Builtin.len_ #[101] 3 #[.map (some gm)]).run prog w=.ok (I l.length) w:=by
 have:(iu l).size=l.length:=by simp[iu]
 simp[Builtin.len_,aI h,this];rfl
def Ot(W)(x0 x1 x2 x3 x4 x5)(va)(vn vc):(Instr.field 215 (.agg #[I x0,I x1,I x2,I x3,I x4,I x5,gN va vn vc]) 3).run prog W=.ok (.agg #[I x3,I x4,I x5,gN va vn vc]) W:=rfl
def MI(l)(k)(h:∃e∈l,e.k=k):∃(j:Nat) (e:Ae),l[j]?=some e/\e.k=k/\∀(w:World) (gm n:Nat),w.heap[gm]?=some (.map (iu l) n)->(Instr.lookup 101 (.map (some gm)) (.int .i64 k) false).run prog w=.ok e.v w:=by
 have A:(iu l).toList=l.map Ae.A:=by simp[iu]
 obtain⟨_,i⟩|⟨j,x,F,i,H⟩:=ZR (d:= .int .i64) (k:= .int .i64 k) rfl (iu l).toList 0 (rM _)
 .let⟨e,y,L⟩:=h;exact absurd (by rw[<-L];rfl) (i e.A (by rw[A];exact aD.2 ⟨e,y,rfl⟩))
 rw[A,aK]at i;obtain⟨e,y,rfl⟩:=bN.1 i;refine⟨j,e,y,by simpa [Ae.A]using H,λw gm n M=>?_⟩;have Q:=fa (P:=prog) (w:=w) underlying3 F;have T:=eW (P:=prog) (w:=w) (k:= .int .i64 k) underlying3 um (iu l).isEmpty 9999;simp[Instr.lookup,Sem.run_bind,Z4 underlying101,Result.andThen,aI M,T,Q];rfl
theorem RS(h:(zz.map (·.1)).Nodup){j:Nat}{z:Int×An}(i:zz[j]?=some z)(k)(F:z.1=k):zz.find? (λz=>z.1==k)=some z:=by
 induction zz generalizing j with
 |nil=>simp at i
 |cons y ys H=>
  rw[List.find?_cons]
  cases j with
  |zero=>simp_all
  |succ j=>
   have A:(y.1==k)=false:=by simp only[bj,bY]at h;have:=h.1;simp;intro e;exact this (by rw[e,<-F];exact aD.2 ⟨z,aR (iU i),rfl⟩)
   rw[A];exact H (by simp at h;exact h.2) (iU i)
structure VT(c:jz):Prop where
 ne:0<c.q.nodes.length
 le:c.q.nodes.length<=100
 la:c.q.B.length<=100
 hd:c.q.B.length<c.q.nodes.length\/∃z∈c.q.B,z.1=c.q.nodes.headD 0
theorem Iz(h:jf w gH t p qb X V)(j:100<=t)(L:nf X)(M:c∈X.a)(A)(P:A.wh=4)(va)(vc):iB 288 #[O p,O (qb c.gU),ri A va vc] w λT w'=>T=iw/\CS w gH t p qb (X.oe c A) w':=by
 have y:=(Bl.refl w).alloc (sX A va vc);have i:=h.bl y (gI:=gH) hU;obtain⟨cv,Q⟩:=i.r.d c M;have Z:=Q.lt;let⟨F,H⟩:=gO y (JG i j L M A.mark 4 0);have W:Hid (X.oe c A=X.pW c A.mark ⟨4,0,[]⟩):=by unfold Hid Cx.oe;rw[aE P]
 clear h i y Q L;unfold ri;unfold sX at H F;rw[P]at H F|-;generalize qb c.gU=q at*;go_enter func288,ntmps288;go_wp2_with(go_at_call 151;refine iO H λw3 Y=>?_);go_end0;exact⟨rfl,by rw[W.o];exact CS.D F Y⟩
theorem M3(h:jf w gH t p qb X V)(hc:c∈X.a)(A)(h1:A.wh≠4)(hL:VT c)(va)(vc):iB 288 #[O p,O (qb c.gU),ri A va vc] w λen w'=>en=iw/\CS w gH t p qb (X.oe c A) w':=by
 obtain⟨W,hW⟩:=gJ (w.alloc (sX A va vc));have bW:=(Bl.refl w).alloc (sX A va vc);have a0:=ao w (sX A va vc);rw[hW]at bW a0;have a5:=h.bl bW (gI:=gH) hU;obtain⟨cv,hk⟩:=a5.r.d c hc;have bg:(A.wh==4)=false:=iU h1;have r0:W.cell? (U w.heap.size 0)=some (I A.wh):=ax W w.heap.size 0 _ 215 (0,0) a0;have lr:=(ae.1 a0).1;obtain⟨gm,clk,l,ac,bi,a1⟩:∃gm clk l,cv.q.av=.map (some gm)/\gH gm=t+9+2*c.a/\Mm W gm clk l c.q.B (nY.ev W gH (t+3)):=by
  obtain⟨e,_⟩|⟨gm,clk,l,e⟩:=hk.q.B
  .have:=hk.q.nil e;have:=hL.ne;simp_all
  exact⟨gm,clk,l,e⟩
 have aw:=a1.len;have hm:=a1.mp;obtain⟨bn,on,cn,a6,ag,_,_,Q⟩:=hk.q.nodes.cell (by simpa using hL.ne);rw[ay]at a6;obtain⟨a2,a3⟩:=hk.R 26 28 rfl;rw[a6]at a2;rw[ac]at a3;have lq:=hk.lt;have ai:=Pj W gm clk l hm;have a7:=Pj W.drew gm clk l hm;obtain⟨HW,BW,Hm⟩:=iz hW bW hm;obtain⟨a8,P⟩:=gO a5 a1;have ak:=(ae.1 hm).1;have aY:=hL.la;have bl:=hL.le;have b0:=gP (Cx.wF X h.r.a.gU hc);clear h hk hW bW a0 a5 hm a1 a6 ac;generalize hq:qb c.gU=q at*;have Hq:=gP hq;clear hq;go_enter func288,ntmps288;go_upto_region 5 with fail;rw[HW.o];go_cut[24] λy wx=>y=.bool (decide ((l.length:Int)<(c.q.nodes.length:Int)))/\Hid (Bl W wx)
 case first=>
  go_region;all_goals(go_wp2_with fail;go_meet)
  all_goals exact⟨nN aw,jg⟩
 case rest=>
  obtain⟨rfl,HB⟩:=hcut;obtain⟨W5,rfl⟩:∃W5,W5=wc:=⟨_,rfl⟩;by_cases ja:l.length<c.q.nodes.length
  .have hd:decide ((l.length:Int)<(c.q.nodes.length:Int))=true:=ig;rw[hd];have hX:Hid (X.oe c A=X):=by unfold Hid Cx.oe;rw[az h1,aE C,b0.o]
   go_wp2;(try simp only[Exit.inBlock,Exit.then])
   refine aG (v:= .tuple #[]) (by simp[results,results288,go_sem]) rfl ⟨rfl,?_⟩;rw[hX.o];exact CS.D BW (CS.B ⟨V,a8⟩ HB)
  have hd:decide ((l.length:Int)<(c.q.nodes.length:Int))=false:=ig;rw[hd];obtain⟨al,am⟩:=HB.B lq a2 a3;have an:=af lq HB.lt;have b1:Hid (∀Y,Bl W Y->Mm Y gm clk l c.q.B (nY.ev Y gH (t+3))):=λY F=>⟨(F.heap ak).H P.mp,P.len,λi e z he hz=>by
   obtain⟨k1,k2⟩:=P.jU i e z he hz
   exact⟨k1,nY.only k2 (iT F) (λ_ _ e=>e.elim) λ_ _ e=>e⟩,P.bo,P.nd,P.ky⟩
  have a9:=gP λY (F:Bl W5 Y)=>Jg (w:=Y) (gH:=gH) (t:=t+3) (g:=q) (o:=17) (b1 Y (HB.H F)) ((F.cell an).H am) aY;have b2:Hid ((c.q.B.filter λz=>z.2.wh==2).length=c.q.count λa=>a.wh==2):=rfl;rw[b2.o]at a9;go_upto_region 6 with fail;go_cut[36] λy wx=>y=.bool ((c.q.count (λa=>a.wh==2):Int)==(c.q.nodes.length:Int))/\Hid (Bl W5 wx)
  case first=>
   go_region_held3(λW=>W.cell? (U q 26)=some (gN (some (U bn on)) c.q.nodes.length cn)) (go_keep) (first|(go_at_call 290;refine(a9 _ ?hb).L ?_;(case hb=>exact jg);rintro en w2⟨rfl,F⟩;have hB:Bl W5 w2:=Bl.H jg F;have z4:=(hB.cell an).H al;have aa:=gP hB;clear F hB));all_goals(go_wp2_with fail;go_meet)
   all_goals exact⟨rfl,aa⟩
  case rest=>
   obtain⟨rfl,aa⟩:=hcut;have M:=gP (HB.H aa);by_cases ap:c.q.count (λa=>a.wh==2)=c.q.nodes.length
   .have ab:((c.q.count (λa=>a.wh==2):Int)==(c.q.nodes.length:Int))=true:=ig;rw[ab];have a4:∃e∈l,e.k=c.q.nodes.headD 0:=by obtain⟨z,b3,b4⟩:=hL.hd.resolve_left C;obtain⟨i,hi,rfl⟩:=aV.1 b3;have aq:i<l.length:=C;exact⟨l[i],aL aq,by rw[(P.jU i l[i] _ (ah aq) (ah hi)).1];exact b4⟩
    obtain⟨j,e,e1,e2,e4⟩:=MI l _ a4;have hj:=(aj.1 e1).1;have ar:j<c.q.B.length:=C;obtain⟨f1,s,f2,f3⟩:=P.jU j e c.q.B[j] e1 (ah ar);have au:=RS P.ky (ah ar) (c.q.nodes.headD 0) (by rw[<-e2,f1]);have hX:Hid (X.oe c A=X.fin c (Cx.py c.q.B[j].2.ct)):=by unfold Hid Cx.oe;rw[az h1,az C,aE ap,au];rfl
    obtain⟨sa,sc,rfl⟩:=f3.B;rw[ay]at f2 f3;generalize c.q.B[j].2=Z at*;rw[f2]at e4;have T:=(M.heap ak).H Hm;have ba:=e4 wc gm clk T;have b5:=λk=>e4 (wc.drewN k) gm clk T;have b6:=e4 wc.drew gm clk T;have c0:wc.cell? (U bn on)=some (I (c.q.nodes.headD 0)):=by
     have:=Q 0 (I (c.q.nodes.headD 0)) (by
      cases b7:c.q.nodes with
      |nil=>have:=hL.ne;rw[b7]at this;simp at this
      |cons y ys=>rfl)
     exact(M.cell ag).H this
    obtain⟨bb,bc⟩:=M.B lq a2 a3;have bd:=af lq M.lt;have bm:=af ag M.lt;have bo:(0:Int)<(c.q.nodes.length:Int):=by have:=hL.ne;omega
    have be:=λW=>Ot W Z.wh Z.ep Z.mark Z.ct.kd Z.ct.cl Z.ct.ca sa Z.ct.val.length sc;obtain⟨HT,b8⟩:=gO (Gs Z.ct.kd Z.ct.cl Z.ct.ca sa Z.ct.val.length sc) f3;have HN:Hid (∀Y,Bl wc Y->_):=λY F=>xr (a8.bl (M.H F) (gI:=gH) hU) hc (Cx.py Z.ct) sa sc (b8.bl (M.H F) λ_ _ e=>e);simp only[show(Cx.py Z.ct).wh=Z.ct.kd from rfl,show(Cx.py Z.ct).ad=0 from rfl,show(Cx.py Z.ct).val=Z.ct.val from rfl]at HN;rw[Hq.o]at HN;clear e4 au e1 e2 a4 f1 f2 f3 T a9 al am a2 a3 Q ai a7;generalize c.q.nodes.headD 0=k0 at*;go_upto_region 7 with fail;go_region_with(first|(go_at_call 308;refine gT (HT _) λw2 F=>?_;have hB:Bl wc w2:=Bl.H jg F;have av:=gP hB;clear F hB)|(go_at_call 96;refine(HN _ (av.H ?hb)).L ?_;(case hb=>exact jg);rintro en w3⟨rfl,hs⟩;obtain⟨HS,b9⟩:=gO hs (av.H jg);clear hs));all_goals
     go_wp2;go_end0;exact⟨rfl,by rw[hX.o];exact CS.D (BW.H (M.H b9)) HS⟩
   have ab:((c.q.count (λa=>a.wh==2):Int)==(c.q.nodes.length:Int))=false:=ig;rw[ab];have hX:Hid (X.oe c A=X.fin c ⟨3,0,[]⟩):=by unfold Hid Cx.oe;rw[az h1,az C,az ap]
   have HN:=gP (xr (a8.bl M (gI:=gH) hU) hc ⟨3,0,[]⟩ none 0 Rd.nil);simp only[dA]at HN;rw[Hq.o]at HN;go_wp2_with(go_at_call 96;refine iO HN λw3 HS=>?_);go_end0;exact⟨rfl,by rw[hX.o];exact CS.D (BW.H M) HS⟩
structure Sy(X:Cx)(c:jz):Prop where
 lk:VT c
 wr:c.q.A.kd=2->X.D c.ij/\c.c<1000
theorem Th(h:jf w gH t p qb X V)(a2:100<=t)(hx:nf X)(hc:c∈X.a)(A)(hG:Sy X c)(va)(vc)(ht:Rd w gH (t+3) 5 (gN va A.ct.val.length vc) (A.ct.val.map B8)):iB 273 #[O p,O (qb c.gU),ri A va vc] w λen w'=>en=iw/\CS w gH t p qb (X.rT c A) w':=by
 have bW:=(Bl.refl w).alloc (sX A va vc);have j:=h.bl bW (gI:=gH) hU;have T:=ht.bl bW (gI:=gH) λ_ _ e=>e;have BW:=gP bW;obtain⟨cv,Q⟩:=j.r.d c hc;have P:=Q.cellAt 17 rfl;have lq:=Q.lt;have a3:=Cx.wF X h.r.a.gU hc;by_cases h3:c.q.A.kd=3
 .have Z:Hid (iB 288 #[O p,O (qb c.gU),ri A va vc] (w.alloc (sX A va vc)) λen w'=>en=iw/\CS (w.alloc (sX A va vc)) gH t p qb (X.oe c A) w'):=by
   by_cases h1:A.wh=4
   .exact Iz j a2 hx hc A h1 va vc
   exact M3 j hc A h1 hG.lk va vc
  have hX:Hid (X.rT c A=X.oe c A):=by unfold Hid Cx.rT;rw[aE h3]
  rw[h3]at P;clear h j T ht bW Q hx hG;unfold ri at Z|-;unfold sX at Z BW P lq;generalize qb c.gU=q at*;go_enter func273,ntmps273;go_wp2_with(go_at_call 288;refine iO Z λw3 HS=>?_);go_end0;exact⟨rfl,by rw[hX.o];exact CS.D BW HS⟩
 by_cases h2:c.q.A.kd=2
 .have Z:=gP (NY j a2 hx hc (hG.wr h2).1 (hG.wr h2).2 A va vc T);have hX:Hid (X.rT c A=X.ou c A):=by unfold Hid Cx.rT;rw[az h3,aE h2]
  rw[h2]at P;clear h j T ht bW Q hx hG h3;unfold ri at Z|-;unfold sX at Z BW P lq;generalize qb c.gU=q at*;go_enter func273,ntmps273;go_wp2_with(go_at_call 289;refine iO Z λw3 HS=>?_);go_end0;exact⟨rfl,by rw[hX.o];exact CS.D BW HS⟩
 by_cases h4:c.q.A.kd=4
 .let⟨W,hW⟩:=gJ (w.alloc (sX A va vc));rw[hW]at bW j T BW Q P lq;have hL:=hG.lk;obtain⟨gm,clk,l,ab,an,F⟩:∃gm clk l,cv.q.av=.map (some gm)/\gH gm=t+9+2*c.a/\Mm W gm clk l c.q.B (nY.ev W gH (t+3)):=by
   obtain⟨e,_⟩|⟨gm,clk,l,e⟩:=Q.q.B
   .have:=Q.q.nil e;have:=hL.ne;simp_all
   exact⟨gm,clk,l,e⟩
  have ak:=(ae.1 F.mp).1;obtain⟨bn,on,cn,a4,ap,_,_,a0⟩:=Q.q.nodes.cell (by simpa using hL.ne);rw[ay]at a4;obtain⟨ea,ec,a1⟩:=Q.e.B;rw[ay]at a1;let⟨a5,a6,ac⟩:=Q.Km 26 28 14 rfl;let⟨ad,a7⟩:=Q.R 15 16 rfl;rw[a4]at a5;rw[ab]at a6;rw[a1]at a7;have a8:=Q.e;rw[a1]at a8;let⟨al,HW,ag⟩:=iz a8 hW j;have a9:=gP (λW2 (Y:Bl W W2)=>JB (w:=W2) (gH:=gH) (t:=t+3) (g:=qb c.gU) (o:=17) (gm:=gm) (clk:=clk) (l:=l) (zz:=c.q.B) ⟨(Y.heap ak).H F.mp,F.len,λi e z he hz=>by
   obtain⟨k1,k2⟩:=F.jU i e z he hz
   exact⟨k1,nY.only k2 (iT Y) (λ_ _ e=>e.elim) λ_ _ e=>e⟩,F.bo,F.nd,F.ky⟩ ((Y.cell lq).H a6) hL.la)
  have am:Hid ((c.q.B.filter λz=>z.2.wh==1).length=c.q.count λa=>a.wh==1):=rfl;rw[am.o]at a9;rw[h4]at P;clear h j T ht bW Q F hW a0 a8 a4 ab a1 hx;unfold ri;unfold sX at HW;generalize hq:qb c.gU=q at*;have Hq:=gP hq;clear hq;go_enter func273,ntmps273;go_upto_region 1 with fail;rw[HW.o];clear HW;go_upto_region 7 with fail;go_cut[36] λy wx=>y=.bool ((c.q.count (λa=>a.wh==1):Int)==(c.q.nodes.length:Int))/\Hid (Bl W wx)
  case first=>
   go_region_held3(λW=>W.cell? (U q 26)=some (gN (some (U bn on)) c.q.nodes.length cn)) (go_keep) (first|(go_at_call 290;refine(a9 _ ?hb).L ?_;(case hb=>exact jg);rintro en w2⟨rfl,Y⟩;have hB:Bl W w2:=Bl.H jg Y;have z4:=(hB.cell lq).H a5;have M:=gP hB;clear Y hB));all_goals(go_wp2_with fail;go_meet)
   all_goals exact⟨rfl,M⟩
  case rest=>
   obtain⟨rfl,M⟩:=hcut;let⟨aq,ar,au⟩:=M.D lq ac ad a7;have av:=af lq M.lt;clear ac ad a7 a5 a6 a9;by_cases ai:c.q.count (λa=>a.wh==1)=c.q.nodes.length
   .have aa:((c.q.count (λa=>a.wh==1):Int)==(c.q.nodes.length:Int))=true:=ig;rw[aa];have hX:Hid (X.rT c A=X.fin c c.e):=by unfold Hid Cx.rT;rw[az h3,az h2,aE h4,aE ai]
    have Z:=gP (xr (ag.bl M (gI:=gH) hU) hc c.e ea ec (al.bl M λ_ _ e=>e));rw[Hq.o]at Z;go_wp2_with(go_at_call 96;refine iO Z λw3 HS=>?_);go_end0;exact⟨rfl,by rw[hX.o];exact CS.D (BW.H M) HS⟩
   have aa:((c.q.count (λa=>a.wh==1):Int)==(c.q.nodes.length:Int))=false:=ig;rw[aa];have hX:Hid (X.rT c A=X):=by unfold Hid Cx.rT;rw[az h3,az h2,aE h4,az ai,a3]
   go_wp2;go_end0;refine⟨rfl,?_⟩;rw[hX.o];exact CS.D BW (CS.B ⟨V,ag⟩ M)
 have hX:X.rT c A=X:=by unfold Cx.rT;rw[az h3,az h2,az h4,a3]
 have HF:=gP (CS.B ⟨V,h⟩ bW);have b3:(c.q.A.kd==3)=false:=iU h3;have b2:(c.q.A.kd==2)=false:=iU h2;have b4:(c.q.A.kd==4)=false:=iU h4;rw[hX];clear h j T ht bW hx BW Q hG a3;unfold ri;unfold sX at HF P lq;generalize qb c.gU=q at*;go_enter func273,ntmps273;go_wp2;go_end0;exact⟨rfl,HF⟩
theorem OJ(w)(b o c)(ns:List Int)(x)(hl:ns.length<=1000)(hc:∀j d,ns[j]?=some d->w.cell? (U b (o+j))=some (I d)):iB 193 #[gN (some (U b o)) ns.length c,I x] w λen w'=>∃r:Int,en=gX (I r)/\(0<=r↔x∈ns)/\w'=w:=by
 have Hc:=gP hc;clear hc;go_enter func193,ntmps193;go_wp2;go_loopw[8](λi wr=>∃j:Nat,j<=ns.length/\i=I j/\wr=w/\Hid (∀t d,t<j->ns[t]?=some d->d≠x)) λi _=>ns.length-(Go.RowKit.intOf i).toNat
 case atStart=>exact⟨0,ju,rfl,rfl,λt d h=>absurd h C⟩
 obtain⟨j,hj,rfl,rfl,HJ⟩:=hrel;by_cases ja:j<ns.length
 .have q0:=Hc j ns[j] (ah ja);have Hm:Hid (ns[j]∈ns):=aL ja;have Hg:=gP (ah ja);have hltI:(j:Int)<(ns.length:Int):=C;generalize ns[j]=y at*;by_cases he:x=y
  .subst he;go_wp2;go_ret;exact⟨_,rfl,⟨λ_=>Hm.o,λ_=>C⟩,rfl⟩
  go_wp2;refine⟨⟨j+1,C,gG,trivial,λt d ht hd=>?_⟩,iC⟩;by_cases e:t=j
  .subst e;rw[Hg.o]at hd;simp at hd;exact λh=>he (h.symm.H hd.symm)
  exact HJ t d C hd
 have hge:¬((j:Int)<(ns.length:Int)):=C;go_wp2;go_ret;refine⟨_,rfl,⟨λh=>absurd h gF,λh=>?_⟩,rfl⟩;obtain⟨i,hi,e⟩:=aV.1 h;exact absurd e (HJ i _ C (ah hi))
theorem Co(w)(b o c)(ns:List Int)(x)(i:ns.length<=1000)(y:∀j d,ns[j]?=some d->w.cell? (U b (o+j))=some (I d)):iB 153 #[gN (some (U b o)) ns.length c,I x] w λh w'=>h=gX (.bool (decide (x∈ns)))/\w'=w:=by
 go_enter func153,ntmps153;go_wp2_with(refine (gP (OJ w b o c ns x i y)).o.L ?_;rintro h w'⟨r,rfl,A,rfl⟩);go_ret;simp_all
def Qt(w)(a)(c)(x):Calls prog 193 #[gN a 0 c,I x] w λh w'=>h=gX (I (-1))/\w'=w:=by go_wp2;refine Z6 1 ?_;rw[ZZ];go_wp2;go_ret;simp_all
theorem CE(w)(a)(c)(x):iB 153 #[gN a 0 c,I x] w λh w'=>h=gX (.bool false)/\w'=w:=by go_enter func153,ntmps153;go_wp2_with(refine (gP (Qt w a c x)).o.L ?_;rintro h w'⟨rfl,rfl⟩);go_ret;simp_all
def xh{A:Nat}{y:Value}(h:Rd w gH A 3 y (ns.map I))(F:ns.length<=1000)(x):iB 153 #[y,I x] w λH w'=>H=gX (.bool (decide (x∈ns)))/\w'=w:=by
 by_cases L:0<ns.length
 .obtain⟨b,o,c,rfl,P,_,_,i⟩:=h.cell (iU L);rw[ay];exact Co w b o c ns x F λj d M=>i j _ (nN M)
 have e:ns=[]:=aW.1 C;subst e;obtain⟨a,c,rfl⟩:=h.B;simpa using CE w a c x
def pM(l)(k)(h:∀e∈l,e.k≠k):Instr.findNow (.int .i64) (.int .i64 k) (iu l).toList 0=some none:=by
 have y:(iu l).toList=l.map Ae.A:=by simp[iu]
 obtain⟨A,_⟩|⟨j,x,A,i,F⟩:=ZR (d:= .int .i64) (k:= .int .i64 k) rfl (iu l).toList 0 (rM _)
 .omega
 rw[y,aK]at i;obtain⟨e,H,rfl⟩:=bN.1 i;exact absurd (by simpa [Ae.A]using F) (h e (aR H))
def sL(l)(k)(h:∃e∈l,e.k=k):∃(j:Nat) (e:Ae),l[j]?=some e/\e.k=k/\Instr.findNow (.int .i64) (.int .i64 k) (iu l).toList 0=some (some (j,e.v)):=by
 have A:(iu l).toList=l.map Ae.A:=by simp[iu]
 obtain⟨_,i⟩|⟨j,x,F,i,H⟩:=ZR (d:= .int .i64) (k:= .int .i64 k) rfl (iu l).toList 0 (rM _)
 .let⟨e,y,L⟩:=h;exact absurd (by rw[<-L];rfl) (i e.A (by rw[A];exact aD.2 ⟨e,y,rfl⟩))
 rw[A,aK]at i;obtain⟨e,y,rfl⟩:=bN.1 i;exact⟨j,e,y,by simpa [Ae.A]using H,by simpa [Ae.A]using F⟩
structure Uz{α:Type}[nY α](w:World)(gH:Nat->Nat)(ga t g o:Nat)(q:Qn α)(V:QV):Prop where
 r:QR w gH ga t q V
 c2:w.cell? (U g (o+2))=some (I q.A.nr)
 c9:w.cell? (U g (o+9))=some V.nv
 BD:w.cell? (U g (o+11))=some V.av
 lg:g<w.heap.size
 l:q.nodes.length<=100
def Tc(w):(zeroValue 215).run prog w=.ok (.agg #[I 0,I 0,I 0,I 0,I 0,I 0,OO]) w:=rfl
def zv(w)(gm n)(l)(i:w.heap[gm]?=some (.map (iu l) n))(k)(h:∀e∈l,e.k≠k):(Instr.lookup 101 (.map (some gm)) (.int .i64 k) true).run prog w=.ok (.tuple #[.agg #[.int .i64 0,.int .i64 0,.int .i64 0,.int .i64 0,.int .i64 0,.int .i64 0,gN none 0 0],.bool false]) w:=by
 have j:=fa (w:=w) underlying3 (pM l k h);have y:=eW (P:=prog) (w:=w) (k:= .int .i64 k) underlying3 um (iu l).isEmpty 9999;have A:=Tc w;simp[Instr.lookup,Sem.run_bind,Result.andThen,aI i,y,j,A]
def yz(w)(gm n)(l)(i:w.heap[gm]?=some (.map (iu l) n))(k)(h:∃e∈l,e.k=k):∃(j:Nat) (e:Ae),l[j]?=some e/\e.k=k/\(Instr.lookup 101 (.map (some gm)) (.int .i64 k) true).run prog w=.ok (.tuple #[e.v,.bool true]) w:=by
 let⟨j,z,y,A,F⟩:=sL l k h;have H:=fa (w:=w) underlying3 F;have L:=eW (P:=prog) (w:=w) (k:= .int .i64 k) underlying3 um (iu l).isEmpty 9999;exact⟨j,z,y,A,by simp[Instr.lookup,aI i,L,H]⟩
def yt(w)(k):(Instr.lookup 101 (.map none) (.int .i64 k) true).run prog w=.ok (.tuple #[.agg #[.int .i64 0,.int .i64 0,.int .i64 0,.int .i64 0,.int .i64 0,.int .i64 0,gN none 0 0],.bool false]) w:=rfl
theorem oh{o:Nat}{q:Qn An}{V:QV}(h:Uz w gH ga t g o q V)(k x):iB 269 #[.pointer (some (U g o)),I k,I x] w λen w'=>en=gX (.bool (q.D k x))/\Bl w w':=by
 let⟨A,c2,c9,BD,lg,hl⟩:=h;obtain⟨W,Y,Z,x3,x4,x5,va,vn,vc,P,F,a0⟩:∃(W Y Z x3 x4 x5:Int) (va:Option Addr) (vn vc:Nat) (P:Bool),P=q.R x/\(Instr.lookup 101 V.av (I x) true).run prog w=.ok (.tuple #[.agg #[I W,I Y,I Z,I x3,I x4,I x5,gN va vn vc],.bool P]) w:=by
  obtain⟨e0,e⟩|⟨gm,clk,l,e0,_,H⟩:=A.B
  .exact⟨0,0,0,0,0,0,none,0,0,false,by unfold Qn.R;rw[e];rfl,by rw[e0];exact yt w x⟩
  rw[e0];have a3:=H.len;by_cases hx:∃e∈l,e.k=x
  .let⟨j,e,e1,e2,e3⟩:=yz w gm clk l H.mp x hx;have hj:=(aj.1 e1).1;have a1:j<q.B.length:=C;obtain⟨f1,s,f2,f3⟩:=H.jU j e q.B[j] e1 (ah a1);obtain⟨a,cc,rfl⟩:=f3.B;refine⟨_,_,_,_,_,_,_,_,_,true,?_,jS e3 f2⟩
   symm
   unfold Qn.R;rw[cK];exact⟨q.B[j],aL _,by simpa using f1.symm.H e2⟩
  refine⟨0,0,0,0,0,0,none,0,0,false,?_,zv w gm clk l H.mp x λe Q e'=>hx ⟨e,Q,e'⟩⟩
  symm
  unfold Qn.R;rw[dm];intro z a2 e;obtain⟨i,hi,rfl⟩:=aV.1 a2;have L:i<l.length:=C;exact hx ⟨l[i],aL L,by rw[(H.jU i l[i] _ (ah L) (ah hi)).1];simpa using e⟩
 have T:=(Bl.refl w).alloc (im #[I W,I Y,I Z,I x3,I x4,I x5,gN va vn vc] 215);have HC:=gP (xh (A.nodes.bl T (gI:=gH) λ_ _ e=>e) C x);let⟨d2,d9⟩:=T.B lg c2 c9;have HA:=gP T;obtain⟨na,nc,y⟩:=A.nodes.B;rw[ay]at y;rw[y]at d9 HC;have hR:Hid (q.D k x=(decide (q.A.nr=k)&&decide (x∈q.nodes)&& !P)):=by unfold Hid Qn.D;rw[F,dr];simp
 rw[hR.o];obtain⟨a4,M⟩:∃z,V.av=.map z:=by obtain⟨e,_⟩|⟨gm,clk,l,e,_⟩:=A.B<;>exact⟨_,e⟩
 rw[M]at BD a0;clear A T F hR M y c9;by_cases Q:q.A.nr=k
 .subst Q;go_enter func269,ntmps269;go_wp2_with(go_at_call 153;refine HC.L ?_;rintro en w'⟨rfl,rfl⟩);all_goals
   go_ret;exact⟨by simp_all,HA⟩
 go_enter func269,ntmps269;go_wp2;all_goals
  go_ret;exact⟨nN Q,HA⟩
def TD(w):(zeroValue 222).run prog w=.ok (.agg #[I 0,I 0,I 0,OO]) w:=rfl
def zH(w)(gm n)(l)(i:w.heap[gm]?=some (.map (iu l) n))(k)(h:∀e∈l,e.k≠k):(Instr.lookup 104 (.map (some gm)) (.int .i64 k) true).run prog w=.ok (.tuple #[.agg #[.int .i64 0,.int .i64 0,.int .i64 0,gN none 0 0],.bool false]) w:=by
 have j:=fa (w:=w) underlying3 (pM l k h);have y:=eW (P:=prog) (w:=w) (k:= .int .i64 k) underlying3 um (iu l).isEmpty 9999;have A:=TD w;simp[Instr.lookup,Sem.run_bind,aI i,y,j,A]
def xT(w)(gm n)(l)(i:w.heap[gm]?=some (.map (iu l) n))(k)(h:∃e∈l,e.k=k):∃(j:Nat) (e:Ae),l[j]?=some e/\e.k=k/\(Instr.lookup 104 (.map (some gm)) (.int .i64 k) true).run prog w=.ok (.tuple #[e.v,.bool true]) w:=by
 let⟨j,z,y,A,F⟩:=sL l k h;have H:=fa (w:=w) underlying3 F;have L:=eW (P:=prog) (w:=w) (k:= .int .i64 k) underlying3 um (iu l).isEmpty 9999;exact⟨j,z,y,A,by simp[Instr.lookup,aI i,L,H]⟩
def yg(w)(k):(Instr.lookup 104 (.map none) (.int .i64 k) true).run prog w=.ok (.tuple #[.agg #[.int .i64 0,.int .i64 0,.int .i64 0,gN none 0 0],.bool false]) w:=rfl
theorem sQ{o:Nat}{q:Qn Vo}{V:QV}(h:Uz w gH ga t g o q V)(k x):iB 251 #[.pointer (some (U g o)),I k,I x] w λen w'=>en=gX (.bool (q.D k x))/\Bl w w':=by
 let⟨A,c2,c9,BD,lg,hl⟩:=h;obtain⟨W,Y,Z,va,vn,vc,P,F,a0⟩:∃(W Y Z:Int) (va:Option Addr) (vn vc:Nat) (P:Bool),P=q.R x/\(Instr.lookup 104 V.av (I x) true).run prog w=.ok (.tuple #[.agg #[I W,I Y,I Z,gN va vn vc],.bool P]) w:=by
  obtain⟨e0,e⟩|⟨gm,clk,l,e0,_,H⟩:=A.B
  .exact⟨0,0,0,none,0,0,false,by unfold Qn.R;rw[e];rfl,by rw[e0];exact yg w x⟩
  rw[e0];have a3:=H.len;by_cases hx:∃e∈l,e.k=x
  .let⟨j,e,e1,e2,e3⟩:=xT w gm clk l H.mp x hx;have hj:=(aj.1 e1).1;have a1:j<q.B.length:=C;obtain⟨f1,s,f2,f3⟩:=H.jU j e q.B[j] e1 (ah a1);obtain⟨a,cc,rfl⟩:=f3.B;refine⟨_,_,_,_,_,_,true,?_,jS e3 f2⟩
   symm
   unfold Qn.R;rw[cK];exact⟨q.B[j],aL _,by simpa using f1.symm.H e2⟩
  refine⟨0,0,0,none,0,0,false,?_,zH w gm clk l H.mp x λe Q e'=>hx ⟨e,Q,e'⟩⟩
  symm
  unfold Qn.R;rw[dm];intro z a2 e;obtain⟨i,hi,rfl⟩:=aV.1 a2;have L:i<l.length:=C;exact hx ⟨l[i],aL L,by rw[(H.jU i l[i] _ (ah L) (ah hi)).1];simpa using e⟩
 have T:=(Bl.refl w).alloc (im #[I W,I Y,I Z,gN va vn vc] 222);have HC:=gP (xh (A.nodes.bl T (gI:=gH) λ_ _ e=>e) C x);let⟨d2,d9⟩:=T.B lg c2 c9;have HA:=gP T;obtain⟨na,nc,y⟩:=A.nodes.B;rw[ay]at y;rw[y]at d9 HC;have hR:Hid (q.D k x=(decide (q.A.nr=k)&&decide (x∈q.nodes)&& !P)):=by unfold Hid Qn.D;rw[F,dr];simp
 rw[hR.o];obtain⟨a4,M⟩:∃z,V.av=.map z:=by obtain⟨e,_⟩|⟨gm,clk,l,e,_⟩:=A.B<;>exact⟨_,e⟩
 rw[M]at BD a0;clear A T F hR M y c9;by_cases Q:q.A.nr=k
 .subst Q;go_enter func251,ntmps251;go_wp2_with(go_at_call 153;refine HC.L ?_;rintro en w'⟨rfl,rfl⟩);all_goals
   go_ret;exact⟨by simp_all,HA⟩
 go_enter func251,ntmps251;go_wp2;all_goals
  go_ret;exact⟨nN Q,HA⟩
def vy(l)(e):iu (l++[e])=(iu l).push e.A:=by simp[iu]
def pE(w)(gm n)(l)(i:w.heap[gm]?=some (.map (iu l) n))(k)(v)(h:∀e∈l,e.k≠k):(Instr.mapUpdate 101 (.map (some gm)) (I k) v).run prog w=.ok () (setBlock w gm (.map (iu (l++[⟨k,v,n⟩])) (n+1))):=by
 simp only[Instr.mapUpdate,Sem.run_bind,Z4 underlying101,Result.andThen,aI i,(eW (P:=prog) (k:= I k) underlying3 um false 9999),(fa (w:=w) underlying3 (pM l k h))];rw[Z7 _ i,vy];rfl
def Am(w)(gm n)(l)(i:w.heap[gm]?=some (.map (iu l) n))(k)(v)(h:∀e∈l,e.k≠k):(Instr.mapUpdate 104 (.map (some gm)) (I k) v).run prog w=.ok () (setBlock w gm (.map (iu (l++[⟨k,v,n⟩])) (n+1))):=by
 simp only[Instr.mapUpdate,Sem.run_bind,Z4 underlying104,Result.andThen,aI i,(eW (P:=prog) (k:= I k) underlying3 um false 9999),(fa (w:=w) underlying3 (pM l k h))];rw[Z7 _ i,vy];rfl
section
variable{α:Type}[nY α]{clk:Nat}{zz:List (Int×α)}
def Mm.PT(h:Mm w gm clk l zz (nY.ev w gH t))(y:∀z∈zz,z.1≠k):∀e∈l,e.k≠k:=λe A=>by obtain⟨i,F,rfl⟩:=aV.1 A;have H:=h.len;have j:i<zz.length:=C;rw[(h.jU i l[i] zz[i] (ah F) (ah j)).1];exact y _ (aL j)
def Mm.add(h:Mm w gm clk l zz (nY.ev w gH t))(tg:gH gm≠t)(T:∀z∈zz,z.1≠k)(A)(v)(W:nY.ev w gH t A v):Mm (setBlock w gm (.map (iu (l++[⟨k,v,clk⟩])) (clk+1))) gm (clk+1) (l++[⟨k,v,clk⟩]) (zz++[(k,A)]) (nY.ev (setBlock w gm (.map (iu (l++[⟨k,v,clk⟩])) (clk+1))) gH t):=by
 have M:gL (λb=>b=gm) w (setBlock w gm (.map (iu (l++[⟨k,v,clk⟩])) (clk+1))):=j7 _ _ _;have P:∀b,b<w.heap.size->b=gm->gH b≠t:=λb _ e=>jk e tg;have Q:=h.len;refine⟨nW (ae.1 h.mp).1 _,nN Q,λi e z he j=>?_,λe he=>?_,?_,?_⟩
 .by_cases Y:i<l.length
  .rw[aB Y]at he;rw[aB C]at j;obtain⟨Z,k2⟩:=h.jU i e z he j;exact⟨Z,nY.only k2 M P λ_ _ e=>e⟩
  have H:i=l.length:=by have:=(aj.1 he).1;simp at this;omega
  subst H;simp at he;rw[Q]at j;simp at j;subst he;subst j;exact⟨rfl,nY.only W M P λ_ _ e=>e⟩
 .obtain he|he:=aT.1 he
  .have:=h.bo e he;omega
  simp at he;subst he;exact fo _
 .rw[aZ,cX];refine⟨h.nd,gG,λx L y F=>?_⟩;obtain⟨e,he,rfl⟩:=aD.1 L;simp at F;have:=h.bo e he;omega
 rw[aZ,cX];refine⟨h.ky,gG,λx L y F=>?_⟩;obtain⟨z,j,rfl⟩:=aD.1 L;simp at F;rw[F];exact T z j
end
abbrev ru(w:World)(gm clk:Nat)(l:List Ae)(k:Int)(v:Value):World:=setBlock w gm (.map (iu (l++[⟨k,v,clk⟩])) (clk+1))
def yd{α:Type}{q:Qn α}(h:q.R fr=false):∀z∈q.B,z.1≠fr:=λz i e=>by unfold Qn.R at h;rw[dm]at h;exact h z i (iU e)
section
variable{α:Type}[nY α]{q:Qn α}{V:QV}
def QR.add(h:QR w gH g t q V)(y:g≠t)(L:q.nodes≠[])(F:q.R fr=false)(A)(v)(M:nY.ev w gH t A v):∃gm clk l,V.av=.map (some gm)/\gH gm=g/\w.heap[gm]?=some (.map (iu l) clk)/\(∀e∈l,e.k≠fr)/\QR (ru w gm clk l fr v) gH g t (q.add fr A) V/\gL (λb=>b=gm) w (ru w gm clk l fr v):=by
 obtain⟨e,_⟩|⟨gm,clk,l,e,tg,i⟩:=h.B
 .exact absurd (h.nil e) L
 have j:gL _ w (ru w gm clk l fr v):=j7 _ _ _;have H:∀b,b<w.heap.size->b=gm->gH b≠t:=λb _ e=>by rw[e,tg];exact y
 exact⟨gm,clk,l,e,tg,i.mp,i.PT (yd F),⟨h.val.only j H λ_ _ e=>e,h.nodes.only j H λ_ _ e=>e,.inr ⟨gm,clk+1,_,e,tg,i.add (jk tg y) (yd F) A v M⟩,λe'=>by rw[e]at e';simp at e'⟩,j⟩
end
def jf.XJ(h:jf w gH t p qb X V)(y:c∈X.a)(Q:c.q.nodes≠[])(T:c.q.R fr=false)(A)(v)(W:nY.ev w gH (t+3) A v):∃gm clk l,w.cell? (U (qb c.gU) 28)=some (.map (some gm))/\w.heap[gm]?=some (.map (iu l) clk)/\(∀e∈l,e.k≠fr)/\jf (ru w gm clk l fr v) gH t p qb (X.put {c with q:=c.q.add fr A}) V/\gL (λb=>Mc t (gH b)) w (ru w gm clk l fr v)/\gL (λb=>b=gm) w (ru w gm clk l fr v)/\gH gm=t+9+2*c.a:=by
 obtain⟨cv,k⟩:=h.r.d c y;obtain⟨gm,clk,l,Y,F,Z,e4,e5,i⟩:=k.q.add C Q T A v W;have j:=k.cellAt 28 rfl;rw[Y]at j;have h8:=h.r.a.b c y;have L:∀b,b<w.heap.size->b=gm->gH b≠t+3:=λb _ e=>by rw[e,F];omega
 have P:gL (λb=>gH b=t+8+2*c.a\/gH b=t+9+2*c.a) w (ru w gm clk l fr v):=i.L λb _ e=>.inr (jk e F);have M:kN (ru w gm clk l fr v) gH t (qb c.gU) {c with q:=c.q.add fr A} cv:=⟨(i.block _ k.lt λe=>by have:=k.tq;rw[e,F]at this;omega).H k.hq,k.tq,k.ie.only i L λ_ _ e=>e,k.jb.only i L λ_ _ e=>e,k.e.only i L λ_ _ e=>e,e5⟩;exact⟨gm,clk,l,j,Z,e4,h.call y P M rfl rfl,h.DI y P,i,F⟩
def jf.D3(h:jf w gH t p qb X V)(M:X.d.nodes≠[])(P:X.d.R fr=false)(A)(v)(Q:nY.ev w gH (t+3) A v):∃gm clk l,w.cell? (U p 21)=some (.map (some gm))/\w.heap[gm]?=some (.map (iu l) clk)/\(∀e∈l,e.k≠fr)/\jf (ru w gm clk l fr v) gH t p qb {X with d:=X.d.add fr A} V/\gL (λb=>Mc t (gH b)) w (ru w gm clk l fr v):=by
 obtain⟨gm,clk,l,T,j,W,Y,Z,i⟩:=h.r.pr.add C M P A v Q;have y:=h.cellAt 21 rfl;rw[T]at y;have F:∀b,b<w.heap.size->gH b=gH b:=λ_ _=>rfl;have L:∀b,b<w.heap.size->b=gm->gH b≠t+3:=λb _ e=>by rw[e,j];omega
 refine⟨gm,clk,l,y,W,Y,⟨(i.block p h.A λe=>by have:=h.tp;rw[e,j]at this;omega).H h.hp,h.tp,h.r.lay.only i L λ_ _ e=>e,h.r.c.only i L (λb _ e=>by rw[e,j];omega) F,h.r.tb,(i.block _ h.r.lb λe=>by have:=h.r.tb;rw[e,j]at this;omega).H h.r.mp,h.r.bo,h.r.bn,Z,h.r.sl.only i L (λb _ e=>by rw[e,j];omega) F,h.r.vt.only i L (λb _ e=>by rw[e,j];omega) F,h.r.bg.only i (λb _ e=>by rw[e,j];omega) F,h.r.b.only i L λ_ _ e=>e,λd hd=>?_,h.r.a.gU,h.r.a.lt,h.r.a.a,h.r.a.b⟩,i.L λb _ e=>by rw[e,j];unfold Mc;omega⟩;obtain⟨dv,hk⟩:=h.r.d d hd;exact⟨dv,hk.only i (λb _ e=>by rw[e,j];omega) F⟩
def jf.XO(h:jf w gH t p qb X V)(M:X.mv.a.nodes≠[])(P:X.mv.a.R fr=false)(A)(v)(Q:nY.ev w gH (t+3) A v):∃gm clk l,w.cell? (U p 40)=some (.map (some gm))/\w.heap[gm]?=some (.map (iu l) clk)/\(∀e∈l,e.k≠fr)/\jf (ru w gm clk l fr v) gH t p qb {X with mv:={X.mv with a:=X.mv.a.add fr A}} V/\gL (λb=>Mc t (gH b)) w (ru w gm clk l fr v):=by
 obtain⟨gm,clk,l,T,j,W,Y,Z,i⟩:=h.r.sl.add C M P A v Q;have y:=h.cellAt 40 rfl;rw[T]at y;have F:∀b,b<w.heap.size->gH b=gH b:=λ_ _=>rfl;have L:∀b,b<w.heap.size->b=gm->gH b≠t+3:=λb _ e=>by rw[e,j];omega
 refine⟨gm,clk,l,y,W,Y,⟨(i.block p h.A λe=>by have:=h.tp;rw[e,j]at this;omega).H h.hp,h.tp,h.r.lay.only i L λ_ _ e=>e,h.r.c.only i L (λb _ e=>by rw[e,j];omega) F,h.r.tb,(i.block _ h.r.lb λe=>by have:=h.r.tb;rw[e,j]at this;omega).H h.r.mp,h.r.bo,h.r.bn,h.r.pr.only i L (λb _ e=>by rw[e,j];omega) F,Z,h.r.vt.only i L (λb _ e=>by rw[e,j];omega) F,h.r.bg.only i (λb _ e=>by rw[e,j];omega) F,h.r.b.only i L λ_ _ e=>e,λd hd=>?_,h.r.a.gU,h.r.a.lt,h.r.a.a,h.r.a.b⟩,i.L λb _ e=>by rw[e,j];unfold Mc;omega⟩;obtain⟨dv,hk⟩:=h.r.d d hd;exact⟨dv,hk.only i (λb _ e=>by rw[e,j];omega) F⟩
def jf.JF(h:jf w gH t p qb X V)(i:X.d.nodes.length<=100):Uz w gH (t+4) (t+3) p 10 X.d V.pr:=⟨h.r.pr,h.cellAt 12 rfl,h.cellAt 19 rfl,h.cellAt 21 rfl,h.A,i⟩
def jf.Jh(h:jf w gH t p qb X V)(i:X.mv.a.nodes.length<=100):Uz w gH (t+5) (t+3) p 29 X.mv.a V.sl:=⟨h.r.sl,h.cellAt 31 rfl,h.cellAt 38 rfl,h.cellAt 40 rfl,h.A,i⟩
def jf.IP(h:jf w gH t p qb X V)(i:X.mv.A.nodes.length<=100):Uz w gH (t+6) (t+3) p 41 X.mv.A V.vt:=⟨h.r.vt,h.cellAt 43 rfl,h.cellAt 50 rfl,h.cellAt 52 rfl,h.A,i⟩
def kN.Uk(k:kN w gH t q c cv)(h:c.q.nodes.length<=100):Uz w gH (t+9+2*c.a) (t+3) q 17 c.q cv.q:=⟨k.q,k.cellAt 19 rfl,k.cellAt 26 rfl,k.cellAt 28 rfl,k.lt,h⟩
structure Bn(X:Cx):Prop where
 pr:X.d.nodes.length<=100
 sl:X.mv.a.nodes.length<=100
 vt:X.mv.A.nodes.length<=100
 cl:∀c∈X.a,c.q.nodes.length<=100
theorem xV(h:jf w gH t p qb X V)(P:Bn X)(fr nr)(Q:X.d.D nr fr=true):iB 249 #[O p,I fr,I nr] w λT w'=>T=gX (.tuple #[.pointer (some (U p 10)),.func (.func 270) #[] #[]])/\Bl w w':=by
 let⟨W,F⟩:=gJ (w.alloc (im #[O p] 94));have y:=(Bl.refl w).alloc (im #[O p] 94);have A:=ao w (im #[O p] 94);rw[F]at y A;have Y:W.cell? (U w.heap.size 0)=some (O p):=ax W w.heap.size 0 _ 94 (0,0) A;have L:=(ae.1 A).1;have j:=h.bl y (gI:=gH) hU;have M:=gP (oh (j.JF P.pr) nr fr);rw[Q]at M;have Z:=j.A;let⟨BW,HW⟩:=gO y F;clear h j F y A;go_enter func249,ntmps249;go_upto_region 1 with fail;rw[HW.o];go_wp2_with(go_at_call 269;refine gT M λw2 i=>?_;have z0:=(i.cell L).H Y;have a0:=af Z i.lt;have a1:=af L i.lt;have HB:=gP (BW.H i);clear i);go_ret2;exact⟨rfl,HB⟩
theorem x9(h:jf w gH t p qb X V)(hl:Bn X)(fr nr)(hw:X.d.D nr fr=false)(hs:X.mv.a.D nr fr=true):iB 249 #[O p,I fr,I nr] w λen w'=>en=gX (.tuple #[.pointer (some (U p 29)),.func (.func 271) #[O p] #[]])/\Bl w w':=by
 let⟨W,Q⟩:=gJ (w.alloc (im #[O p] 94));have L:=(Bl.refl w).alloc (im #[O p] 94);have M:=ao w (im #[O p] 94);rw[Q]at L M;have T:W.cell? (U w.heap.size 0)=some (O p):=ax W w.heap.size 0 _ 94 (0,0) M;have P:=(ae.1 M).1;have y:=h.bl L (gI:=gH) hU;have Y:=gP (oh (y.JF hl.pr) nr fr);rw[hw]at Y;have HS:Hid (∀W2,Bl W W2->_):=λW2 i=>oh ((y.bl i (gI:=gH) hU).Jh hl.sl) nr fr;rw[hs]at HS;have lp:=y.A;let⟨BW,HW⟩:=gO L Q;clear h y Q L M;go_enter func249,ntmps249;go_upto_region 1 with fail;rw[HW.o];go_wp2_with fail;refine gT Y λw2 i=>?_;have z0:=(i.cell P).H T;have a0:=af lp i.lt;have a1:=af P i.lt;have A:=gP i;clear i Y;go_wp2_with fail;refine gT (HS _ A) λw3 F=>?_;have j:=A.H F;have y0:=(j.cell P).H T;have a2:=af lp j.lt;have a3:=af P j.lt;have Z:=gP j;clear F j z0 T;go_upto_region 4 with fail;go_region;all_goals
  go_wp2;go_ret2;exact⟨rfl,BW.H (Z.H jg)⟩
theorem zW(h:jf w gH t p qb X V)(hl:Bn X)(fr nr)(hw:X.d.D nr fr=false)(hs:X.mv.a.D nr fr=false):iB 249 #[O p,I fr,I nr] w λen w'=>Bl w w'/\((∃c∈X.a,c.q.D nr fr=true/\∃g1 g2,en=gX (.tuple #[.pointer (some (U (qb c.gU) 17)),.func (.func 272) #[] #[O g1,O g2]])/\w.heap.size<=g1/\w.heap.size<=g2/\w'.heap[g1]?=some (im #[O p] 94 (0,0))/\w'.heap[g2]?=some (im #[O (qb c.gU)] 163 (0,0)))\/((∀c∈X.a,c.q.D nr fr=false)/\en=gX (.tuple #[.pointer none,.nilFunc]))):=by
 let⟨W,hW⟩:=gJ (w.alloc (im #[O p] 94));have bW:=(Bl.refl w).alloc (im #[O p] 94);have hX:=ao w (im #[O p] 94);rw[hW]at bW hX;have r0:W.cell? (U w.heap.size 0)=some (O p):=ax W w.heap.size 0 _ 94 (0,0) hX;have lr:=(ae.1 hX).1;have j:=h.bl bW (gI:=gH) hU;have HA:=gP (oh (j.JF hl.pr) nr fr);rw[hw]at HA;have HS:Hid (∀W2,Bl W W2->_):=λW2 y=>oh ((j.bl y (gI:=gH) hU).Jh hl.sl) nr fr;rw[hs]at HS;have HQ:Hid (∀c∈X.a,∀W2,Bl W W2->iB 269 #[.pointer (some (U (qb c.gU) 17)),I nr,I fr] W2 λen w'=>en=gX (.bool (c.q.D nr fr))/\Bl W2 w'):=λc F W2 y=>by obtain⟨cv,hk⟩:=(j.bl y (gI:=gH) hU).r.d c F;exact oh (hk.Uk (hl.cl c F)) nr fr
 have ab:=gP h.r.a.gU;have HL:Hid (∀c∈X.a,qb c.gU<W.heap.size):=λc F=>by obtain⟨cv,hk⟩:=j.r.d c F;exact hk.lt
 have a4:Hid (∀x∈(iu (X.a.map (kt qb V.bo))).toList,∃c∈X.a,x=(kt qb V.bo c).A):=λx hx=>by obtain⟨e,he,rfl⟩:=lQ hx;obtain⟨c,F,rfl⟩:=aD.1 he;exact⟨c,F,rfl⟩
 have a5:Hid (∀c∈X.a,(kt qb V.bo c).A∈(iu (X.a.map (kt qb V.bo))).toList):=λc F=>by
  have:(iu (X.a.map (kt qb V.bo))).toList=(X.a.map (kt qb V.bo)).map Ae.A:=by simp[iu]
  rw[this];exact aD.2 ⟨_,aD.2 ⟨c,F,rfl⟩,rfl⟩
 have ac:Hid (∀x∈(iu (X.a.map (kt qb V.bo))).toList,x.born<V.clk):=λx hx=>by obtain⟨c,F,rfl⟩:=a4 x hx;exact h.r.bo c F
 have ad:Hid ((iu (X.a.map (kt qb V.bo))).toList.map (·.born)).Nodup:=by
  have:(iu (X.a.map (kt qb V.bo))).toList.map (·.born)=X.a.map λc=>V.bo c.gU:=by simp[iu,Function.comp_def,Ae.A,kt]
  unfold Hid;rw[this];exact h.r.bn
 have lp:=j.A;have lb:=j.r.lb;have d8:=j.cellAt 8 rfl;let⟨Hm,BW,HW,HX⟩:=jR j.r.mp bW hW hX;clear h j hW bW hX;generalize V.bm=bm at*;generalize V.clk=clk at*;generalize V.bo=bo at*;generalize iu (X.a.map (kt qb bo))=es at*;go_enter func249,ntmps249;go_upto_region 1 with fail;rw[HW.o];go_wp2_with fail;refine gT HA λw2 y=>?_;have z0:=(y.cell lr).H r0;have aq:=af lp y.lt;have ar:=af lr y.lt;have a6:=gP y;clear y HA;go_wp2_with fail;refine gT (HS _ a6) λw3 a7=>?_;have L:=a6.H a7;have y0:=(L.cell lr).H r0;have y8:=(L.cell lp).H d8;have ag:=gP ((L.heap lb).H Hm);have au:=af lp L.lt;have T:=af lr L.lt;have ai:=L.lt;have P:=gP L;clear a7 L z0 r0 d8 HS;go_wp2_with(at_range;refine j9 _ rfl _ 98 rfl 3 163 underlying98 bm es clk rfl ag ac ad ?_;intro hI;have HI:=gP hI;clear hI);go_frame;go_loopw[](λwr=>∃i:List MapEntry,Hid (Bl w3 wr)/\Hid (It wr w3.heap.size bm es clk i)/\Hid (∀c∈X.a,(kt qb bo c).A∈i->c.q.D nr fr=false)) λwr=>es.size-(wr.iterSeen w3.heap.size).size
 case atStart=>exact⟨[],jC.alloc _,HI,λc _ h=>mi h⟩
 let⟨i,HB,HJ,HD⟩:=hrel;have x0:=(HB.cell T).H y0;have av:=af T HB.lt;go_wp2_with(at_next;refine kQ _ rfl _ rfl w3.heap.size bm clk es i rfl HJ ?_ ?_)
 .intro h0;have HF:Hid (∀c∈X.a,c.q.D nr fr=false):=λc F=>HD.o c F (h0.mem_iff.2 (a5 c F));clear h0;go_wp2;go_ret2;exact⟨BW.H (P.H HB),.inr ⟨HF,rfl⟩⟩
 intro e WW he a8 hO a9;obtain⟨c,F,rfl⟩:=a4 e (iU he);have Q:Bl w3 WW:=HB.A hO λb hb=>C;have u0:=(Q.cell T).H y0;have aw:=af T Q.lt;have ak:=af (HL c F) (aF ai Q.lt);let⟨Y,al,Z⟩:=iz Q a8 (HQ c F);have am:Hid (∀d∈X.a,(kt qb bo d).A∈i->d.q.D nr fr=false):=HD.o;have Hc:=gP F;have ap:(Instr.entry (O w3.heap.size)).run prog WW=.ok (.tuple #[I (c.gU:Nat),O (qb c.gU)]) WW:=a9;clear a8 hO a9 he Q x0 F;simp only[show(kt qb bo c).A.key=I (c.gU:Nat)from rfl,show(kt qb bo c).A.val= O (qb c.gU)from rfl];generalize hq:qb c.gU=q at*;have Hq:=gP hq;clear hq;have HN:=gP (ao WW (im #[O q] 163))
 cases a0:c.q.D nr fr with
 |true=>rw[a0]at Z;go_wp2_with(go_at_call 269;refine gT (Z _ (P.H (Y.alloc _))) λw5 M=>?_;have a1:=(M.heap gG).H HN;have v0:=ax w5 WW.heap.size 0 _ 163 (0,0) a1;have l5:=(ae.1 a1).1;have aY:=af ak (aF gG M.lt);obtain⟨a2,an⟩:=gO ((Y.alloc _).H M) a1;clear M a1);go_ret2;refine⟨BW.H (P.H a2),.inl ⟨c,Hc,a0,w.heap.size,WW.heap.size,by rw[Hq.o];rfl,jl,C,?_,jk Hq.o an⟩⟩;exact((P.H a2).heap lr).H HX
 |false=>
  rw[a0]at Z;go_wp2_with(go_at_call 269;refine gT (Z _ (P.H (Y.alloc _))) λw5 M=>?_;obtain⟨a2,a3⟩:=gO ((Y.alloc _).H M) ((al.bl ((Bl.refl WW).alloc _)).bl M);clear M);go_roundw
  case rel=>exact⟨(kt qb bo c).A::i,a2,a3,λd hd hm=>by
   obtain e|e:=bh.1 hm
   .have:d.q.D nr fr=c.q.D nr fr:=by
     have aa:d.gU=c.gU:=by
      have:=Z5 MapEntry.key e
      simp[Ae.A,kt]at this
      omega
     rw[rI ab.o hd Hc.o aa]
    rw[this];exact a0
   .exact am d hd e⟩
  have e1:w5.iterSeen w3.heap.size=(((kt qb bo c).A::i).map (·.born)).reverse.toArray:=by unfold World.iterSeen;rw[a3.it]
  have e2:wr.iterSeen w3.heap.size=(i.map (·.born)).reverse.toArray:=by unfold World.iterSeen;rw[HJ.it]
  have:=a3.len;rw[e1,e2];simp at this|-;omega
def pF{α:Type}{q:Qn α}{i:Int}(h:q.D i fr=true):q.A.nr=i/\fr∈q.nodes/\q.R fr=false/\q.nodes≠[]:=by simp only[Qn.D,bL,ZT,eK,List.contains_iff_mem]at h;exact⟨h.1.1,h.1.2,h.2,λe=>by rw[e]at h;simp at h⟩
def IH(A)(va)(vc)(w):Calls prog 270 #[ri A va vc] w λh w'=>h=iw/\Bl w w':=by go_wp2;go_end0;exact⟨rfl,jC.alloc _⟩
theorem Jt(h:jf w gH t p qb X V)(j:100<=t)(L:nf X)(T:c∈X.a)(A)(M:Sy X c)(va)(vc)(P:Rd w gH (t+3) 5 (gN va A.ct.val.length vc) (A.ct.val.map B8))(g1 g2)(c1:w.cell? (U g1 0)=some (O p))(c2:w.cell? (U g2 0)=some (O (qb c.gU)))(l1:g1<w.heap.size)(l2:g2<w.heap.size):iB 272 #[ri A va vc,O g1,O g2] w λW w'=>W=iw/\CS w gH t p qb (X.rT c A) w':=by
 have i:=(Bl.refl w).alloc (sX A va vc);have y:=h.bl i (gI:=gH) hU;have F:=gP (Th y j L T A M va vc (P.bl i λ_ _ e=>e));have Y:=(i.cell l1).H c1;have Z:=(i.cell l2).H c2;have Q:=gP i;clear h y P i L M;unfold ri at F|-;unfold sX at F Q Y Z;generalize qb c.gU=q at*;go_enter func272,ntmps272;go_wp2_with(go_at_call 273;refine iO F λw3 HS=>?_);go_end0;exact⟨rfl,CS.D Q HS⟩
theorem AO(h:jf w gH t p qb X V)(hl:Bn X)(fr nr)(hw:X.d.D nr fr=true)(A)(h5:A.wh≠5)(va)(vc)(ht:Rd w gH (t+3) 5 (gN va A.ct.val.length vc) (A.ct.val.map B8)):iB 214 #[O p,I fr,I nr,ri A va vc] w λen w'=>en=iw/\CS w gH t p qb (X.kI fr nr A) w':=by
 have ab:Hid (X.kI fr nr A={X with d:=X.d.add fr A}):=by unfold Hid Cx.kI;rw[aE hw,az h5]
 let⟨W,hW⟩:=gJ (w.alloc (sX A va vc));have bW:=(Bl.refl w).alloc (sX A va vc);have P:=ao w (sX A va vc);rw[hW]at bW P;have Q:=h.bl bW (gI:=gH) hU;obtain⟨⟨r0,r1,r2,r3,r4,r5,r6⟩,_,lr⟩:=Db P;let⟨HA,HF,HW,ac⟩:=jR (xV Q hl fr nr hw) (IH A va vc) hW Q;obtain⟨Ht,a5,BW⟩:=iz (ht.bl bW (gI:=gH) λ_ _ e=>e) (pF hw) bW;have ai:(A.wh==5)=false:=iU h5;have Hh:=gP h;clear h Q hW bW P ht;unfold ri;unfold sX at HW;go_enter func214,ntmps214;go_upto_region 1 with fail;rw[HW.o];clear HW;go_wp2_with(go_at_call 249;refine gT HA λw2 i=>?_;have T:=ac.bl i (gI:=gH) hU;have ak:=T.A;let⟨s0,s1,s2,s3⟩:=i.M lr r0 r1 r2 r3;let⟨s4,s5,s6⟩:=i.D lr r4 r5 r6;have Y:=af lr i.lt;let⟨ad,Z⟩:=gO T i;clear i T HA r0 r1 r2 r3 r4 r5 r6);obtain⟨_,_,M,a6⟩:=a5.o;have a7:nY.ev w2.drew gH (t+3) A (ri A va vc):=⟨_,rfl,Ht.bl (Z.drew) λ_ _ e=>e⟩;obtain⟨gm,clk,l,a8,a0,a1,a2,ho⟩:=(ad.bl ((Bl.refl w2).drew) (gI:=gH) hU).D3 a6 M A _ a7;have a9:w2.cell? (U p 21)=some (.map (some gm)):=a8;have a3:=pE w2 gm clk l a0 fr (ri A va vc) a1;have j:=pE w2.drew gm clk l a0 fr (ri A va vc) a1;have aa:gm≠w.heap.size:=λe=>by have y:=((BW.H Z).cell Hh.A).H (Hh.cellAt 21 rfl);rw[a9]at y;have:=(Hh.r.pr.B.map (b:=gm) (by simpa using y.symm)).1;omega
 have F:gL (λb=>b=gm) w2.drew (ru w2.drew gm clk l fr (ri A va vc)):=j7 _ _ _;let⟨W3,a4⟩:=gJ (ru w2.drew gm clk l fr (ri A va vc));have L:_=Result.ok () W3:=j.H (by rw[<-a4]);rw[a4]at a2 ho F;have al:w.heap.size<W3.heap.size:=af Y F.size;let⟨t0,t1,t2,t3⟩:=F.M Y (Ne.symm aa) s0 s1 s2 s3;let⟨t4,t5,t6⟩:=F.D Y (Ne.symm aa) s4 s5 s6;let⟨HK,HO⟩:=gO a2 ho;unfold ri at a3 L HF;clear ho F a4 a0 a1 a7 a2 j a8 M a6;go_region;all_goals
  go_wp2_with(go_at_call 270;refine iO (HF _) λw5 ag=>?_);go_end0;refine⟨rfl,?_⟩;rw[ab.o];exact CS.D (BW.H (Z.drew)) (CS.post (CS.mk HK HO) ag)
def PY(X:Cx):Prop:=∀c∈X.a,∀d∈X.a,c.q.nodes≠[]->d.q.nodes≠[]->c.q.A.nr=d.q.A.nr->c=d
theorem FU(y:PY X)(i:c∈X.a){h:Int}(j:c.q.D h fr=true):X.a.find? (λc=>c.q.D h fr)=some c:=by
 cases e:X.a.find? _ with
 |none=>exact absurd j (bU.1 e c i)
 |some d=>have A:d.q.D h fr=true:=cR (p:=λc:jz=>c.q.D h fr) e;let⟨F,_,_,H⟩:=pF j;let⟨b1,_,_,L⟩:=pF A;rw[y c i d (bu e) H L (F.H b1.symm)]
theorem Df(h:jf w gH t p qb X V)(aa:100<=t)(hx:nf X)(hl:Bn X)(hN:PY X)(fr nr)(hw:X.d.D nr fr=false)(hs:X.mv.a.D nr fr=false)(A)(h5:A.wh≠5)(hG:∀c∈X.a,c.q.D nr fr=true->Sy (X.put {c with q:=c.q.add fr A}) {c with q:=c.q.add fr A})(va)(vc)(ht:Rd w gH (t+3) 5 (gN va A.ct.val.length vc) (A.ct.val.map B8)):iB 214 #[O p,I fr,I nr,ri A va vc] w λen w'=>en=iw/\CS w gH t p qb (X.kI fr nr A) w':=by
 have am:Hid ((∀c∈X.a,c.q.D nr fr=false)->X.kI fr nr A=X):=λF=>by unfold Cx.kI;rw[az (nG hw),az (nG hs),bU.2 (λc P=>by rw[F c P];simp)]
 have an:Hid (∀c∈X.a,c.q.D nr fr=true->X.kI fr nr A=(X.put {c with q:=c.q.add fr A}).rT {c with q:=c.q.add fr A} A):=λc P ha=>by unfold Cx.kI;rw[az (nG hw),az (nG hs),FU hN P ha];dsimp only;rw[az h5]
 let⟨W,hW⟩:=gJ (w.alloc (sX A va vc));have bW:=(Bl.refl w).alloc (sX A va vc);have Z:=ao w (sX A va vc);rw[hW]at bW Z;have a0:=h.bl bW (gI:=gH) hU;obtain⟨⟨r0,r1,r2,r3,r4,r5,r6⟩,_,lr⟩:=Db Z;let⟨HA,HW,ap⟩:=iz (zW a0 hl fr nr hw hs) hW a0;obtain⟨Ht,BW⟩:=gO (ht.bl bW (gI:=gH) λ_ _ e=>e) bW;have av:(A.wh==5)=false:=iU h5;let⟨Hh,HG,Hx⟩:=iz h hG hx;clear h a0 hW bW Z ht hG hx hN;unfold ri;unfold sX at HW;go_enter func214,ntmps214;go_upto_region 1 with fail;rw[HW.o];clear HW;go_wp2_with fail;refine HA.L ?_;rintro en w2⟨j,⟨c,P,a1,g1,g2,rfl,aw,aY,a2,a3⟩|⟨F,rfl⟩⟩
 .have Q:=ap.bl j (gI:=gH) hU;have b0:=Q.A;let⟨s0,s1,s2,s3⟩:=j.M lr r0 r1 r2 r3;let⟨s4,s5,s6⟩:=j.D lr r4 r5 r6;have a4:=af lr j.lt;have L:=gP j;let⟨_,_,Y,ab⟩:=pF a1;have ac:nY.ev w2.drew gH (t+3) A (ri A va vc):=⟨_,rfl,Ht.bl (L.drew) λ_ _ e=>e⟩;obtain⟨gm,clk,l,ad,a5,a6,a7,ho,i,aq⟩:=(Q.bl ((Bl.refl w2).drew) (gI:=gH) hU).XJ P ab Y A _ ac;have ag:w2.cell? (U (qb c.gU) 28)=some (.map (some gm)):=ad;have a8:=pE w2 gm clk l a5 fr (ri A va vc) a6;have M:=pE w2.drew gm clk l a5 fr (ri A va vc) a6;obtain⟨b1,k0⟩:=Hh.r.d c P;have b2:gm<w.heap.size:=by have y:=((BW.H L).cell k0.lt).H (k0.cellAt 28 rfl);rw[ag]at y;exact(k0.q.B.map (b:=gm) (by simpa using y.symm)).1
  have ai:gm≠w.heap.size:=C;have b3:=BW.lt;have ak:gm≠g1:=C;have al:gm≠g2:=C;let⟨W3,a9⟩:=gJ (ru w2.drew gm clk l fr (ri A va vc));have T:_=Result.ok () W3:=M.H (by rw[<-a9]);rw[a9]at a7 ho i;have b4:w.heap.size<W3.heap.size:=af a4 i.size;let⟨t0,t1,t2,t3⟩:=i.M a4 (Ne.symm ai) s0 s1 s2 s3;let⟨t4,t5,t6⟩:=i.D a4 (Ne.symm ai) s4 s5 s6;have m1:=(ae.1 a2).1;have m2:=(ae.1 a3).1;have q1:=(i.cell (b:=g1) (o:=0) m1 (Ne.symm ak)).H (ax w2 g1 0 _ 94 (0,0) a2);have q2:=(i.cell (b:=g2) (o:=0) m2 (Ne.symm al)).H (ax w2 g2 0 _ 163 (0,0) a3);have b5:=(Q.r.d c P).choose_spec.lt;have HF:=gP (Jt a7 aa (Hx.put _) (c:={c with q:=c.q.add fr A}) (Cx.jV P rfl) A (HG c P a1) va vc (Ht.only ((gL.B (S:=λb=>b=gm) (L.drew)).H i) (λb _ e=>by rw[e,aq];omega) λ_ _ e=>e) g1 g2 q1 q2 (af m1 i.size) (af m2 i.size));let⟨HO,HE⟩:=gO ho (an c P a1);have ar:Value.func (Fn.func 272) #[] #[O g1,O g2]=Value.func (Fn.func 272) #[] #[O g1,O g2]:=rfl;unfold ri at a8 T HF;clear ho i a9 a5 a6 ac a7 M ad Y ab j Q HA a2 a3 q1 q2 k0 r0 r1 r2 r3 r4 r5 r6 ar;generalize qb c.gU=q at*;go_upto_region 2 with fail;go_region;all_goals
   go_wp2_with(go_at_call 272;refine iO HF λw5 au=>?_);go_end0;refine⟨rfl,?_⟩;rw[HE.o];exact CS.D (BW.H (L.drew)) (CS.iW HO au)
 let⟨HE,L⟩:=gO (am F) j;clear j HA F;go_wp2;first
  |go_end0
  |((try simp only[Exit.inBlock,Exit.then]);refine aG (v:= .tuple #[]) (by simp[results,results214,go_sem]) rfl ?_)
 refine⟨rfl,?_⟩;rw[HE.o];exact CS.B ⟨V,Hh⟩ (BW.H L)
def WC(ls:List Nat)(i:Nat):Value:= .bool (ls.contains i)
def Fk(ls:List Nat):Nat:=((List.range 8).find? λl=> !(ls.contains l)).getD 0
def Sg(w:World)(b:Nat)(ls:List Nat):Prop:=∃arr,w.heap[b]?=some (.cells arr 266 (0,0))/\arr.size=8/\∀i,i<8->arr[i]?=some (WC ls i)
section
variable{b:Nat}{ls:List Nat}
def Sg.lt(h:Sg w b ls):b<w.heap.size:=by let⟨i,j,_⟩:=h;exact(ae.1 j).1
def Sg.cell(h:Sg w b ls)(i)(j:i<8):w.cell? (U b i)=some (WC ls i):=by let⟨y,A,_,F⟩:=h;rw[ax w b i _ 266 _ A];exact F i j
def Sg.frozen(h:Sg w b ls)(i):w.frozen? (U b i)=false:=by let⟨j,y,_⟩:=h;exact aP w b i _ 266 y
def Sg.oU(h:Sg w b ls)(e:w'.heap[b]?=w.heap[b]?):Sg w' b ls:=by let⟨i,j,r⟩:=h;exact⟨i,e.H j,r⟩
def Sg.set(h:Sg w b ls)(i)(A:i<8):Sg (w.setCell (U b i) (.bool true)) b (i::ls):=by
 let⟨F,H,y,L⟩:=h;refine⟨_,cH w b i _ 266 _ H,nN y,λj M=>?_⟩;rw[fD];by_cases e:i=j
 .subst e;simp[y,A,WC]
 rw[az e,L j M];simp[WC,Ne.symm e]
theorem Rj(ls)(h:ls.length<8):(List.range 8).find? (λl=> !(ls.contains l))=some (Fk ls):=by
 unfold Fk
 cases e:(List.range 8).find? _ with
 |some x=>rfl
 |none=>
  have:=vM dU (λx i=>by
   have:=bU.1 e x i
   simpa using this)
  simp at this;omega
def E3(ls)(h:ls.length<8):Fk ls<8/\ls.contains (Fk ls)=false/\∀i,i<Fk ls->ls.contains i=true:=by have e:=Rj ls h;simp_all
theorem Lf(h:Sg w b ls)(F:ls.length<8):iB 188 #[gN (G b) 8 8,.bool false] w λL w'=>L=gX (I (Fk ls))/\Bl w w':=by
 let⟨W,y,A⟩:=E3 ls F;let⟨H,M⟩:=gO h A;have Y:=h.lt;have P:=gP y;clear h A y;go_enter func188,ntmps188;go_wp2_with fail;go_loopw[8](λv wr=>∃i:Nat,v=I i/\i<=Fk ls/\wr=w) λv _=>Fk ls-(Go.RowKit.intOf v).toNat
 case atStart=>exact⟨0,rfl,ju,rfl⟩
 obtain⟨i,rfl,Z,rfl⟩:=hrel;have j:=H.cell i C;unfold WC at j;have Q:(i:Int)<8:=C;have T:(0:Int)<=i:=C;by_cases e:i=Fk ls
 .subst e;rw[P.o]at j;go_wp2;go_ret;exact⟨rfl,jC⟩
 rw[M.o i C]at j;go_wp2;go_roundw
 case rel=>exact⟨i+1,gG,C,trivial⟩
 exact iC
def NV{l1 l2:List Nat}(h:l1.Perm l2):Fk l1=Fk l2:=by
 unfold Fk;have:(λl=> !(l1.contains l))=(λl=> !(l2.contains l)):=by simp[h.mem_iff]
 rw[this]
def Sg.new(w:World):Sg (w.alloc (im #[.bool false,.bool false,.bool false,.bool false,.bool false,.bool false,.bool false,.bool false] 266)) w.heap.size []:=by refine⟨_,ao w _,rfl,λi h=>?_⟩;have:i=0\/i=1\/i=2\/i=3\/i=4\/i=5\/i=6\/i=7:=C;obtain rfl|rfl|rfl|rfl|rfl|rfl|rfl|rfl:=this<;>rfl
theorem C5{bm clk:Nat}(c8:w.cell? ⟨p,8,none⟩=some (.map (some bm)))(lp:p<w.heap.size)(hm:w.heap[bm]?=some (.map es clk))(bo:∀x∈es.toList,x.born<clk)(nd:(es.toList.map (·.born)).Nodup)(hv:∀x∈es.toList,∃q,x.val=.pointer (some ⟨q,0,none⟩)/\w.cell? ⟨q,2,none⟩=some (.int .i64 (ln x:Nat))/\ln x<8/\q<w.heap.size)(hs:es.size<8):iB 148 #[.pointer (some ⟨p,0,none⟩)] w λen w'=>en=gX (.int .i64 (Fk (es.toList.map ln)))/\Bl w w':=by
 let⟨HM,a0,a1⟩:=iz hm bo nd;let⟨HV,HS⟩:=gO hv hs;have lm:=(ae.1 hm).1;clear hm bo nd hv hs;go_enter func148,ntmps148;go_wp2_with(at_range;refine j9 _ rfl _ 98 rfl 3 163 underlying98 bm es clk rfl ((cL w _ lm).H HM) a0 a1 ?_;intro hI;generalize hr:(World.alloc w _).heap.size=r at hI|-;have y:r=w.heap.size+1:=(by rw[<-hr];simp);clear hr;let⟨HI,F⟩:=gO hI y;clear y hI);go_frame;go_loopw[](λwr=>∃h:List MapEntry,Hid (Bl w wr)/\Hid (Sg wr w.heap.size (h.map ln))/\Hid (It wr r bm es clk h)) λwr=>es.size-(wr.iterSeen r).size
 case atStart=>exact⟨[],(jC.alloc _).alloc _,(Sg.new w).oU (cL _ _ gG),HI⟩
 let⟨h,Y,Z,HJ⟩:=hrel;go_wp2_with(at_next;refine kQ _ rfl _ rfl r bm clk es h rfl HJ ?_ ?_)
 .intro h0;have HC:=gP (Lf Z (by have:=HJ.len;have:=HS.o;simp;omega));have hL:=NV (h0.map ln);rw[hL]at HC;have ja:=Z.lt;go_wp2_with fail;refine iO HC λw2 a2=>?_;go_wp2;go_ret;exact⟨rfl,Y.H a2⟩
 intro e W he L M a3;let⟨q,hq,cq,P,lq⟩:=HV e (iU he);rw[hq]at a3|-;have Q:=af lq Y.lt;have a6:=(M.cell (b:=q) Q (gS F.o)).H ((Y.cell lq).H cq);have i:=Z.oU (M.block _ Z.lt (gS F.o));have ja:=i.lt;have a7:=i.frozen (ln e);have a8:=i.cell (ln e) P;have a9:=af Q M.size;let⟨j,HO,a4⟩:=iz L M i;have aa:(0:Int)<=(ln e:Int):=C;have a5:(ln e:Int)<8:=C;clear L M he i cq;go_wp2;go_roundw
 case rel=>have T:gL (λk=>k=w.heap.size) W (W.setCell ⟨w.heap.size,ln e,none⟩ (.bool true)):=(gL.refl (λk=>k=w.heap.size) W).setCell ⟨w.heap.size,ln e,none⟩ (.inl rfl) _;refine⟨e::h,(Y.A HO λb hb=>gS F.o).A T λb hb=>C,?_,j.only T (gS F.o) C⟩;rw[bj];exact a4.set _ P
 case measure=>
  have e1:W.iterSeen r=((e::h).map (·.born)).reverse.toArray:=by unfold World.iterSeen;rw[j.it]
  have e2:wr.iterSeen r=(h.map (·.born)).reverse.toArray:=by unfold World.iterSeen;rw[HJ.it]
  have:=j.len;have e3:(W.setCell ⟨w.heap.size,ln e,none⟩ (.bool true)).iterSeen r=W.iterSeen r:=by unfold World.iterSeen;rw[((gL.refl (λk=>k=w.heap.size) W).setCell ⟨w.heap.size,ln e,none⟩ (.inl rfl) (.bool true)).block r j.lr (gS F.o)]
  rw[e3,e1,e2];simp at this|-;omega
end
def MR(w)(gm n)(l)(i:w.heap[gm]?=some (.map (iu l) n))(k)(v)(h:∀e∈l,e.k≠k):(Instr.mapUpdate 98 (.map (some gm)) (I k) v).run prog w=.ok () (setBlock w gm (.map (iu (l++[⟨k,v,n⟩])) (n+1))):=by
 simp only[Instr.mapUpdate,Sem.run_bind,Z4 underlying98,Result.andThen,aI i,(eW (P:=prog) (k:= I k) underlying3 um false 9999),(fa (w:=w) underlying3 (pM l k h))];rw[Z7 _ i,vy];rfl
def Qk(w)(bm clk)(l)(i:w.heap[bm]?=some (.map (iu l) clk)):(Builtin.len_ #[98] 3 #[.map (some bm)]).run prog w=.ok (I l.length) w:=by have h:=run_len_map (P:=prog) w 98 3 bm _ clk ix i;rw[show(iu l).size=l.length by simp[iu]]at h;exact h
theorem FD(h:jf w gH t p qb X V)(P:X.a.length<8):iB 148 #[O p] w λM w'=>M=gX (I X.mQ)/\Bl w w':=by
 have Q:(MO X qb V).toList=(X.a.map (kt qb V.bo)).map Ae.A:=by simp[iu]
 have y:∀x∈(MO X qb V).toList,∃c∈X.a,x=(kt qb V.bo c).A:=λx F=>by obtain⟨e,T,rfl⟩:=lQ F;obtain⟨c,i,rfl⟩:=aD.1 T;exact⟨c,i,rfl⟩
 obtain⟨ln,j⟩:∃ln:MapEntry->Nat,∀c∈X.a,ln (kt qb V.bo c).A=c.a:=by
  refine⟨λx=>((X.a.find? λc=>Go.RowKit.intOf x.key==((c.gU:Nat):Int)).map jz.a).getD 0,λc i=>?_⟩;have:X.a.find? (λd=>((c.gU:Nat):Int)==((d.gU:Nat):Int))=some c:=by
   cases e:X.a.find? (λd=>((c.gU:Nat):Int)==((d.gU:Nat):Int))with
   |none=>have:=bU.1 e c i;simp at this
   |some d=>have W:=cR (p:=λd:jz=>((c.gU:Nat):Int)==((d.gU:Nat):Int)) e;simp at W;rw[rI h.r.a.gU (bu e) i C]
  show((X.a.find? λd=>((c.gU:Nat):Int)==((d.gU:Nat):Int)).map jz.a).getD 0=c.a;rw[this];rfl
 have H:(MO X qb V).toList.map ln=X.a.map jz.a:=by rw[Q,br,br];exact bf λc i=>j c i
 have Y:Fk (X.a.map jz.a)=X.mQ:=by unfold Fk Cx.mQ;congr 2;funext l;congr 1;rw[fU,fY];congr 1;funext c;simp[Bool.beq_comm]
 refine(C5 (ln:=ln) (h.cellAt 8 rfl) h.A h.r.mp (λx F=>?_) ?_ (λx F=>?_) (by simpa [iu]using P)).L ?_
 .obtain⟨c,i,rfl⟩:=y x F;exact h.r.bo c i
 .have:(MO X qb V).toList.map (·.born)=X.a.map λc=>V.bo c.gU:=by simp[iu,Function.comp_def,Ae.A,kt]
  rw[this];exact h.r.bn
 .obtain⟨c,i,rfl⟩:=y x F;obtain⟨cv,k⟩:=h.r.d c i;exact⟨qb c.gU,rfl,by rw[j c i];exact k.cellAt 2 rfl,by rw[j c i];exact h.r.a.b c i,k.lt⟩
 rintro M w'⟨rfl,Z⟩;exact⟨jS H Y,Z⟩
theorem Au{o:Nat}{q:Qn An}{Q:QV}(h:Uz w gH ga t g o q Q):Calls prog 155 #[.pointer (some (U g o))] w λe w'=>e=gX (.bool q.T)/\w'=w:=by
 let⟨j,_,A,_,F,H⟩:=h;obtain⟨L,M,i⟩:=j.nodes.B;rw[i]at A;have y:q.T=decide (0<q.nodes.length):=by
  unfold Qn.T
  cases q.nodes with
  |nil=>rfl
  |cons x l=>simp
 rw[y];clear j i y;go_wp2;go_ret;exact⟨rfl,rfl⟩
theorem qV(k:kN w gH t q c cv)(y:c.q.nodes.length<=100):iB 94 #[O q] w λe w'=>e=gX (.bool (Cx.ml c))/\w'=w:=by
 have A:=k.cellAt 0 rfl;have F:=gP (Au (k.Uk y));have H:=k.lt;by_cases h:c.kind=1
 .have i:Cx.ml c= !c.q.T:=by unfold Cx.ml;rw[h];simp
  rw[i];rw[h]at A;clear k;go_enter func94,ntmps94;go_wp2_with(go_at_call 155;refine F.L ?_;rintro e w'⟨rfl,rfl⟩);go_ret;exact⟨rfl,rfl⟩
 have j:(c.kind==1)=false:=by simpa using h
 have i:Cx.ml c=false:=by unfold Cx.ml;rw[j];rfl
 rw[i];clear k;go_enter func94,ntmps94;go_wp2;go_ret;exact⟨rfl,rfl⟩
def kM.zero:kM:=⟨OO,OO,OO,QV.zero⟩
def vg(h:X.a.length<8):X.mQ<8/\∀c∈X.a,c.a≠X.mQ:=by
 have i:Fk (X.a.map jz.a)=X.mQ:=by unfold Fk Cx.mQ;congr 2;funext l;congr 1;rw[fU,fY];congr 1;funext c;simp[Bool.beq_comm]
 have:=E3 (X.a.map jz.a) (iU h);simp_all
def tP.D(h:tP X)(j:X.a.length<8)(kind):tP {X with c:=X.c++[Rz.zero],a:=X.a++[X.iP kind]}:=by
 let⟨y,A⟩:=vg j;refine⟨?_,λc hc=>?_,?_,λc hc=>?_⟩
 .exact cu.2 ⟨h.gU,fV _ _,λc hc d i=>by
   simp at i
   subst i
   exact h.lt c hc⟩
 .show c.gU<(X.c++[Rz.zero]).length;rw[aO];obtain hc|hc:=aT.1 hc
  .have:=h.lt c hc;omega
  simp at hc;subst hc;exact fo _
 .exact cu.2 ⟨h.a,fV _ _,λc hc d i=>by
   simp at i
   subst i
   exact A c hc⟩
 obtain hc|hc:=aT.1 hc
 .exact h.b c hc
 simp at hc;subst hc;exact y
def tV.push{y:Value}(F:∀i r,rs[i]?=some r->xs[3*i]?=some (I r.wh)/\xs[3*i+1]?=some (I r.ad)/\∃s,xs[3*i+2]?=some s/\Rd w gH t 5 s (r.val.map B8))(W:xs.length=rs.length*3)(h:w.ownsRow 0 43 3 y (rs.length+1) (xs++[I 0,I 0,OO]))(H:∀b,y.ownBlock=some b->gH b=g):tV w gH g t y (rs++[Rz.zero]):=by
 refine⟨xs++[I 0,I 0,OO],by rw[aO,dD];exact h,H,λi r j=>?_⟩;by_cases L:i<rs.length
 .rw[aB L]at j;let⟨M,P,s,Q,T⟩:=F i r j;exact⟨by rw[aB C];exact M,by rw[aB C];exact P,s,by rw[aB C];exact Q,T⟩
 have A:i=rs.length:=by have:=(aj.1 j).1;simp at this;omega
 subst A;simp at j;subst j;exact⟨by rw[aC C,show 3*rs.length-xs.length=0 by omega];rfl,by rw[aC C,show 3*rs.length+1-xs.length=1 by omega];rfl,OO,by rw[aC C,show 3*rs.length+2-xs.length=2 by omega];rfl,Rd.nil⟩
end Go.Proofs.YtbghhbpacijmmaaGreat
