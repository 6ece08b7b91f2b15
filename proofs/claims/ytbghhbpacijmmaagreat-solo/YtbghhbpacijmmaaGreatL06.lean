import Derived.Test.YtbghhbpacijmmaaGreatL05
open Go.Proofs.Tryz
namespace Go.Proofs.YtbghhbpacijmmaaGreat
set_option maxRecDepth 99999
set_option maxHeartbeats 0
set_option linter.defProp false
open Go.RowKit Go.Maps
open Go.ChangeMaps (setBlock)
attribute [local go_sem ↓] Go.wp_at_zero Go.wp_at_succ
variable {aY bp qb:Nat->Nat} {w w' w1:World} {t p g gm q ga:Nat} {X X':Cx} {c c':jf} {V V':CV} {cv cv':j7} {zz:List (Int×An)} {l:List Ae} {fr k:Int} {rs:List Rz} {es:Array MapEntry} {ln:MapEntry->Nat} {xs:List Value} {ns:List Int}
def sG.set{gg len cap:Nat}(h:sG w aY gg t (dk (G g) len cap) rs)(y:gg≠t)(D:rs.length=len)(i)(M:i<rs.length)(r)(s)(P:Rd w aY t 5 s (r.val.map B8)):sG (((w.setCell (U g (i*3)) (I r.wh)).setCell (U g (i*3+1)) (I r.ad)).setCell (U g (i*3+2)) s) aY gg t (dk (G g) len cap) (rs.set i r):=by
 obtain⟨xs,A,F,Q⟩:=h;rw[D]at A;obtain⟨S,g1⟩:=A.stored (i*3) (I r.wh);obtain⟨T,g2⟩:=S.stored (i*3+1) (I r.ad);obtain⟨W,g3⟩:=T.stored (i*3+2) s;have Y:xs.length=len*3:=A.1;have H:bz (λb=>b=g) w (((w.setCell (U g (i*3)) (I r.wh)).setCell (U g (i*3+1)) (I r.ad)).setCell (U g (i*3+2)) s):=(((bz.refl (λb=>b=g) w).setCell (U g _) (.inl rfl) _).setCell (U g _) (.inl rfl) _).setCell (U g _) (.inl rfl) _;have L:∀b,b<w.heap.size->b=g->aY b≠t:=λb _ e=>by rw[e,F g rfl];exact y
 refine⟨((xs.set (i*3) (I r.wh)).set (i*3+1) (I r.ad)).set (i*3+2) s,by rw[bK,D];exact W,F,λj Z d=>?_⟩;by_cases e:j=i
 .subst e;rw[aQ M]at d;simp only[aJ]at d;subst d;refine⟨?_,?_,s,?_,P.only H L λ_ _ e=>e⟩
  .rw[aH C,aH C,cN,aQ C]
  .rw[aH C,cN,aQ gM]
  rw[cN,aQ gM]
 rw[aH (Ne.symm e)]at d;obtain⟨y1,y2,s',y3,y4⟩:=Q j Z d;refine⟨?_,?_,s',?_,y4.only H L λ_ _ e=>e⟩
 .rw[aH C,aH C,aH C];exact y1
 .rw[aH C,aH C,aH C];exact y2
 rw[aH C,aH C,aH C];exact y3
def iN.Wl(h:iN w aY t p qb X V)(i:bz (λb=>aY b=t+2) w w1)(D:sG w1 aY (t+2) (t+3) V.rv rs)(F:rs.length=X.res.length):iN w1 aY t p qb {X with res:=rs} V:=by
 have j:∀b,b<w.heap.size->aY b=aY b:=λ_ _=>rfl;have y:∀b,b<w.heap.size->aY b=t+2->aY b≠t+3:=λb _ e=>C;refine⟨(i.block p h.B λe=>by have:=h.tp;omega).H h.hp,h.tp,h.r.lay.only i y λ_ _ e=>e,D,h.r.tb,(i.block _ h.r.lb λe=>by have:=h.r.tb;omega).H h.r.mp,h.r.bo,h.r.bn,h.r.pr.only i y (λb _ e=>C) j,h.r.sl.only i y (λb _ e=>C) j,h.r.vt.only i y (λb _ e=>C) j,h.r.bg.only i (λb _ e=>C) j,h.r.b.only i y λ_ _ e=>e,λd A=>?_,h.r.pd.gH,λd A=>?_,h.r.pd.im,h.r.pd.a⟩
 .obtain⟨L,M⟩:=h.r.a d A;exact⟨L,M.only i (λb _ e=>C) j⟩
 show d.gH<rs.length;rw[F];exact h.r.pd.lt d A
def G9(j:X.dd.Pairwise λc d=>c.gH<d.gH)(D:c∈X.dd):∃l1 l2,X.dd=l1++c::l2/\(∀d∈l1,d.gH≠c.gH)/\(∀d∈l2,d.gH≠c.gH)/\X.dd.filter (λd=>d.gH !=c.gH)=l1++l2:=by
 obtain⟨l1,l2,e⟩:=fe D;rw[e]at j;have y:∀d∈l1,d.gH≠c.gH:=λd i=>by have:=(cu.1 j).2.2 d i c aN;omega
 have A:∀d∈l2,d.gH≠c.gH:=λd i=>by have:=(cI.1 (cu.1 j).2.1).1 d i;omega
 refine⟨l1,l2,e,y,A,?_⟩;rw[e,cz,cT];simp only[bne_self_eq_false,fg,if_false];rw[eD.2 λd i=>by simpa using y d i,eD.2 λd i=>by simpa using A d i]
def iN.VM(h:iN w aY t p qb X V)(L:c∈X.dd):∃l1 l2,X.dd=l1++c::l2/\(∀d∈l1,d.gH≠c.gH)/\(∀d∈l2,d.gH≠c.gH)/\iN (setBlock w V.bm (.map (gR (l1.map (jV qb V.bo)++l2.map (jV qb V.bo))) V.clk)) aY t p qb {X with dd:=X.dd.filter λd=>d.gH !=c.gH} V/\bz (λb=>b=V.bm) w (setBlock w V.bm (.map (gR (l1.map (jV qb V.bo)++l2.map (jV qb V.bo))) V.clk)):=by
 obtain⟨l1,l2,e,M,P,Q⟩:=G9 h.r.pd.gH L;have i:bz (λb=>b=V.bm) w (setBlock w V.bm (.map (gR (l1.map (jV qb V.bo)++l2.map (jV qb V.bo))) V.clk)):=jT _ _ _;have W:=h.r.tb;have A:∀b,b<w.heap.size->aY b=aY b:=λ_ _=>rfl;have D:∀b,b<w.heap.size->b=V.bm->aY b≠t+3:=λb _ e=>qj e;have j:∀d,d∈X.dd.filter (λd=>d.gH !=c.gH)->d∈X.dd:=λd y=>(aU.1 y).1;have F:=h.r.bn;refine⟨l1,l2,e,M,P,⟨(i.block p h.B λe=>by have:=h.tp;rw[e]at this;omega).H h.hp,h.tp,h.r.lay.only i D λ_ _ e=>e,h.r.res.only i D (λb _ e=>qj e) A,h.r.tb,?_,λd y=>h.r.bo d (j d y),?_,h.r.pr.only i D (λb _ e=>qj e) A,h.r.sl.only i D (λb _ e=>qj e) A,h.r.vt.only i D (λb _ e=>qj e) A,h.r.bg.only i (λb _ e=>qj e) A,h.r.b.only i D λ_ _ e=>e,λd y=>?_,?_,λd y=>h.r.pd.lt d (j d y),?_,λd y=>h.r.pd.a d (j d y)⟩,i⟩
 .show(setBlock w V.bm _).heap[V.bm]?=some (.map (gR ((X.dd.filter λd=>d.gH !=c.gH).map (jV qb V.bo))) V.clk);rw[ni h.r.lb,Q,aZ]
 .show((X.dd.filter λd=>d.gH !=c.gH).map λc=>V.bo c.gH).Nodup;exact F.sublist (List.Sublist.map _ cE)
 .obtain⟨S,T⟩:=h.r.a d (j d y);exact⟨S,T.only i (λb _ e=>qj e) A⟩
 .exact h.r.pd.gH.sublist cE
 exact h.r.pd.im.sublist cE
theorem ID(h:iN w aY t p qb X V)(Q:c∈X.dd)(r:Rz)(M:Option Addr)(P:Nat)(hs:Rd w aY (t+3) 5 (dk M r.val.length P) (r.val.map B8)):ib 96 #[O p,O (qb c.gH),.agg #[I r.wh,I r.ad,dk M r.val.length P]] w λen w'=>en=gS/\CS w aY t p qb (X.fin c r) w'/\bz (λb=>aY b=t+1\/aY b=t+2) w w':=by
 obtain⟨cv,hk⟩:=h.r.a c Q;have hl:=h.r.pd.lt c Q;obtain⟨W,hW⟩:=dS (w.alloc (gO (Al r M P) 43));have T:=(Bl.refl w).alloc (gO (Al r M P) 43);have hX:=ao w (gO (Al r M P) 43);rw[hW]at T hX;have j:=h.bl T (bp:=aY) gK;have Y:=hs.bl T (bp:=aY) λ_ _ e=>e;obtain⟨xs,y,h2,h3⟩:=j.r.res;obtain⟨g,cap,A⟩:∃g cap,V.rv=dk (G g) X.res.length cap:=by
  obtain⟨_,h0⟩|⟨g,cap,ad,e,_⟩:=y.2
  .omega
  exact⟨g,cap,e⟩
 have D:=j.r.res;rw[A]at D y h2;obtain⟨HR,a5⟩:=fl (D.set C rfl c.gH hl r _ Y) j;have ag:=(y.lt g rfl).2;have F:aY g=t+2:=h2 g rfl;have xl:xs.length=X.res.length*3:=y.1;have x0:W.cell? (U g (c.gH*3))=some xs[c.gH*3]:=by rw[y.cellAt _ C,ah]
 have x1:W.cell? (U g (c.gH*3+1))=some xs[c.gH*3+1]:=by rw[y.cellAt _ C,ah]
 have x2:W.cell? (U g (c.gH*3+2))=some xs[c.gH*3+2]:=by rw[y.cellAt _ C,ah]
 have f0:=y.frozenAt (c.gH*3);have f1:=y.frozenAt (c.gH*3+1);have f2:=y.frozenAt (c.gH*3+2);obtain⟨r0,r1,r2,lr⟩:=Ao hX;have d7:=j.cellAt 7 rfl;rw[A]at d7;obtain⟨ai,i⟩:=j.r.a c Q;have e1:=i.cellAt 1 rfl;have lp:=j.B;have lq:=i.lt;have h8:=h.r.pd.a c Q;have ak:g≠p:=λe=>by have:=h.tp;rw[e,this]at F;omega
 have al:g≠qb c.gH:=λe=>by have:=hk.tq;rw[e,this]at F;omega
 generalize xs[c.gH*3]=y0 at*;generalize xs[c.gH*3+1]=y1 at*;generalize xs[c.gH*3+2]=y2 at*;have am:g<w.heap.size:=by obtain⟨an,Z,_⟩:=h.r.res;rw[A]at Z;exact(Z.lt g rfl).2
 have ap:g≠w.heap.size:=C;have ar:(0:Int)<=(c.gH:Int):=C;have av:(c.gH:Int)<(X.res.length:Int):=C;obtain⟨a0,BW,a6,a7⟩:=ju hW T A F;clear h hk i j Y y h2 h3 hW T hX hs D F A;generalize hq:qb c.gH=q at*;have Hq:=fu hq;clear hq;go_enter func96,ntmps96;go_upto_region 1 with fail;rw[a0.o];clear a0;go_cut[] λwx=>Hid (iN wx aY t p qb {X with res:=X.res.set c.gH r} V)/\Hid (bz (λb=>aY b=t+2) W wx)
 case first=>
  go_region;all_goals(go_wp2_with fail;go_meet)
  have ho:bz (λb=>b=g) W (((W.setCell (U g (c.gH*3)) (I r.wh)).setCell (U g (c.gH*3+1)) (I r.ad)).setCell (U g (c.gH*3+2)) (dk M r.val.length P)):=(((bz.refl (λb=>b=g) W).setCell (U g _) (.inl rfl) _).setCell (U g _) (.inl rfl) _).setCell (U g _) (.inl rfl) _;have a3:bz (λb=>aY b=t+2) W (((W.setCell (U g (c.gH*3)) (I r.wh)).setCell (U g (c.gH*3+1)) (I r.ad)).setCell (U g (c.gH*3+2)) (dk M r.val.length P)):=ho.L λb _ e=>jP e a7;exact⟨(a5.Wl a3 (jP a6.o HR) aq).bl (jo.drew) gK,a3.drew⟩
 case rest=>
  obtain⟨S,HO⟩:=hcut;have j8:=S.cellAt 8 rfl;obtain⟨aw,i⟩:=S.r.a c Q;rw[Hq.o]at i;have j1:=i.cellAt 1 rfl;have b0:=S.B;have b3:=i.lt;obtain⟨l1,l2,hp,a1,a2,K2,O2⟩:=(S.bl ((Bl.refl wc).drew) (bp:=aY) gK).VM (c:=c) Q;have a4:X.dd=l1++c::l2:=hp;have L:=S.r.mp;simp only[a4,aZ,bj]at L;have b1:∀x∈l1.map (jV qb V.bo),x.k≠(jV qb V.bo c).k:=λx hx=>by obtain⟨d,hd,rfl⟩:=aD.1 hx;have:=a1 d hd;show((d.gH:Nat):Int)≠(c.gH:Int);omega
  have b2:∀x∈l2.map (jV qb V.bo),x.k≠(jV qb V.bo c).k:=λx hx=>by obtain⟨d,hd,rfl⟩:=aD.1 hx;have:=a2 d hd;show((d.gH:Nat):Int)≠(c.gH:Int);omega
  have a8:=λty=>L8 (w:=wc) ty L b1 b2;have a9:=λty=>L8 (w:=wc.drew) ty L b1 b2;rw[show(jV qb V.bo c).k=((c.gH:Nat):Int)from rfl]at a8 a9;obtain⟨aa,ab,ac⟩:=gV K2 O2 S.r.tb;clear i L x0 x1 x2 f0 f1 f2 r0 r1 r2 d7 e1 K2 O2 b1 b2 a1 a2 hp a4;go_upto_region 2 with fail;go_region;go_wp2;go_end0;have Z1:bz (λb=>aY b=t+1\/aY b=t+2) w wc:=(bz.E BW).H (HO.L λb _ e=>.inr e);have Z2:=(Z1.H (bz.E ((Bl.refl wc).drew))).H (ab.L λb _ e=>by have:=ac.o;rw[e];exact .inl this);exact⟨rfl,⟨aY,λ_ _=>rfl,⟨V,aa⟩,Z2.L λb _ e=>by unfold Mc;omega⟩,Z2⟩
def wq(h:iN w aY t p qb X V)(d:c∈X.dd)(r)(sa)(sc)(i:Rd w aY (t+3) 5 (dk sa r.val.length sc) (r.val.map B8)):ib 96 #[O p,O (qb c.gH),.agg #[I r.wh,I r.ad,dk sa r.val.length sc]] w λj w'=>j=gS/\CS w aY t p qb (X.fin c r) w':=
 (ID h d r sa sc i).L λ_ _ e=>⟨e.1,e.2.1⟩
def Cx.vA(X:Cx)(h:X.dd.Pairwise λc d=>c.gH<d.gH)(i:c∈X.dd):X.put c=X:=by
 unfold Cx.put;have:X.dd.map (λd=>if d.gH=c.gH then c else d)=X.dd:=by
  conv=>rhs;rw[<-eI X.dd]
  refine bf λx j=>?_;by_cases e:x.gH=c.gH
  .rw[aE e];exact(qt h j i e).symm
  simp_all
 rw[this]
def Cx.CF(X:Cx)(c)(r):(X.put c).fin c r=X.fin c r:=by
 unfold Cx.fin Cx.put;congr 1;rw[dZ];have i:((λd:jf=>d.gH !=c.gH)∘λd=>if d.gH=c.gH then c else d)=λd=>d.gH !=c.gH:=by
  funext d;show((if d.gH=c.gH then c else d).gH !=c.gH)=_;by_cases e:d.gH=c.gH
  .simp_all
  rw[az e]
 rw[i]
 conv=>rhs;rw[<-eI (X.dd.filter _)]
 refine bf λx j=>?_;simp_all
def Cx.pe(X:Cx)(c):(X.put c).ku c=X.ku c:=Cx.CM X c _ _ _ _
def Cx.UZ(X:Cx)(c):(X.put c).oH c=X.oH c:=Cx.CM X c _ _ _ _
def Cx.U2(X:Cx)(c)(m)(e):(X.put c).oO c m e=X.oO c m e:=by show(({X with iu:=X.iu+1}:Cx).put c).put _=({X with iu:=X.iu+1}:Cx).put _;exact Cx.xN _ rfl
def CS.iz(d:bz (λb=>Mc t (aY b)) w w1)(h:CS w1 aY t p qb X w'):CS w aY t p qb X w':=by obtain⟨bp,i,j,y⟩:=h;exact⟨bp,λb A=>i b (af A d.size),j,d.H y⟩
def iN.RY(h:iN w aY t p qb X V)(d:c∈X.dd)(k:j9 w aY t (qb c.gH) c cv)(i:bz (λb=>b=qb c.gH) w w')(j:j9 w' aY t (qb c.gH) c' cv')(y:c'.gH=c.gH)(A:c'.im=c.im):iN w' aY t p qb (X.put c') V/\bz (λb=>Mc t (aY b)) w w':=
 ⟨h.call d (k.wJ i) j y A,h.CL d (k.wJ i)⟩
def iN.UH(h:iN w aY t p qb X V)(d:c∈X.dd)(u)(tv)(j:Rd w aY (t+3) 5 tv (u.val.map B8)):iN (jX w (qb c.gH) 9 [I u.kd,I u.cl,I u.ca,tv]) aY t p qb (X.put {c with iR:=u}) V/\bz (λb=>Mc t (aY b)) w (jX w (qb c.gH) 9 [I u.kd,I u.cl,I u.ca,tv]):=by obtain⟨cv,k⟩:=h.r.a c d;have i:bz _ w (jX w _ 9 [I u.kd,I u.cl,I u.ca,tv]):=jw (S:=λb=>b=qb c.gH) (.inl rfl) _ 9 w (bz.refl _ w);exact h.RY d k i (k.B (cv':={cv with cv:=tv}) i (jY _ 9 w _ k.hq) rfl k.gZ j k.e k.q) rfl rfl
def iN.Uz(h:iN w aY t p qb X V)(d:c∈X.dd)(i:Nat):iN (w.setCell (U (qb c.gH) 13) (I i)) aY t p qb (X.put {c with iA:=i}) V/\bz (λb=>Mc t (aY b)) w (w.setCell (U (qb c.gH) 13) (I i)):=by obtain⟨cv,k⟩:=h.r.a c d;have j:bz _ w (w.setCell (U (qb c.gH) 13) (I i)):=(bz.refl (λb=>b=qb c.gH) w).setCell (U (qb c.gH) 13) (.inl rfl) _;exact h.RY d k j (k.B j (iU 13 _ w _ k.hq) rfl k.gZ k.iR k.e k.q) rfl rfl
def iN.UJ(h:iN w aY t p qb X V)(d:c∈X.dd):iN (jX w (qb c.gH) 17 [I 0,I 0,I 0,I 0,I 0,I 0,I 0,I 0,OO,OO,.bool false,.map none]) aY t p qb (X.put {c with q:=Qn.zero}) V/\bz (λb=>Mc t (aY b)) w (jX w (qb c.gH) 17 [I 0,I 0,I 0,I 0,I 0,I 0,I 0,I 0,OO,OO,.bool false,.map none]):=by obtain⟨cv,k⟩:=h.r.a c d;have i:bz (λb=>b=qb c.gH) w (jX w (qb c.gH) 17 [I 0,I 0,I 0,I 0,I 0,I 0,I 0,I 0,OO,OO,.bool false,.map none]):=jw (S:=λb=>b=qb c.gH) (.inl rfl) _ 17 w (bz.refl _ w);exact h.RY d k i (k.B (c':={c with q:=Qn.zero}) (cv':={cv with q:=QV.zero}) i (jY _ 17 w _ k.hq) rfl k.gZ k.iR k.e QR.zero) rfl rfl
theorem CJ(h:iN w aY t p qb X V)(A:100<=t)(M:mD X)(D:c∈X.dd)(hA:X.F c.iS)(hk1:c.kind=1\/c.kind=3):ib 89 #[O p,O (qb c.gH)] w λF w'=>F=gS/\CS w aY t p qb (X.dO c) w':=by
 have hX:X.dO c=X.ku {c with iR:=c.gZ,iA:=0}:=by unfold Cx.dO;rw[aE hk1]
 obtain⟨cv,i⟩:=h.r.a c D;obtain⟨T,W,j⟩:=i.gZ.E;rw[ay]at j;obtain⟨_,ch,_,_,P,Q,_⟩:=M.chain c.iS;have d:=i.gZ;rw[j]at d;obtain⟨Y,Z⟩:=h.UH D c.gZ _ d;obtain⟨H,O2⟩:=Y.Uz (c:={c with iR:=c.gZ}) (Cx.nE D rfl) 0;rw[Cx.xN X (c1:={c with iR:=c.gZ}) (c2:={c with iR:=c.gZ,iA:=0}) rfl]at H;have S:=Z.H O2;obtain⟨W1,y⟩:=dS ((jX w (qb c.gH) 9 [I c.gZ.kd,I c.gZ.cl,I c.gZ.ca,dk T c.gZ.val.length W]).setCell (U (qb c.gH) 13) (I (0:Nat)));rw[y]at H S;have HN:Hid (ib 149 #[O p,O (qb c.gH)] W1 λF w'=>F=gS/\CS w aY t p qb (X.dO c) w'):=
  (uT H A (M.put _) (c:={c with iR:=c.gZ,iA:=0}) (Cx.nE D rfl) hA (by show 0<(X.chain c.iS).length;rw[P];exact Q)).L λF w'⟨e1,e2⟩=>⟨e1,by
   rw[hX,<-Cx.pe]
   exact CS.iz S e2⟩
 obtain⟨e0,e5,e6⟩:=i.Iq 0 5 6 rfl;obtain⟨e7,e8⟩:=i.M 7 8 rfl;rw[j]at e8;obtain⟨e9,a0,a1⟩:=i.Iq 9 10 11 rfl;obtain⟨a2,a3⟩:=i.M 12 13 rfl;obtain⟨g9,a4,a5⟩:=i.VJ 9 10 11;obtain⟨a6,a7⟩:=i.VZ 12 13;have lq:=i.lt;have HE:Hid (((((w.setCell (U (qb c.gH) 9) (I c.gZ.kd)).setCell (U (qb c.gH) 10) (I c.gZ.cl)).setCell (U (qb c.gH) 11) (I c.gZ.ca)).setCell (U (qb c.gH) 12) (dk T c.gZ.val.length W)).setCell (U (qb c.gH) 13) (I 0)=W1):=y;clear h i Y H Z O2 S y d M;generalize qb c.gH=q at*;obtain hk1|hk1:=hk1;all_goals
  rw[hk1]at e0;go_enter func89,ntmps89;go_upto_region 4 with fail;rw[HE.o];go_wp2_with(go_at_call 149;refine ix HN λw3 HS=>?_);go_end0;exact⟨rfl,HS⟩
theorem NJ(h:iN w aY t p qb X V)(d:100<=t)(y:mD X)(A:c∈X.dd)(F:X.F c.iS)(i:c.kind=2):ib 89 #[O p,O (qb c.gH)] w λH w'=>H=gS/\CS w aY t p qb (X.dO c) w':=by
 have L:X.dO c=X.oH c:=by unfold Cx.dO;rw[az C,aE i]
 obtain⟨cv,j⟩:=h.r.a c A;have D:=fu (PF h d y A F);rw[<-L]at D;have M:=j.cellAt 0 rfl;have Q:=j.lt;rw[i]at M;clear h j y;go_enter func89,ntmps89;go_wp2_with(go_at_call 150;refine ix D λS P=>?_);go_end0;exact⟨rfl,P⟩
theorem L9(h:iN w aY t p qb X V)(d:100<=t)(y:mD X)(A:c∈X.dd)(i:c.kind=4):ib 89 #[O p,O (qb c.gH)] w λF w'=>F=gS/\CS w aY t p qb (X.dO c) w':=by
 have H:X.dO c=X.oO c c.iS ⟨1,0,[]⟩:=by unfold Cx.dO;rw[az C,az C,aE i]
 obtain⟨cv,j⟩:=h.r.a c A;have D:=fu (Ft h d y A c.iS 1 0);rw[<-H]at D;obtain⟨L,P⟩:=j.M 0 3 rfl;have Q:=j.lt;rw[i]at L;clear h j y;go_enter func89,ntmps89;go_wp2_with(go_at_call 151;refine ix D λS M=>?_);go_end0;exact⟨rfl,M⟩
def Vb(h:iN w aY t p qb X V)(j:c∈X.dd)(d:c.kind=5):Calls prog 89 #[O p,O (qb c.gH)] w λy w'=>y=gS/\CS w aY t p qb (X.dO c) w':=by
 have A:X.dO c=X:=by unfold Cx.dO;rw[az C,az C,az C]
 obtain⟨cv,i⟩:=h.r.a c j;have D:=i.cellAt 0 rfl;have F:=i.lt;rw[d]at D;rw[A];have HF:=fu (CS.E ⟨V,h⟩ (Bl.refl w));clear h i;generalize qb c.gH=q at*;go_wp2;go_end0;exact⟨rfl,HF⟩
theorem Dc(kd cl ca)(va)(vn vc)(w):ib 308 #[.agg #[I kd,I cl,I ca,dk va vn vc]] w λd w'=>d=gG (.agg #[I kd,I 0,dk va vn vc])/\Bl w w':=by
 go_enter func308,ntmps308;go_wp2;refine aG (by simp[results,results308,go_sem]) rfl ⟨rfl,?_⟩;exact(jo.alloc _).alloc _
def Cx.GQ(X:Cx)(c)(h:c.iA+1<(X.chain c.iS).length):X.jO c=(X.put {c with iA:=c.iA+1}).ku {c with iA:=c.iA+1}:=by unfold Cx.jO;rw[aE h,Cx.pe]
def Cx.BT(X:Cx)(c)(h:¬c.iA+1<(X.chain c.iS).length)(d:c.kind=1):X.jO c=(X.put {c with iA:=c.iA+1}).fin {c with iA:=c.iA+1} ⟨1,c.iS,[]⟩:=by unfold Cx.jO;rw[az h,aE d,Cx.CF];rfl
def Cx.Bz(X:Cx)(c)(h:¬c.iA+1<(X.chain c.iS).length)(d:c.kind≠1):X.jO c=(X.put {c with iA:=c.iA+1}).fin {c with iA:=c.iA+1} (Cx.oz c.iR):=by unfold Cx.jO;rw[az h,az d,Cx.CF];rfl
theorem zG(h:iN w aY t p qb X V)(a1:100<=t)(hx:mD X)(hc:c∈X.dd)(hA:X.F c.iS)(am:c.iA<1000):ib 309 #[O p,O (qb c.gH)] w λen w'=>en=gS/\CS w aY t p qb (X.jO c) w':=by
 obtain⟨cv,hk⟩:=h.r.a c hc;obtain⟨H1,O1⟩:=h.Uz hc (c.iA+1);obtain⟨W1,S⟩:=dS (w.setCell (U (qb c.gH) 13) (I (c.iA+1:Nat)));rw[S]at H1 O1;have D:({c with iA:=c.iA+1}:jf)∈(X.put {c with iA:=c.iA+1}).dd:=Cx.nE hc rfl;have T1:Hid (∀W,Bl W1 W->iN W aY t p qb (X.put {c with iA:=c.iA+1}) V):=λW hW=>H1.bl hW λ_ _=>rfl;have HC:Hid (∀W,Bl W1 W->_):=λW hW=>yk (T1 W hW) (hx.put _) (c:={c with iA:=c.iA+1}) D hA;have a8:=hk.cellAt 13 rfl;have a9:=hk.F 13;have lq:=hk.lt;obtain⟨aa,d⟩:=H1.r.a _ D;obtain⟨T,Y,F⟩:=d.iR.E;rw[ay]at F;have a2:W1.cell? (U (qb c.gH) 13)=some (I ((c.iA:Int)+1)):=d.cellAt 13 rfl;have d0:W1.cell? (U (qb c.gH) 0)=some (I c.kind):=d.cellAt 0 rfl;have d3:W1.cell? (U (qb c.gH) 3)=some (I c.iS):=d.cellAt 3 rfl;have d9:W1.cell? (U (qb c.gH) 9)=some (I c.iR.kd):=d.cellAt 9 rfl;have a3:W1.cell? (U (qb c.gH) 10)=some (I c.iR.cl):=d.cellAt 10 rfl;have a4:W1.cell? (U (qb c.gH) 11)=some (I c.iR.ca):=d.cellAt 11 rfl;have Z:W1.cell? (U (qb c.gH) 12)=some aa.cv:=d.cellAt 12 rfl;rw[F]at Z;have a5:=d.lt;have HE:Hid (w.setCell (U (qb c.gH) 13) (I (c.iA+1))=W1):=S;have an:(c.iA:Int)<1000:=C;have i:=d.iR;rw[F]at i;have ab:Hid (Rd W1 aY (t+3) 5 (dk T c.iR.val.length Y) (c.iR.val.map B8)):=i;obtain⟨ac,a0,Hx⟩:=gV O1 D hx;have j:qb c.gH<W1.heap.size:=a5;clear h hk H1 O1 S d i a5 F;generalize hq:qb c.gH=q at*;have Hq:=fu hq;clear hq hx D;have a6:(X.put {c with iA:=c.iA+1}).chain c.iS=X.chain c.iS:=rfl;dsimp only at HC;rw[a6]at HC;go_enter func309,ntmps309;go_upto_region 2 with fail;rw[HE.o];clear HE;go_cut[19] λy wx=>y=.bool (decide ((c.iA:Int)+1<((X.chain c.iS).length:Int)))/\Hid (Bl W1 wx)
 case first=>
  go_region_held3(λW=>W.cell? (U q 13)=some (I (c.iA+1))) (go_keep) (first|(go_at_call 189;refine(HC _ ?hb).L ?_;(case hb=>exact iZ);rintro en w2⟨ap,ar,rfl,a7,ag⟩;have hB:Bl W1 w2:=Bl.H iZ a7;have z4:=(hB.cell j).H a2;have M:=fu hB;clear a7 hB ag));all_goals(go_wp2_with fail;go_meet)
  all_goals exact⟨rfl,M⟩
 case rest=>
  obtain⟨rfl,Q⟩:=hcut;obtain⟨U7,av,aw⟩:=Q.F j d0 d3 d9;obtain⟨ai,ak,al⟩:=Q.F j a3 a4 Z;have b0:=af j Q.lt;have OB:=fu (ac.H (bz.E Q));clear d0 d3 d9 a3 a4 Z a2 a8 a9 HC;by_cases iV:c.iA+1<(X.chain c.iS).length
  .have hd:decide ((c.iA:Int)+1<((X.chain c.iS).length:Int))=true:=gM;rw[hd];obtain⟨A,hX⟩:=fl (uT (T1 wc Q) a1 (Hx.put _) (c:={c with iA:=c.iA+1}) a0 hA iV) (X.GQ c iV);dsimp only at A;rw[Hq.o]at A;go_wp2_with(go_at_call 149;refine ix A λw3 HS=>?_);go_end0;exact⟨rfl,by rw[hX.o];exact CS.iz OB HS⟩
  have hd:decide ((c.iA:Int)+1<((X.chain c.iS).length:Int))=false:=gM;rw[hd];by_cases P:c.kind=1
  .obtain⟨A,hX⟩:=fl (wq (T1 wc Q) (c:={c with iA:=c.iA+1}) a0 ⟨1,c.iS,[]⟩ none 0 Rd.nil) (X.BT c iV P);simp only[dA]at A;rw[Hq.o]at A;rw[P]at U7;go_wp2_with(go_at_call 96;refine ix A λw3 HS=>?_);go_end0;exact⟨rfl,by rw[hX.o];exact CS.iz OB HS⟩
  have b1:(c.kind==1)=false:=by simpa using P
  have A:Hid (∀W,Bl wc W->_):=λW hW=>wq (T1 W (Q.H hW)) (c:={c with iA:=c.iA+1}) a0 (Cx.oz c.iR) T Y (ab.bl (Q.H hW) λ_ _ e=>e);obtain⟨hX,HT⟩:=fl (X.Bz c iV P) (Dc c.iR.kd c.iR.cl c.iR.ca T c.iR.val.length Y);simp only[show(Cx.oz c.iR).wh=c.iR.kd from rfl,show(Cx.oz c.iR).ad=0 from rfl,show(Cx.oz c.iR).val=c.iR.val from rfl]at A;rw[Hq.o]at A;go_wp2_with(first|(go_at_call 308;refine ix (HT _) λw2 M=>?_)|(go_at_call 96;refine ix (A _ M) λw3 HS=>?_));go_end0;exact⟨rfl,by rw[hX.o];exact CS.iz (OB.H (bz.E M)) HS⟩
theorem x9(y:j9 w aY t q c cv)(kd cl ca)(va)(vn vc):ib 315 #[O q,.agg #[I kd,I cl,I ca,dk va vn vc]] w λP w'=>P=gG (.bool (cl==c.gZ.cl&&ca==c.gZ.ca))/\Bl w w':=by
 obtain⟨W,D⟩:=dS (w.alloc (gO #[I kd,I cl,I ca,dk va vn vc] 91));have A:=(Bl.refl w).alloc (gO #[I kd,I cl,I ca,dk va vn vc] 91);have F:=ao w (gO #[I kd,I cl,I ca,dk va vn vc] 91);rw[D]at A F;obtain⟨S,T,Y,Z,lr⟩:=qP F;have e6:=(A.cell y.lt).H (y.cellAt 6 rfl);have e7:=(A.cell y.lt).H (y.cellAt 7 rfl);have lq:=af y.lt A.lt;obtain⟨Q,i⟩:=fl D A;clear y D A F;go_enter func315,ntmps315;go_upto_region 1 with fail;rw[Q.o];by_cases L:cl=c.gZ.cl
 .by_cases M:ca=c.gZ.ca
  .have d:(cl==c.gZ.cl)=true:=by simpa using L
   have j:(ca==c.gZ.ca)=true:=iG M;go_quiet(fail);go_wp2;go_ret;exact⟨by simp[d,j],by first|exact i.o|exact i.drew|exact i.drewN _⟩
  have d:(cl==c.gZ.cl)=true:=by simpa using L
  have j:(ca==c.gZ.ca)=false:=iG M;go_quiet(fail);go_wp2;go_ret;exact⟨by simp[d,j],by first|exact i.o|exact i.drew|exact i.drewN _⟩
 have d:(cl==c.gZ.cl)=false:=by simpa using L
 go_quiet(fail);go_wp2;go_ret;exact⟨mY d,by first|exact i.o|exact i.drew|exact i.drewN _⟩
theorem Km(h:iN w aY t p qb X V)(P:c∈X.dd)(H:c.kind=1)(u)(j:Cx.iJ c u=false)(va)(vc):ib 310 #[O p,O (qb c.gH),.agg #[I u.kd,I u.cl,I u.ca,dk va u.val.length vc]] w λen w'=>en=gS/\CS w aY t p qb (X.oe c u) w':=by
 have Q:Hid (X.oe c u=X.put {c with q:=Qn.zero}):=by unfold Hid Cx.oe;rw[aE ⟨H,j⟩]
 obtain⟨W,S⟩:=dS (w.alloc (JY u va vc));have L:=(Bl.refl w).alloc (JY u va vc);have T:=ao w (JY u va vc);rw[S]at L T;obtain⟨r0,r1,r2,r3,lr⟩:=qP T;have y:=h.bl L (bp:=aY) gK;obtain⟨cv,M⟩:=y.r.a c P;have Y:=fu (x9 M u.kd u.cl u.ca va u.val.length vc);have i:(u.cl==c.gZ.cl&&u.ca==c.gZ.ca)=false:=j;rw[i]at Y;have e0:=M.cellAt 0 rfl;rw[H]at e0;have lq:=M.lt;obtain⟨Z,HW,BW⟩:=gV y S L;clear h M S L T y j i;generalize hq:qb c.gH=q at*;have Hq:=fu hq;clear hq;go_enter func310,ntmps310;go_upto_region 1 with fail;rw[HW.o];clear HW;go_wp2_with(go_at_call 315;refine gF Y λw2 A=>?_;have D:=Z.bl A (bp:=aY) gK;obtain⟨a1,d⟩:=D.r.a c P;rw[Hq.o]at d;have l3:=d.lt;obtain⟨a2,a3,a4,a5⟩:=d.Z 17 18 19 20 rfl;obtain⟨a6,a7,a8,a9⟩:=d.Z 21 22 23 24 rfl;obtain⟨aa,ab,ac,ad⟩:=d.Z 25 26 27 28 rfl;obtain⟨ag,ai,ak,al⟩:=d.zN 17 18 19 20;obtain⟨am,an,ap,ar⟩:=d.zN 21 22 23 24;obtain⟨av,aw,b0,b1⟩:=d.zN 25 26 27 28;obtain⟨HZ,a0⟩:=fl (D.UJ P) A;clear A D d Y);(try simp only[Exit.inBlock,Exit.then])
 refine aG (v:= .tuple #[]) (by simp[results,results310,go_sem]) rfl ⟨rfl,?_⟩;rw[Q.o];have F:=HZ.o;rw[Hq.o]at F;exact CS.F (BW.H a0) (CS.mk F.1 F.2)
theorem LG(h:iN w aY t p qb X V)(D:100<=t)(hx:mD X)(hc:c∈X.dd)(u)(F:¬(c.kind=1/\Cx.iJ c u=false))(hA:X.F c.iS)(a1:c.iA<1000)(va)(vc)(ht:Rd w aY (t+3) 5 (dk va u.val.length vc) (u.val.map B8)):ib 310 #[O p,O (qb c.gH),.agg #[I u.kd,I u.cl,I u.ca,dk va u.val.length vc]] w λen w'=>en=gS/\CS w aY t p qb (X.oe c u) w':=by
 have a2:Hid (X.oe c u=(X.put {c with iR:=u}).jO {c with iR:=u}):=by
  unfold Hid Cx.oe;rw[az F];unfold Cx.jO;rw[show(X.put {c with iR:=u}).chain=X.chain from rfl];simp only[Cx.CF X {c with iR:=u}];have:∀n,(X.put {c with iR:=u}).ku {c with iR:=u,iA:=n}=X.ku {c with iR:=u,iA:=n}:=λn=>by rw[<-Cx.pe (X.put {c with iR:=u}),Cx.xN X (c1:={c with iR:=u}) (c2:={c with iR:=u,iA:=n}) rfl,Cx.pe]
  simp only[this]
 obtain⟨W,hW⟩:=dS (w.alloc (JY u va vc));have H:=(Bl.refl w).alloc (JY u va vc);have hX:=ao w (JY u va vc);rw[hW]at H hX;obtain⟨r0,r1,r2,r3,lr⟩:=qP hX;have j:=h.bl H (bp:=aY) gK;obtain⟨cv,A⟩:=j.r.a c hc;have HO:=fu (x9 A u.kd u.cl u.ca va u.val.length vc);have HN:Hid (∀W2,Bl W W2->∀W1,jX W2 (qb c.gH) 9 [I u.kd,I u.cl,I u.ca,dk va u.val.length vc]=W1->ib 309 #[O p,O (qb c.gH)] W1 λen w'=>en=gS/\CS w aY t p qb (X.oe c u) w'):=λW2 d W1 e1=>by obtain⟨H1,O1⟩:=(j.bl d (bp:=aY) gK).UH hc u _ (ht.bl (H.H d) λ_ _ e=>e);rw[e1]at H1 O1;refine(zG H1 D (hx.put _) (c:={c with iR:=u}) (Cx.nE hc rfl) hA a1).L λen w'⟨e1,e2⟩=>⟨e1,?_⟩;rw[a2.o];exact CS.F (H.H d) (CS.iz O1 e2)
 have e0:=A.cellAt 0 rfl;have lq:=A.lt;obtain⟨e9,M,P,Q⟩:=A.Z 9 10 11 12 rfl;obtain⟨g9,S,T,Y⟩:=A.zN 9 10 11 12;obtain⟨HW,a3⟩:=fl hW j;clear h A hW H hX j ht hx;generalize hq:qb c.gH=q at*;have Hq:=fu hq;clear hq;by_cases y:c.kind=1
 .have Z:(u.cl==c.gZ.cl&&u.ca==c.gZ.ca)=true:=by
   cases e:Cx.iJ c u with
   |true=>exact e
   |false=>exact absurd ⟨y,e⟩ F
  rw[Z]at HO;rw[y]at e0;clear e9 M P Q g9 S T Y;go_enter func310,ntmps310;go_upto_region 1 with fail;rw[HW.o];clear HW;go_upto_region 4 with(go_at_call 315;refine gF HO λw2 d=>?_;have a0:=a3.bl d (bp:=aY) gK;obtain⟨a6,k4⟩:=a0.r.a c hc;rw[Hq.o]at k4;have l3:=k4.lt;obtain⟨e9,M,P,Q⟩:=k4.Z 9 10 11 12 rfl;obtain⟨g9,S,T,Y⟩:=k4.zN 9 10 11 12;obtain⟨z0,z1,z2,z3⟩:=d.J lr r0 r1 r2 r3;have a7:=af lr d.lt;have a4:=fu d;clear d a0 k4 HO);have i:=fu (HN w2 a4 _ rfl);unfold jX jX jX jX jX at i;go_wp2_with(go_at_call 309;refine ix i λw3 HS=>?_);go_end0;exact⟨rfl,HS⟩
 have a5:(c.kind==1)=false:=by simpa using y
 have i:=fu (HN W jo _ rfl);unfold jX jX jX jX jX at i;go_enter func310,ntmps310;go_upto_region 1 with fail;rw[HW.o];clear HW;go_upto_region 4 with fail;go_wp2_with(go_at_call 309;refine ix i λw3 HS=>?_);go_end0;exact⟨rfl,HS⟩
def LO(h:iN w aY t p qb X V)(d:100<=t)(A:mD X)(y:c∈X.dd)(u)(D:X.F c.iS)(i:c.iA<1000)(va)(vc)(F:Rd w aY (t+3) 5 (dk va u.val.length vc) (u.val.map B8)):ib 310 #[O p,O (qb c.gH),.agg #[I u.kd,I u.cl,I u.ca,dk va u.val.length vc]] w λH w'=>H=gS/\CS w aY t p qb (X.oe c u) w':=by
 by_cases j:c.kind=1/\Cx.iJ c u=false
 .exact Km h y j.1 u j.2 va vc
 exact LG h d A y u j D i va vc F
def Ex(c:jf)(A:An):Bool:=Cx.iJ c A.ct||(decide (0<c.iA)&&Cx.iJ c c.iR)
abbrev qi(A:An)(va:Option Addr)(vc:Nat):Value:= .agg #[I A.wh,I A.ep,I A.mark,I A.ct.kd,I A.ct.cl,I A.ct.ca,.slice va A.ct.val.length vc]
theorem GS(h:iN w aY t p qb X V)(a0:100<=t)(hx:mD X)(hc:c∈X.dd)(A)(va)(vc):ib 311 #[O p,O (qb c.gH),qi A va vc] w λen w'=>en=gS/\CS w aY t p qb (X.kU c A) w':=by
 obtain⟨W,hW⟩:=dS (w.alloc (Tg A va vc));have bW:=(Bl.refl w).alloc (Tg A va vc);have hX:=ao w (Tg A va vc);rw[hW]at bW hX;obtain⟨⟨r0,r1,r2,r3,r4,r5,r6⟩,_,lr⟩:=BE hX;have Q:=h.bl bW (bp:=aY) gK;obtain⟨cv,hk⟩:=Q.r.a c hc;obtain⟨ca,cc,a1⟩:=hk.iR.E;rw[ay]at a1;have D:=fu (x9 hk A.ct.kd A.ct.cl A.ct.ca va A.ct.val.length vc);have a2:Hid (∀T,Bl W T->ib 315 #[O (qb c.gH),.agg #[I c.iR.kd,I c.iR.cl,I c.iR.ca,dk ca c.iR.val.length cc]] T λen w'=>en=gG (.bool (c.iR.cl==c.gZ.cl&&c.iR.ca==c.gZ.ca))/\Bl T w'):=λT hb=>by obtain⟨be,b7⟩:=(Q.bl hb (bp:=aY) gK).r.a c hc;exact x9 b7 c.iR.kd c.iR.cl c.iR.ca ca c.iR.val.length cc
 obtain⟨e9,a3,a4,Y⟩:=hk.Z 9 10 11 12 rfl;rw[a1]at Y;have S:=hk.cellAt 13 rfl;have lq:=hk.lt;obtain⟨b8,HW,BW⟩:=gV Q hW bW;clear h hk hW bW hX Q;have Hx:=fu hx;clear hx;have i:Hid (Ex c A=((A.ct.cl==c.gZ.cl&&A.ct.ca==c.gZ.ca)||(decide (0<c.iA)&&(c.iR.cl==c.gZ.cl&&c.iR.ca==c.gZ.ca)))):=rfl;generalize hq:qb c.gH=q at*;have Hq:=fu hq;clear hq;generalize b9:(A.ct.cl==c.gZ.cl&&A.ct.ca==c.gZ.ca)=o1 at*;generalize ba:(c.iR.cl==c.gZ.cl&&c.iR.ca==c.gZ.ca)=o2 at*;clear b9 ba;go_enter func311,ntmps311;go_upto_region 1 with fail;rw[HW.o];clear HW;go_cut[6] λy wx=>y=.bool (Ex c A)/\Hid (Bl W wx)
 case first=>
  by_cases hp:0<c.iA
  .have M:decide (0<c.iA)=true:=by simpa using hp
   have bg:(0:Int)<(c.iA:Int):=C
   cases o1 with
   |true=>go_wp2_with(go_at_call 315;refine ix D λw2 j=>?_);go_meet;exact⟨Z5 Value.bool (by rw[i.o,M];simp),j⟩
   |false=>go_wp2_with(first|(go_at_call 315;refine gF D λw2 d=>?_;obtain⟨z9,bi,bl⟩:=d.F lq e9 a3 a4;obtain⟨bm,bb⟩:=d.E lq Y S;have bc:=af lq d.lt;have j:=fu d;clear d D)|(go_at_call 315;refine ix (a2 _ j) λw3 bd=>?_));go_meet;exact⟨Z5 Value.bool (by rw[i.o,M];simp),j.H bd⟩
  have a5:c.iA=0:=C;have M:decide (0<c.iA)=false:=iG a5;rw[a5]at S
  cases o1 with
  |true=>go_wp2_with(go_at_call 315;refine ix D λw2 j=>?_);go_meet;exact⟨Z5 Value.bool (by rw[i.o,M];simp),j⟩
  |false=>go_wp2_with(go_at_call 315;refine gF D λw2 d=>?_;have bb:=(d.cell lq).H S;have bc:=af lq d.lt;have j:=fu d;clear d D);go_meet;exact⟨Z5 Value.bool (by rw[i.o,M];simp),j⟩
 case rest=>
  obtain⟨rfl,HB⟩:=hcut;have H2:=b8.bl HB (bp:=aY) gK;obtain⟨bn,P⟩:=H2.r.a c hc;rw[Hq.o]at P;have l3:=P.lt;have z2:=(HB.cell lr).H r2;have bo:=af lr HB.lt;obtain⟨y0,y3⟩:=P.M 0 3 rfl;have HZ:=fu (H2.UJ hc);have HL:Hid (∀T,Bl wc T->∀wh ad,_):=λT d wh ad=>Ft (H2.bl d (bp:=aY) gK) a0 Hx hc A.mark wh ad;rw[Hq.o]at HL HZ;have hT:X.kU c A=if Ex c A then(if c.kind=1 then X.oO c A.mark ⟨1,c.iS,[]⟩else X.oO c A.mark ⟨9,0,[]⟩)else(if c.kind=1 then X.put {c with q:=Qn.zero}else X.oO c A.mark ⟨4,0,[]⟩):=rfl
  have HT:=fu hT;clear hT D a2 e9 a3 a4 Y S r0 r1 r2 r3 r4 r5 r6;obtain⟨a6,a7,a8,a9⟩:=P.Z 17 18 19 20 rfl;obtain⟨aa,ab,ac,ag⟩:=P.Z 21 22 23 24 rfl;obtain⟨ai,ak,al,am⟩:=P.Z 25 26 27 28 rfl;obtain⟨an,ap,ar,av⟩:=P.zN 17 18 19 20;obtain⟨aw,b0,b1,b2⟩:=P.zN 21 22 23 24;obtain⟨b3,b4,b5,b6⟩:=P.zN 25 26 27 28;have BB:=fu (BW.H HB);clear P H2;by_cases F:c.kind=1
  .rw[F]at y0
   cases hm:Ex c A with
   |true=>
    have Z:Hid (X.kU c A=X.oO c A.mark ⟨1,c.iS,[]⟩):=by unfold Hid;rw[HT.o,aE hm,aE F]
    clear a6 a7 a8 a9 aa ab ac ag ai ak al am an ap ar av aw b0 b1 b2 b3 b4 b5 b6;go_upto_region 6 with fail;go_region_with(first|(go_at_call 151;refine(HL _ ?hb 1 c.iS).L ?_;(case hb=>exact iZ);rintro en w3⟨rfl,hs⟩;have HS:=fu hs;clear hs));all_goals
     go_wp2;first
      |go_end0
      |((try simp only[Exit.inBlock,Exit.then]);refine aG (v:= .tuple #[]) (by simp[results,results311,go_sem]) rfl ?_)
     refine⟨rfl,?_⟩;rw[Z.o];exact CS.F (BB.H iZ) HS
   |false=>
    have Z:Hid (X.kU c A=X.put {c with q:=Qn.zero}):=by unfold Hid;rw[HT.o,az (nI hm),aE F]
    go_wp2;first
     |go_end0
     |((try simp only[Exit.inBlock,Exit.then]);refine aG (v:= .tuple #[]) (by simp[results,results311,go_sem]) rfl ?_)
    refine⟨rfl,?_⟩;rw[Z.o];exact CS.F BB (CS.mk HZ.1 HZ.2)
  have bq:(c.kind==1)=false:=by simpa using F
  clear a6 a7 a8 a9 aa ab ac ag ai ak al am an ap ar av aw b0 b1 b2 b3 b4 b5 b6
  cases hm:Ex c A with
  |true=>
   have Z:Hid (X.kU c A=X.oO c A.mark ⟨9,0,[]⟩):=by unfold Hid;rw[HT.o,aE hm,az F]
   go_wp2_with(go_at_call 151;refine ix (HL _ jo 9 0) λw3 HS=>?_);first
    |go_end0
    |((try simp only[Exit.inBlock,Exit.then]);refine aG (v:= .tuple #[]) (by simp[results,results311,go_sem]) rfl ?_)
   refine⟨rfl,?_⟩;rw[Z.o];exact CS.F BB HS
  |false=>
   have Z:Hid (X.kU c A=X.oO c A.mark ⟨4,0,[]⟩):=by unfold Hid;rw[HT.o,az (nI hm),az F]
   go_wp2_with(go_at_call 151;refine ix (HL _ jo 4 0) λw3 HS=>?_);first
    |go_end0
    |((try simp only[Exit.inBlock,Exit.then]);refine aG (v:= .tuple #[]) (by simp[results,results311,go_sem]) rfl ?_)
   refine⟨rfl,?_⟩;rw[Z.o];exact CS.F BB HS
abbrev rR(A:An)(va:Option Addr)(vc:Nat):Obj:= .cells #[I A.wh,I A.ep,I A.mark,I A.ct.kd,I A.ct.cl,I A.ct.ca,.slice va A.ct.val.length vc] 215
theorem Ob(h:iN w aY t p qb X V)(j:100<=t)(L:mD X)(W:c∈X.dd)(Z:X.F c.iS)(Q:c.iA<1000)(A)(va)(vc)(S:Rd w aY (t+3) 5 (dk va A.ct.val.length vc) (A.ct.val.map B8)):ib 289 #[O p,O (qb c.gH),qi A va vc] w λen w'=>en=gS/\CS w aY t p qb (X.mN c A) w':=by
 have F:=(Bl.refl w).alloc (rR A va vc);have d:=h.bl F (bp:=aY) gK;have y:=S.bl F (bp:=aY) λ_ _ e=>e;have D:=fu F;by_cases H:A.wh=1
 .have i:=fu (zG d j L W Z Q);have M:Hid (X.mN c A=X.jO c):=by unfold Hid Cx.mN;rw[aE H]
  clear h d y S F L;unfold qi;unfold rR at i D;rw[H]at i D|-;generalize qb c.gH=q at*;go_enter func289,ntmps289;go_wp2_with(go_at_call 309;refine ix i λw3 T=>?_);go_end0;exact⟨rfl,by rw[M.o];exact CS.F D T⟩
 by_cases P:A.wh=2
 .have i:=fu (LO d j L W A.ct Z Q va vc y);have M:Hid (X.mN c A=X.oe c A.ct):=by unfold Hid Cx.mN;rw[az H,aE P]
  clear h d y S F L H;unfold qi;unfold rR at i D;rw[P]at i D|-;generalize qb c.gH=q at*;go_enter func289,ntmps289;go_wp2_with(go_at_call 310;refine ix i λw3 T=>?_);go_end0;exact⟨rfl,by rw[M.o];exact CS.F D T⟩
 by_cases Y:A.wh=4
 .have i:=fu (GS d j L W A va vc);have M:Hid (X.mN c A=X.kU c A):=by unfold Hid Cx.mN;rw[az H,az P,aE Y]
  clear h d y S F L H P;unfold qi at i|-;unfold rR at i D;rw[Y]at i D|-;generalize qb c.gH=q at*;go_enter func289,ntmps289;go_wp2_with(go_at_call 311;refine ix i λw3 T=>?_);go_end0;exact⟨rfl,by rw[M.o];exact CS.F D T⟩
 have M:X.mN c A=X:=by unfold Cx.mN;rw[az H,az P,az Y,Cx.vA X h.r.pd.gH W]
 have HF:=fu (CS.E ⟨V,h⟩ F);have b1:(A.wh==1)=false:=iG H;have b2:(A.wh==2)=false:=iG P;have b4:(A.wh==4)=false:=iG Y;rw[M];clear h d y S F L D;unfold qi;unfold rR at HF;generalize qb c.gH=q at*;go_enter func289,ntmps289;go_wp2;go_end0;exact⟨rfl,HF⟩
def Nf:Value->Int
 | .agg a=>Go.RowKit.intOf ((a[0]?).getD undef)
 |_=>0
def wD(k:Int)(l:List MapEntry):Nat:=(l.filter λx=>Nf x.val==k).length
def Br(k)(e)(l):wD k (e::l)=wD k l+if Nf e.val==k then 1 else 0:=by unfold wD;rw[cT];split<;>simp
def J7{l1 l2:List MapEntry}(h:l1.Perm l2):wD k l1=wD k l2:=(h.filter _).length_eq
def Qg(k)(l):wD k l<=l.length:=bF _ _
theorem E2(k):∀(l:List Ae) (zz:List (Int×An)),l.length=zz.length->(∀(i:Nat) e z,l[i]?=some e->zz[i]?=some z->Nf e.v=z.2.wh)->wD k (l.map Ae.B)=(zz.filter λz=>z.2.wh==k).length
 |[],[],_,_=>rfl
 |[],_::_,h,_=>lY h
 |_::_,[],h,_=>lY h
 |e::l,z::zz,h,d=>by have j:=d 0 e z rfl rfl;rw[bj,Br,E2 k l zz (iG h) λi y A D F=>d (i+1) y A (iG D) (iG F),cT];show _+(if Nf e.v==k then 1 else 0)=_;rw[j];split<;>simp
def Mm.Fj{clk:Nat}(h:Mm w gm clk l zz (nA.ev w aY t))(k):wD k (gR l).toList=(zz.filter λz=>z.2.wh==k).length:=by
 have:(gR l).toList=l.map Ae.B:=by simp[gR]
 rw[this];refine E2 k l zz h.len λi e z d j=>?_;obtain⟨_,s,y,_⟩:=h.f i e z d j;rw[y];rfl
def Mm.agg{clk:Nat}(h:Mm w gm clk l zz (nA.ev w aY t)):∀x∈(gR l).toList,∃(d j y A D F:Int) (H:Option Addr) (L M:Nat),x.val=.agg #[I d,I j,I y,I A,I D,I F,dk H L M]:=λx P=>by obtain⟨e,Q,rfl⟩:=kZ P;obtain⟨i,S,rfl⟩:=aV.1 Q;have Y:=h.len;obtain⟨_,s,T,W⟩:=h.f i l[i] zz[i] (ah S) (ah C);obtain⟨a,c,rfl⟩:=W.E;exact⟨_,_,_,_,_,_,_,_,_,T⟩
def Mm.born{α:Type}{clk:Nat}{zz:List (Int×α)}{R:α->Value->Prop}(h:Mm w gm clk l zz R):(∀x∈(gR l).toList,x.born<clk)/\((gR l).toList.map (·.born)).Nodup:=by
 have d:(gR l).toList=l.map Ae.B:=by simp[gR]
 refine⟨λx i=>?_,?_⟩
 .obtain⟨e,j,rfl⟩:=kZ i;exact h.bo e j
 rw[d,br];exact h.nd
theorem DP(x0)(x1 x2 x3 x4 x5)(va)(vn vc)(w):ib 291 #[.agg #[I x0,I x1,I x2,I x3,I x4,I x5,dk va vn vc]] w λd w'=>d=gG (.bool (x0==1))/\Bl w w':=by go_enter func291,ntmps291;go_wp2;go_ret;exact⟨aq,jo.alloc _⟩
theorem Ew(x0)(x1 x2 x3 x4 x5)(va)(vn vc)(w):ib 307 #[.agg #[I x0,I x1,I x2,I x3,I x4,I x5,dk va vn vc]] w λd w'=>d=gG (.bool (x0==2))/\Bl w w':=by go_enter func307,ntmps307;go_wp2;go_ret;exact⟨aq,jo.alloc _⟩
theorem zq(k:Int)(F:Nat)(hF:F=291\/F=307)(hS:∀(D x1 x2 x3 x4 x5:Int) (va:Option Addr) (vn vc:Nat) (w:World),ib F #[.agg #[I D,I x1,I x2,I x3,I x4,I x5,dk va vn vc]] w λen w'=>en=gG (.bool (D==k))/\Bl w w'){o clk:Nat}(h:Mm w gm clk l zz (nA.ev w aY t))(MA:w.cell? (U g (o+11))=some (.map (some gm)))(a3:zz.length<=100):ib 290 #[.pointer (some (U g o)),.func (.func F) #[] #[]] w λen w'=>en=gG (I ((zz.filter λz=>z.2.wh==k).length:Nat))/\Bl w w':=by
 obtain⟨HF,HC,HE⟩:=gV hS (h.Fj k) h.agg;obtain⟨bo,nd⟩:=h.born;obtain⟨HM,a0,a1⟩:=gV h.mp bo nd;have Q:(gR l).size<=100:=by have:=h.len;simp[gR];omega
 generalize gR l=es at*;have HS:=fu Q;clear h bo nd Q hS;go_enter func290,ntmps290;go_wp2_with(at_range;refine jS _ rfl _ 101 rfl 3 215 underlying101 gm es clk rfl HM a0 a1 ?_;intro hI;have HI:=fu hI;clear hI);go_frame;go_loopw[5](λv wr=>∃d:List MapEntry,v=I (wD k d:Nat)/\Hid (Bl w wr)/\Hid (It wr w.heap.size gm es clk d)) λ_ wr=>es.size-(wr.iterSeen w.heap.size).size
 case atStart=>exact⟨[],rfl,jo.alloc _,HI⟩
 obtain⟨d,rfl,HB,Z⟩:=hrel;have a4:wD k d<=100:=by have:=Qg k d;have:=Z.len;have:=HS.o;omega
 go_wp2_with(at_next;refine kl _ rfl _ rfl w.heap.size gm clk es d rfl Z ?_ ?_)
 .intro h0;have hL:=(J7 (k:=k) h0).H HC;rw[hL];go_wp2;go_ret;exact⟨rfl,HB⟩
 intro e W he S hO a2;obtain⟨D,x1,x2,x3,x4,x5,va,vn,vc,hx⟩:=HE e (iG he);have L:=Br k e d;rw[show Nf e.val=D by rw[hx];rfl]at L;rw[hx]at a2|-;have HW:Hid (Bl w W):=HB.B hO λb hb=>C;obtain⟨T,Y⟩:=fl S L;generalize wD k d=n at*;clear S hO he L hx;by_cases hp:D=k
 .have M:Hid (wD k (e::d)=n+1):=by unfold Hid;rw[Y.o,hp];simp
  have A:(D==k)=true:=iG hp;clear hp;obtain rfl|rfl:=hF;all_goals
   go_wp2_with((first|go_at_call 291|go_at_call 307);refine gF (HF _ _ _ _ _ _ _ _ _ _) λw2 j=>?_;rw[A];have y:=fu j;clear j);obtain⟨i,P⟩:=fl ((T.bl ((Bl.refl W).alloc _)).bl y) ((HW.alloc _).H y);go_wp2;go_roundw
   case rel=>exact⟨e::d,by rw[M.o];go_num,P,i⟩
   have e1:w2.iterSeen w.heap.size=((e::d).map (·.born)).reverse.toArray:=by unfold World.iterSeen;rw[i.it]
   have e2:wr.iterSeen w.heap.size=(d.map (·.born)).reverse.toArray:=by unfold World.iterSeen;rw[Z.it]
   have:=i.len;rw[e1,e2];simp at this|-;omega
 have A:(D==k)=false:=by simpa using hp
 have M:Hid (wD k (e::d)=n):=by unfold Hid;rw[Y.o,A];simp
 obtain rfl|rfl:=hF;all_goals
  go_wp2_with((first|go_at_call 291|go_at_call 307);refine gF (HF _ _ _ _ _ _ _ _ _ _) λw2 j=>?_;rw[A];have y:=fu j;clear j);obtain⟨i,P⟩:=fl ((T.bl ((Bl.refl W).alloc _)).bl y) ((HW.alloc _).H y);go_roundw
  case rel=>exact⟨e::d,qz M.o,P,i⟩
  have e1:w2.iterSeen w.heap.size=((e::d).map (·.born)).reverse.toArray:=by unfold World.iterSeen;rw[i.it]
  have e2:wr.iterSeen w.heap.size=(d.map (·.born)).reverse.toArray:=by unfold World.iterSeen;rw[Z.it]
  have:=i.len;rw[e1,e2];simp at this|-;omega
def GW{o clk:Nat}(h:Mm w gm clk l zz (nA.ev w aY t))(i:w.cell? (U g (o+11))=some (.map (some gm)))(d:zz.length<=100):ib 290 #[.pointer (some (U g o)),.func (.func 291) #[] #[]] w λj w'=>j=gG (I ((zz.filter λz=>z.2.wh==1).length:Nat))/\Bl w w':=zq 1 291 (.inl rfl) DP h i d
def FL{o clk:Nat}(h:Mm w gm clk l zz (nA.ev w aY t))(i:w.cell? (U g (o+11))=some (.map (some gm)))(d:zz.length<=100):ib 290 #[.pointer (some (U g o)),.func (.func 307) #[] #[]] w λj w'=>j=gG (I ((zz.filter λz=>z.2.wh==2).length:Nat))/\Bl w w':=zq 2 307 (.inr rfl) Ew h i d
def Om(w)(gm n)(l)(d:w.heap[gm]?=some (.map (gR l) n)):(Builtin.len_ #[101] 3 #[.map (some gm)]).run prog w=.ok (I l.length) w:=by
 have:(gR l).size=l.length:=by simp[gR]
 simp[Builtin.len_,aI d,this];rfl
def MG(W)(x0 x1 x2 x3 x4 x5)(va)(vn vc):(Instr.field 215 (.agg #[I x0,I x1,I x2,I x3,I x4,I x5,dk va vn vc]) 3).run prog W=.ok (.agg #[I x3,I x4,I x5,dk va vn vc]) W:=rfl
def Kn(l)(k)(h:∃e∈l,e.k=k):∃(j:Nat) (e:Ae),l[j]?=some e/\e.k=k/\∀(w:World) (gm n:Nat),w.heap[gm]?=some (.map (gR l) n)->(Instr.lookup 101 (.map (some gm)) (.int .i64 k) false).run prog w=.ok e.v w:=by
 have A:(gR l).toList=l.map Ae.B:=by simp[gR]
 obtain⟨_,i⟩|⟨j,x,D,i,F⟩:=ZR (d:= .int .i64) (k:= .int .i64 k) rfl (gR l).toList 0 (qx _)
 .obtain⟨e,y,H⟩:=h;exact absurd (by rw[<-H];rfl) (i e.B (by rw[A];exact aD.2 ⟨e,y,rfl⟩))
 rw[A,aK]at i;obtain⟨e,y,rfl⟩:=bN.1 i;refine⟨j,e,y,by simpa [Ae.B]using F,λw gm n L=>?_⟩;have M:=fa (P:=prog) (w:=w) underlying3 D;have Q:=eW (P:=prog) (w:=w) (k:= .int .i64 k) underlying3 sj (gR l).isEmpty 9999;simp[Instr.lookup,Sem.run_bind,Z4 underlying101,Result.andThen,aI L,Q,M];rfl
theorem PV(d:(zz.map (·.1)).Nodup){j:Nat}{z:Int×An}(i:zz[j]?=some z)(k)(D:z.1=k):zz.find? (λz=>z.1==k)=some z:=by
 induction zz generalizing j with
 |nil=>simp at i
 |cons y ys F=>
  rw[List.find?_cons]
  cases j with
  |zero=>simp_all
  |succ j=>
   have A:(y.1==k)=false:=by simp only[bj,bY]at d;have:=d.1;simp;intro e;exact this (by rw[e,<-D];exact aD.2 ⟨z,aR (iG i),rfl⟩)
   rw[A];exact F (by simp at d;exact d.2) (iG i)
structure TZ(c:jf):Prop where
 ne:0<c.q.nodes.length
 le:c.q.nodes.length<=100
 la:c.q.B.length<=100
 hd:c.q.B.length<c.q.nodes.length\/∃z∈c.q.B,z.1=c.q.nodes.headD 0
theorem FF(h:iN w aY t p qb X V)(i:100<=t)(F:mD X)(H:c∈X.dd)(A)(L:A.wh=4)(va)(vc):ib 288 #[O p,O (qb c.gH),qi A va vc] w λP w'=>P=gS/\CS w aY t p qb (X.lj c A) w':=by
 have j:=(Bl.refl w).alloc (rR A va vc);have d:=h.bl j (bp:=aY) gK;obtain⟨cv,M⟩:=d.r.a c H;have T:=M.lt;obtain⟨y,D⟩:=fl j (Ft d i F H A.mark 4 0);have Q:Hid (X.lj c A=X.oO c A.mark ⟨4,0,[]⟩):=by unfold Hid Cx.lj;rw[aE L]
 clear h d j M F;unfold qi;unfold rR at D y;rw[L]at D y|-;generalize qb c.gH=q at*;go_enter func288,ntmps288;go_wp2_with(go_at_call 151;refine ix D λW S=>?_);go_end0;exact⟨rfl,by rw[Q.o];exact CS.F y S⟩
theorem Lw(h:iN w aY t p qb X V)(hc:c∈X.dd)(A)(h1:A.wh≠4)(hL:TZ c)(va)(vc):ib 288 #[O p,O (qb c.gH),qi A va vc] w λen w'=>en=gS/\CS w aY t p qb (X.lj c A) w':=by
 obtain⟨W,hW⟩:=dS (w.alloc (rR A va vc));have bW:=(Bl.refl w).alloc (rR A va vc);have S:=ao w (rR A va vc);rw[hW]at bW S;have a2:=h.bl bW (bp:=aY) gK;obtain⟨cv,hk⟩:=a2.r.a c hc;have bg:(A.wh==4)=false:=iG h1;have r0:W.cell? (U w.heap.size 0)=some (I A.wh):=ax W w.heap.size 0 _ 215 (0,0) S;have lr:=(ae.1 S).1;obtain⟨gm,clk,l,a9,bi,T⟩:∃gm clk l,cv.q.av=.map (some gm)/\aY gm=t+9+2*c.im/\Mm W gm clk l c.q.B (nA.ev W aY (t+3)):=by
  obtain⟨e,_⟩|⟨gm,clk,l,e⟩:=hk.q.B
  .have:=hk.q.nil e;have:=hL.ne;simp_all
  exact⟨gm,clk,l,e⟩
 have av:=T.len;have hm:=T.mp;obtain⟨bn,on,cn,a3,aa,_,_,M⟩:=hk.q.nodes.cell (by simpa using hL.ne);rw[ay]at a3;obtain⟨Y,a0⟩:=hk.M 26 28 rfl;rw[a3]at Y;rw[a9]at a0;have lq:=hk.lt;have ab:=Om W gm clk l hm;have a4:=Om W.drew gm clk l hm;obtain⟨HW,BW,Hm⟩:=gV hW bW hm;obtain⟨a5,F⟩:=fl a2 T;have ac:=(ae.1 hm).1;have aw:=hL.la;have bl:=hL.le;have b0:=fu (Cx.vA X h.r.pd.gH hc);clear h hk hW bW S a2 hm T a3 a9;generalize hq:qb c.gH=q at*;have Hq:=fu hq;clear hq;go_enter func288,ntmps288;go_upto_region 5 with fail;rw[HW.o];go_cut[24] λy wx=>y=.bool (decide ((l.length:Int)<(c.q.nodes.length:Int)))/\Hid (Bl W wx)
 case first=>
  go_region;all_goals(go_wp2_with fail;go_meet)
  all_goals exact⟨mY av,iZ⟩
 case rest=>
  obtain⟨rfl,HB⟩:=hcut;obtain⟨W5,rfl⟩:∃W5,W5=wc:=⟨_,rfl⟩;by_cases iV:l.length<c.q.nodes.length
  .have hd:decide ((l.length:Int)<(c.q.nodes.length:Int))=true:=gM;rw[hd];have hX:Hid (X.lj c A=X):=by unfold Hid Cx.lj;rw[az h1,aE C,b0.o]
   go_wp2;(try simp only[Exit.inBlock,Exit.then])
   refine aG (v:= .tuple #[]) (by simp[results,results288,go_sem]) rfl ⟨rfl,?_⟩;rw[hX.o];exact CS.F BW (CS.E ⟨V,a5⟩ HB)
  have hd:decide ((l.length:Int)<(c.q.nodes.length:Int))=false:=gM;rw[hd];obtain⟨ag,ai⟩:=HB.E lq Y a0;have ak:=af lq HB.lt;have b1:Hid (∀Q,Bl W Q->Mm Q gm clk l c.q.B (nA.ev Q aY (t+3))):=λQ d=>⟨(d.heap ac).H F.mp,F.len,λi e z he hz=>by
   obtain⟨k1,k2⟩:=F.f i e z he hz
   exact⟨k1,nA.only k2 (iD d) (λ_ _ e=>e.elim) λ_ _ e=>e⟩,F.bo,F.nd,F.ky⟩
  have a6:=fu λQ (d:Bl W5 Q)=>FL (w:=Q) (aY:=aY) (t:=t+3) (g:=q) (o:=17) (b1 Q (HB.H d)) ((d.cell ak).H ai) aw;have b2:Hid ((c.q.B.filter λz=>z.2.wh==2).length=c.q.count λa=>a.wh==2):=rfl;rw[b2.o]at a6;go_upto_region 6 with fail;go_cut[36] λy wx=>y=.bool ((c.q.count (λa=>a.wh==2):Int)==(c.q.nodes.length:Int))/\Hid (Bl W5 wx)
  case first=>
   go_region_held3(λW=>W.cell? (U q 26)=some (dk (some (U bn on)) c.q.nodes.length cn)) (go_keep) (first|(go_at_call 290;refine(a6 _ ?hb).L ?_;(case hb=>exact iZ);rintro en w2⟨rfl,d⟩;have hB:Bl W5 w2:=Bl.H iZ d;have z4:=(hB.cell ak).H ag;have a7:=fu hB;clear d hB));all_goals(go_wp2_with fail;go_meet)
   all_goals exact⟨rfl,a7⟩
  case rest=>
   obtain⟨rfl,a7⟩:=hcut;have D:=fu (HB.H a7);by_cases al:c.q.count (λa=>a.wh==2)=c.q.nodes.length
   .have a8:((c.q.count (λa=>a.wh==2):Int)==(c.q.nodes.length:Int))=true:=gM;rw[a8];have a1:∃e∈l,e.k=c.q.nodes.headD 0:=by obtain⟨z,b3,b4⟩:=hL.hd.resolve_left C;obtain⟨i,hi,rfl⟩:=aV.1 b3;have am:i<l.length:=C;exact⟨l[i],aL am,by rw[(F.f i l[i] _ (ah am) (ah hi)).1];exact b4⟩
    obtain⟨j,e,e1,e2,e4⟩:=Kn l _ a1;have hj:=(aj.1 e1).1;have an:j<c.q.B.length:=C;obtain⟨f1,s,f2,f3⟩:=F.f j e c.q.B[j] e1 (ah an);have ap:=PV F.ky (ah an) (c.q.nodes.headD 0) (by rw[<-e2,f1]);have hX:Hid (X.lj c A=X.fin c (Cx.oz c.q.B[j].2.ct)):=by unfold Hid Cx.lj;rw[az h1,az C,aE al,ap];rfl
    obtain⟨sa,sc,rfl⟩:=f3.E;rw[ay]at f2 f3;generalize c.q.B[j].2=Z at*;rw[f2]at e4;have P:=(D.heap ac).H Hm;have ba:=e4 wc gm clk P;have b5:=λk=>e4 (wc.drewN k) gm clk P;have b6:=e4 wc.drew gm clk P;have c0:wc.cell? (U bn on)=some (I (c.q.nodes.headD 0)):=by
     have:=M 0 (I (c.q.nodes.headD 0)) (by
      cases b7:c.q.nodes with
      |nil=>have:=hL.ne;rw[b7]at this;simp at this
      |cons y ys=>rfl)
     exact(D.cell aa).H this
    obtain⟨bb,bc⟩:=D.E lq Y a0;have bd:=af lq D.lt;have bm:=af aa D.lt;have bo:(0:Int)<(c.q.nodes.length:Int):=by have:=hL.ne;omega
    have be:=λW=>MG W Z.wh Z.ep Z.mark Z.ct.kd Z.ct.cl Z.ct.ca sa Z.ct.val.length sc;obtain⟨HT,b8⟩:=fl (Dc Z.ct.kd Z.ct.cl Z.ct.ca sa Z.ct.val.length sc) f3;have HN:Hid (∀Q,Bl wc Q->_):=λQ d=>wq (a5.bl (D.H d) (bp:=aY) gK) hc (Cx.oz Z.ct) sa sc (b8.bl (D.H d) λ_ _ e=>e);simp only[show(Cx.oz Z.ct).wh=Z.ct.kd from rfl,show(Cx.oz Z.ct).ad=0 from rfl,show(Cx.oz Z.ct).val=Z.ct.val from rfl]at HN;rw[Hq.o]at HN;clear e4 ap e1 e2 a1 f1 f2 f3 P a6 ag ai Y a0 M ab a4;generalize c.q.nodes.headD 0=k0 at*;go_upto_region 7 with fail;go_region_with(first|(go_at_call 308;refine gF (HT _) λw2 d=>?_;have hB:Bl wc w2:=Bl.H iZ d;have ar:=fu hB;clear d hB)|(go_at_call 96;refine(HN _ (ar.H ?hb)).L ?_;(case hb=>exact iZ);rintro en w3⟨rfl,hs⟩;obtain⟨HS,b9⟩:=fl hs (ar.H iZ);clear hs));all_goals
     go_wp2;go_end0;exact⟨rfl,by rw[hX.o];exact CS.F (BW.H (D.H b9)) HS⟩
   have a8:((c.q.count (λa=>a.wh==2):Int)==(c.q.nodes.length:Int))=false:=gM;rw[a8];have hX:Hid (X.lj c A=X.fin c ⟨3,0,[]⟩):=by unfold Hid Cx.lj;rw[az h1,az C,az al]
   have HN:=fu (wq (a5.bl D (bp:=aY) gK) hc ⟨3,0,[]⟩ none 0 Rd.nil);simp only[dA]at HN;rw[Hq.o]at HN;go_wp2_with(go_at_call 96;refine ix HN λw3 HS=>?_);go_end0;exact⟨rfl,by rw[hX.o];exact CS.F (BW.H D) HS⟩
structure OY(X:Cx)(c:jf):Prop where
 lk:TZ c
 wr:c.q.a.kd=2->X.F c.iS/\c.iA<1000
theorem PC(h:iN w aY t p qb X V)(a1:100<=t)(hx:mD X)(hc:c∈X.dd)(A)(hG:OY X c)(va)(vc)(ht:Rd w aY (t+3) 5 (dk va A.ct.val.length vc) (A.ct.val.map B8)):ib 273 #[O p,O (qb c.gH),qi A va vc] w λen w'=>en=gS/\CS w aY t p qb (X.ld c A) w':=by
 have T:=(Bl.refl w).alloc (rR A va vc);have d:=h.bl T (bp:=aY) gK;have P:=ht.bl T (bp:=aY) λ_ _ e=>e;have BW:=fu T;obtain⟨cv,M⟩:=d.r.a c hc;have F:=M.cellAt 17 rfl;have lq:=M.lt;have a2:=Cx.vA X h.r.pd.gH hc;by_cases h3:c.q.a.kd=3
 .have S:Hid (ib 288 #[O p,O (qb c.gH),qi A va vc] (w.alloc (rR A va vc)) λen w'=>en=gS/\CS (w.alloc (rR A va vc)) aY t p qb (X.lj c A) w'):=by
   by_cases h1:A.wh=4
   .exact FF d a1 hx hc A h1 va vc
   exact Lw d hc A h1 hG.lk va vc
  have Y:Hid (X.ld c A=X.lj c A):=by unfold Hid Cx.ld;rw[aE h3]
  rw[h3]at F;clear h d P ht T M hx hG;unfold qi at S|-;unfold rR at S BW F lq;generalize qb c.gH=q at*;go_enter func273,ntmps273;go_wp2_with(go_at_call 288;refine ix S λw3 HS=>?_);go_end0;exact⟨rfl,by rw[Y.o];exact CS.F BW HS⟩
 by_cases h2:c.q.a.kd=2
 .have S:=fu (Ob d a1 hx hc (hG.wr h2).1 (hG.wr h2).2 A va vc P);have Y:Hid (X.ld c A=X.mN c A):=by unfold Hid Cx.ld;rw[az h3,aE h2]
  rw[h2]at F;clear h d P ht T M hx hG h3;unfold qi at S|-;unfold rR at S BW F lq;generalize qb c.gH=q at*;go_enter func273,ntmps273;go_wp2_with(go_at_call 289;refine ix S λw3 HS=>?_);go_end0;exact⟨rfl,by rw[Y.o];exact CS.F BW HS⟩
 by_cases h4:c.q.a.kd=4
 .obtain⟨W,hW⟩:=dS (w.alloc (rR A va vc));rw[hW]at T d P BW M F lq;have hL:=hG.lk;obtain⟨gm,clk,l,aa,am,j⟩:∃gm clk l,cv.q.av=.map (some gm)/\aY gm=t+9+2*c.im/\Mm W gm clk l c.q.B (nA.ev W aY (t+3)):=by
   obtain⟨e,_⟩|⟨gm,clk,l,e⟩:=M.q.B
   .have:=M.q.nil e;have:=hL.ne;simp_all
   exact⟨gm,clk,l,e⟩
  have ai:=(ae.1 j.mp).1;obtain⟨bn,on,cn,a3,an,_,_,Z⟩:=M.q.nodes.cell (by simpa using hL.ne);rw[ay]at a3;obtain⟨ea,ec,a0⟩:=M.e.E;rw[ay]at a0;obtain⟨a4,a5,ab⟩:=M.Iq 26 28 14 rfl;obtain⟨ac,a6⟩:=M.M 15 16 rfl;rw[a3]at a4;rw[aa]at a5;rw[a0]at a6;have a7:=M.e;rw[a0]at a7;obtain⟨ak,HW,ad⟩:=gV a7 hW d;have a8:=fu (λW2 (Q:Bl W W2)=>GW (w:=W2) (aY:=aY) (t:=t+3) (g:=qb c.gH) (o:=17) (gm:=gm) (clk:=clk) (l:=l) (zz:=c.q.B) ⟨(Q.heap ai).H j.mp,j.len,λi e z he hz=>by
   obtain⟨k1,k2⟩:=j.f i e z he hz
   exact⟨k1,nA.only k2 (iD Q) (λ_ _ e=>e.elim) λ_ _ e=>e⟩,j.bo,j.nd,j.ky⟩ ((Q.cell lq).H a5) hL.la)
  have al:Hid ((c.q.B.filter λz=>z.2.wh==1).length=c.q.count λa=>a.wh==1):=rfl;rw[al.o]at a8;rw[h4]at F;clear h d P ht T M j hW Z a7 a3 aa a0 hx;unfold qi;unfold rR at HW;generalize hq:qb c.gH=q at*;have Hq:=fu hq;clear hq;go_enter func273,ntmps273;go_upto_region 1 with fail;rw[HW.o];clear HW;go_upto_region 7 with fail;go_cut[36] λy wx=>y=.bool ((c.q.count (λa=>a.wh==1):Int)==(c.q.nodes.length:Int))/\Hid (Bl W wx)
  case first=>
   go_region_held3(λW=>W.cell? (U q 26)=some (dk (some (U bn on)) c.q.nodes.length cn)) (go_keep) (first|(go_at_call 290;refine(a8 _ ?hb).L ?_;(case hb=>exact iZ);rintro en w2⟨rfl,Q⟩;have hB:Bl W w2:=Bl.H iZ Q;have z4:=(hB.cell lq).H a4;have D:=fu hB;clear Q hB));all_goals(go_wp2_with fail;go_meet)
   all_goals exact⟨rfl,D⟩
  case rest=>
   obtain⟨rfl,D⟩:=hcut;obtain⟨ap,ar,av⟩:=D.F lq ab ac a6;have aw:=af lq D.lt;clear ab ac a6 a4 a5 a8;by_cases ag:c.q.count (λa=>a.wh==1)=c.q.nodes.length
   .have a9:((c.q.count (λa=>a.wh==1):Int)==(c.q.nodes.length:Int))=true:=gM;rw[a9];have Y:Hid (X.ld c A=X.fin c c.e):=by unfold Hid Cx.ld;rw[az h3,az h2,aE h4,aE ag]
    have S:=fu (wq (ad.bl D (bp:=aY) gK) hc c.e ea ec (ak.bl D λ_ _ e=>e));rw[Hq.o]at S;go_wp2_with(go_at_call 96;refine ix S λw3 HS=>?_);go_end0;exact⟨rfl,by rw[Y.o];exact CS.F (BW.H D) HS⟩
   have a9:((c.q.count (λa=>a.wh==1):Int)==(c.q.nodes.length:Int))=false:=gM;rw[a9];have Y:Hid (X.ld c A=X):=by unfold Hid Cx.ld;rw[az h3,az h2,aE h4,az ag,a2]
   go_wp2;go_end0;refine⟨rfl,?_⟩;rw[Y.o];exact CS.F BW (CS.E ⟨V,ad⟩ D)
 have Y:X.ld c A=X:=by unfold Cx.ld;rw[az h3,az h2,az h4,a2]
 have HF:=fu (CS.E ⟨V,h⟩ T);have b3:(c.q.a.kd==3)=false:=iG h3;have b2:(c.q.a.kd==2)=false:=iG h2;have b4:(c.q.a.kd==4)=false:=iG h4;rw[Y];clear h d P ht T hx BW M hG a2;unfold qi;unfold rR at HF F lq;generalize qb c.gH=q at*;go_enter func273,ntmps273;go_wp2;go_end0;exact⟨rfl,HF⟩
theorem Nb(w)(b o c)(ns:List Int)(x)(hl:ns.length<=1000)(hc:∀j d,ns[j]?=some d->w.cell? (U b (o+j))=some (I d)):ib 193 #[dk (some (U b o)) ns.length c,I x] w λen w'=>∃r:Int,en=gG (I r)/\(0<=r↔x∈ns)/\w'=w:=by
 have Hc:=fu hc;clear hc;go_enter func193,ntmps193;go_wp2;go_loopw[8](λi wr=>∃j:Nat,j<=ns.length/\i=I j/\wr=w/\Hid (∀t d,t<j->ns[t]?=some d->d≠x)) λi _=>ns.length-(Go.RowKit.intOf i).toNat
 case atStart=>exact⟨0,jd,rfl,rfl,λt d h=>absurd h C⟩
 obtain⟨j,hj,rfl,rfl,HJ⟩:=hrel;by_cases iV:j<ns.length
 .have q0:=Hc j ns[j] (ah iV);have Hm:Hid (ns[j]∈ns):=aL iV;have Hg:=fu (ah iV);have hltI:(j:Int)<(ns.length:Int):=C;generalize ns[j]=y at*;by_cases he:x=y
  .subst he;go_wp2;go_ret;exact⟨_,rfl,⟨λ_=>Hm.o,λ_=>C⟩,rfl⟩
  go_wp2;refine⟨⟨j+1,C,aq,trivial,λt d ht hd=>?_⟩,gW⟩;by_cases e:t=j
  .subst e;rw[Hg.o]at hd;simp at hd;exact λh=>he (h.symm.H hd.symm)
  exact HJ t d C hd
 have hge:¬((j:Int)<(ns.length:Int)):=C;go_wp2;go_ret;refine⟨_,rfl,⟨λh=>absurd h au,λh=>?_⟩,rfl⟩;obtain⟨i,hi,e⟩:=aV.1 h;exact absurd e (HJ i _ C (ah hi))
theorem AA(w)(b o c)(ns:List Int)(x)(y:ns.length<=1000)(A:∀j d,ns[j]?=some d->w.cell? (U b (o+j))=some (I d)):ib 153 #[dk (some (U b o)) ns.length c,I x] w λi w'=>i=gG (.bool (decide (x∈ns)))/\w'=w:=by
 go_enter func153,ntmps153;go_wp2_with(refine (fu (Nb w b o c ns x y A)).o.L ?_;rintro i w'⟨r,rfl,D,rfl⟩);go_ret;simp_all
def Oh(w)(a)(c)(x):Calls prog 193 #[dk a 0 c,I x] w λd w'=>d=gG (I (-1))/\w'=w:=by go_wp2;refine Z6 1 ?_;rw[ZZ];go_wp2;go_ret;simp_all
theorem Bw(w)(a)(c)(x):ib 153 #[dk a 0 c,I x] w λd w'=>d=gG (.bool false)/\w'=w:=by go_enter func153,ntmps153;go_wp2_with(refine (fu (Oh w a c x)).o.L ?_;rintro d w'⟨rfl,rfl⟩);go_ret;simp_all
def wo{A:Nat}{y:Value}(h:Rd w aY A 3 y (ns.map I))(D:ns.length<=1000)(x):ib 153 #[y,I x] w λF w'=>F=gG (.bool (decide (x∈ns)))/\w'=w:=by
 by_cases H:0<ns.length
 .obtain⟨b,o,c,rfl,M,_,_,i⟩:=h.cell (iG H);rw[ay];exact AA w b o c ns x D λj d L=>i j _ (mY L)
 have e:ns=[]:=aW.1 C;subst e;obtain⟨a,c,rfl⟩:=h.E;simpa using Bw w a c x
def oR(l)(k)(h:∀e∈l,e.k≠k):Instr.findNow (.int .i64) (.int .i64 k) (gR l).toList 0=some none:=by
 have y:(gR l).toList=l.map Ae.B:=by simp[gR]
 obtain⟨A,_⟩|⟨j,x,A,i,D⟩:=ZR (d:= .int .i64) (k:= .int .i64 k) rfl (gR l).toList 0 (qx _)
 .omega
 rw[y,aK]at i;obtain⟨e,F,rfl⟩:=bN.1 i;exact absurd (by simpa [Ae.B]using D) (h e (aR F))
def rE(l)(k)(h:∃e∈l,e.k=k):∃(j:Nat) (e:Ae),l[j]?=some e/\e.k=k/\Instr.findNow (.int .i64) (.int .i64 k) (gR l).toList 0=some (some (j,e.v)):=by
 have A:(gR l).toList=l.map Ae.B:=by simp[gR]
 obtain⟨_,i⟩|⟨j,x,D,i,F⟩:=ZR (d:= .int .i64) (k:= .int .i64 k) rfl (gR l).toList 0 (qx _)
 .obtain⟨e,y,H⟩:=h;exact absurd (by rw[<-H];rfl) (i e.B (by rw[A];exact aD.2 ⟨e,y,rfl⟩))
 rw[A,aK]at i;obtain⟨e,y,rfl⟩:=bN.1 i;exact⟨j,e,y,by simpa [Ae.B]using F,by simpa [Ae.B]using D⟩
structure S0{α:Type}[nA α](w:World)(aY:Nat->Nat)(ga t g o:Nat)(q:Qn α)(V:QV):Prop where
 r:QR w aY ga t q V
 c2:w.cell? (U g (o+2))=some (I q.a.nr)
 c9:w.cell? (U g (o+9))=some V.nv
 MA:w.cell? (U g (o+11))=some V.av
 lg:g<w.heap.size
 l:q.nodes.length<=100
def Pp(w):(zeroValue 215).run prog w=.ok (.agg #[I 0,I 0,I 0,I 0,I 0,I 0,OO]) w:=rfl
def yN(w)(gm n)(l)(d:w.heap[gm]?=some (.map (gR l) n))(k)(h:∀e∈l,e.k≠k):(Instr.lookup 101 (.map (some gm)) (.int .i64 k) true).run prog w=.ok (.tuple #[.agg #[.int .i64 0,.int .i64 0,.int .i64 0,.int .i64 0,.int .i64 0,.int .i64 0,dk none 0 0],.bool false]) w:=by
 have i:=fa (w:=w) underlying3 (oR l k h);have j:=eW (P:=prog) (w:=w) (k:= .int .i64 k) underlying3 sj (gR l).isEmpty 9999;have y:=Pp w;simp[Instr.lookup,Sem.run_bind,Result.andThen,aI d,j,i,y]
def xD(w)(gm n)(l)(d:w.heap[gm]?=some (.map (gR l) n))(k)(h:∃e∈l,e.k=k):∃(j:Nat) (e:Ae),l[j]?=some e/\e.k=k/\(Instr.lookup 101 (.map (some gm)) (.int .i64 k) true).run prog w=.ok (.tuple #[e.v,.bool true]) w:=by
 obtain⟨j,z,i,y,A⟩:=rE l k h;have D:=fa (w:=w) underlying3 A;have F:=eW (P:=prog) (w:=w) (k:= .int .i64 k) underlying3 sj (gR l).isEmpty 9999;exact⟨j,z,i,y,by simp[Instr.lookup,aI d,F,D]⟩
def xF(w)(k):(Instr.lookup 101 (.map none) (.int .i64 k) true).run prog w=.ok (.tuple #[.agg #[.int .i64 0,.int .i64 0,.int .i64 0,.int .i64 0,.int .i64 0,.int .i64 0,dk none 0 0],.bool false]) w:=rfl
theorem nC{o:Nat}{q:Qn An}{V:QV}(h:S0 w aY ga t g o q V)(k x):ib 269 #[.pointer (some (U g o)),I k,I x] w λen w'=>en=gG (.bool (q.E k x))/\Bl w w':=by
 obtain⟨y,c2,c9,MA,lg,hl⟩:=h;obtain⟨Q,S,T,W,Y,Z,va,vn,vc,L,A,a0⟩:∃(Q S T W Y Z:Int) (va:Option Addr) (vn vc:Nat) (L:Bool),L=q.M x/\(Instr.lookup 101 V.av (I x) true).run prog w=.ok (.tuple #[.agg #[I Q,I S,I T,I W,I Y,I Z,dk va vn vc],.bool L]) w:=by
  obtain⟨e0,e⟩|⟨gm,clk,l,e0,_,D⟩:=y.B
  .exact⟨0,0,0,0,0,0,none,0,0,false,by unfold Qn.M;rw[e];rfl,by rw[e0];exact xF w x⟩
  rw[e0];have a3:=D.len;by_cases hx:∃e∈l,e.k=x
  .obtain⟨j,e,e1,e2,e3⟩:=xD w gm clk l D.mp x hx;have hj:=(aj.1 e1).1;have a1:j<q.B.length:=C;obtain⟨f1,s,f2,f3⟩:=D.f j e q.B[j] e1 (ah a1);obtain⟨a,cc,rfl⟩:=f3.E;refine⟨_,_,_,_,_,_,_,_,_,true,?_,j4 e3 f2⟩
   symm
   unfold Qn.M;rw[cK];exact⟨q.B[j],aL _,by simpa using f1.symm.H e2⟩
  refine⟨0,0,0,0,0,0,none,0,0,false,?_,yN w gm clk l D.mp x λe M e'=>hx ⟨e,M,e'⟩⟩
  symm
  unfold Qn.M;rw[dm];intro z a2 e;obtain⟨i,hi,rfl⟩:=aV.1 a2;have F:i<l.length:=C;exact hx ⟨l[i],aL F,by rw[(D.f i l[i] _ (ah F) (ah hi)).1];simpa using e⟩
 have P:=(Bl.refl w).alloc (gO #[I Q,I S,I T,I W,I Y,I Z,dk va vn vc] 215);have HC:=fu (wo (y.nodes.bl P (bp:=aY) λ_ _ e=>e) C x);obtain⟨d2,d9⟩:=P.E lg c2 c9;have HA:=fu P;obtain⟨na,nc,d⟩:=y.nodes.E;rw[ay]at d;rw[d]at d9 HC;have hR:Hid (q.E k x=(decide (q.a.nr=k)&&decide (x∈q.nodes)&& !L)):=by unfold Hid Qn.E;rw[A,dr];simp
 rw[hR.o];obtain⟨a4,H⟩:∃z,V.av=.map z:=by obtain⟨e,_⟩|⟨gm,clk,l,e,_⟩:=y.B<;>exact⟨_,e⟩
 rw[H]at MA a0;clear y P A hR H d c9;by_cases M:q.a.nr=k
 .subst M;go_enter func269,ntmps269;go_wp2_with(go_at_call 153;refine HC.L ?_;rintro en w'⟨rfl,rfl⟩);all_goals
   go_ret;exact⟨by simp_all,HA⟩
 go_enter func269,ntmps269;go_wp2;all_goals
  go_ret;exact⟨mY M,HA⟩
def PG(w):(zeroValue 222).run prog w=.ok (.agg #[I 0,I 0,I 0,OO]) w:=rfl
def zA(w)(gm n)(l)(d:w.heap[gm]?=some (.map (gR l) n))(k)(h:∀e∈l,e.k≠k):(Instr.lookup 104 (.map (some gm)) (.int .i64 k) true).run prog w=.ok (.tuple #[.agg #[.int .i64 0,.int .i64 0,.int .i64 0,dk none 0 0],.bool false]) w:=by
 have i:=fa (w:=w) underlying3 (oR l k h);have j:=eW (P:=prog) (w:=w) (k:= .int .i64 k) underlying3 sj (gR l).isEmpty 9999;have y:=PG w;simp[Instr.lookup,Sem.run_bind,aI d,j,i,y]
def xA(w)(gm n)(l)(d:w.heap[gm]?=some (.map (gR l) n))(k)(h:∃e∈l,e.k=k):∃(j:Nat) (e:Ae),l[j]?=some e/\e.k=k/\(Instr.lookup 104 (.map (some gm)) (.int .i64 k) true).run prog w=.ok (.tuple #[e.v,.bool true]) w:=by
 obtain⟨j,z,i,y,A⟩:=rE l k h;have D:=fa (w:=w) underlying3 A;have F:=eW (P:=prog) (w:=w) (k:= .int .i64 k) underlying3 sj (gR l).isEmpty 9999;exact⟨j,z,i,y,by simp[Instr.lookup,aI d,F,D]⟩
def wL(w)(k):(Instr.lookup 104 (.map none) (.int .i64 k) true).run prog w=.ok (.tuple #[.agg #[.int .i64 0,.int .i64 0,.int .i64 0,dk none 0 0],.bool false]) w:=rfl
theorem rj{o:Nat}{q:Qn Vo}{V:QV}(h:S0 w aY ga t g o q V)(k x):ib 251 #[.pointer (some (U g o)),I k,I x] w λen w'=>en=gG (.bool (q.E k x))/\Bl w w':=by
 obtain⟨y,c2,c9,MA,lg,hl⟩:=h;obtain⟨Q,S,T,W,Y,Z,L,A,a0⟩:∃(Q S T:Int) (W:Option Addr) (Y Z:Nat) (L:Bool),L=q.M x/\(Instr.lookup 104 V.av (I x) true).run prog w=.ok (.tuple #[.agg #[I Q,I S,I T,dk W Y Z],.bool L]) w:=by
  obtain⟨e0,e⟩|⟨gm,clk,l,e0,_,D⟩:=y.B
  .exact⟨0,0,0,none,0,0,false,by unfold Qn.M;rw[e];rfl,by rw[e0];exact wL w x⟩
  rw[e0];have a3:=D.len;by_cases hx:∃e∈l,e.k=x
  .obtain⟨j,e,e1,e2,e3⟩:=xA w gm clk l D.mp x hx;have hj:=(aj.1 e1).1;have a1:j<q.B.length:=C;obtain⟨f1,s,f2,f3⟩:=D.f j e q.B[j] e1 (ah a1);obtain⟨a,cc,rfl⟩:=f3.E;refine⟨_,_,_,_,_,_,true,?_,j4 e3 f2⟩
   symm
   unfold Qn.M;rw[cK];exact⟨q.B[j],aL _,by simpa using f1.symm.H e2⟩
  refine⟨0,0,0,none,0,0,false,?_,zA w gm clk l D.mp x λe M e'=>hx ⟨e,M,e'⟩⟩
  symm
  unfold Qn.M;rw[dm];intro z a2 e;obtain⟨i,hi,rfl⟩:=aV.1 a2;have F:i<l.length:=C;exact hx ⟨l[i],aL F,by rw[(D.f i l[i] _ (ah F) (ah hi)).1];simpa using e⟩
 have P:=(Bl.refl w).alloc (gO #[I Q,I S,I T,dk W Y Z] 222);have HC:=fu (wo (y.nodes.bl P (bp:=aY) λ_ _ e=>e) C x);obtain⟨d2,d9⟩:=P.E lg c2 c9;have HA:=fu P;obtain⟨na,nc,d⟩:=y.nodes.E;rw[ay]at d;rw[d]at d9 HC;have hR:Hid (q.E k x=(decide (q.a.nr=k)&&decide (x∈q.nodes)&& !L)):=by unfold Hid Qn.E;rw[A,dr];simp
 rw[hR.o];obtain⟨a4,H⟩:∃z,V.av=.map z:=by obtain⟨e,_⟩|⟨gm,clk,l,e,_⟩:=y.B<;>exact⟨_,e⟩
 rw[H]at MA a0;clear y P A hR H d c9;by_cases M:q.a.nr=k
 .subst M;go_enter func251,ntmps251;go_wp2_with(go_at_call 153;refine HC.L ?_;rintro en w'⟨rfl,rfl⟩);all_goals
   go_ret;exact⟨by simp_all,HA⟩
 go_enter func251,ntmps251;go_wp2;all_goals
  go_ret;exact⟨mY M,HA⟩
def uA(l)(e):gR (l++[e])=(gR l).push e.B:=by simp[gR]
def oL(w)(gm n)(l)(d:w.heap[gm]?=some (.map (gR l) n))(k)(v)(h:∀e∈l,e.k≠k):(Instr.mapUpdate 101 (.map (some gm)) (I k) v).run prog w=.ok () (setBlock w gm (.map (gR (l++[⟨k,v,n⟩])) (n+1))):=by
 simp only[Instr.mapUpdate,Sem.run_bind,Z4 underlying101,Result.andThen,aI d,(eW (P:=prog) (k:= I k) underlying3 sj false 9999),(fa (w:=w) underlying3 (oR l k h))];rw[Z7 _ d,uA];rfl
def yO(w)(gm n)(l)(d:w.heap[gm]?=some (.map (gR l) n))(k)(v)(h:∀e∈l,e.k≠k):(Instr.mapUpdate 104 (.map (some gm)) (I k) v).run prog w=.ok () (setBlock w gm (.map (gR (l++[⟨k,v,n⟩])) (n+1))):=by
 simp only[Instr.mapUpdate,Sem.run_bind,Z4 underlying104,Result.andThen,aI d,(eW (P:=prog) (k:= I k) underlying3 sj false 9999),(fa (w:=w) underlying3 (oR l k h))];rw[Z7 _ d,uA];rfl
section
variable{α:Type}[nA α]{clk:Nat}{zz:List (Int×α)}
def Mm.Oe(h:Mm w gm clk l zz (nA.ev w aY t))(j:∀z∈zz,z.1≠k):∀e∈l,e.k≠k:=λe y=>by obtain⟨i,A,rfl⟩:=aV.1 y;have D:=h.len;have d:i<zz.length:=C;rw[(h.f i l[i] zz[i] (ah A) (ah d)).1];exact j _ (aL d)
def Mm.add(h:Mm w gm clk l zz (nA.ev w aY t))(tg:aY gm≠t)(P:∀z∈zz,z.1≠k)(A)(v)(Q:nA.ev w aY t A v):Mm (setBlock w gm (.map (gR (l++[⟨k,v,clk⟩])) (clk+1))) gm (clk+1) (l++[⟨k,v,clk⟩]) (zz++[(k,A)]) (nA.ev (setBlock w gm (.map (gR (l++[⟨k,v,clk⟩])) (clk+1))) aY t):=by
 have H:bz (λb=>b=gm) w (setBlock w gm (.map (gR (l++[⟨k,v,clk⟩])) (clk+1))):=jT _ _ _;have L:∀b,b<w.heap.size->b=gm->aY b≠t:=λb _ e=>jP e tg;have M:=h.len;refine⟨ni (ae.1 h.mp).1 _,mY M,λi e z he d=>?_,λe he=>?_,?_,?_⟩
 .by_cases S:i<l.length
  .rw[aB S]at he;rw[aB C]at d;obtain⟨T,W⟩:=h.f i e z he d;exact⟨T,nA.only W H L λ_ _ e=>e⟩
  have D:i=l.length:=by have:=(aj.1 he).1;simp at this;omega
  subst D;simp at he;rw[M]at d;simp at d;subst he;subst d;exact⟨rfl,nA.only Q H L λ_ _ e=>e⟩
 .obtain he|he:=aT.1 he
  .have:=h.bo e he;omega
  simp at he;subst he;exact fo _
 .rw[aZ,cX];refine⟨h.nd,aq,λx F y j=>?_⟩;obtain⟨e,he,rfl⟩:=aD.1 F;simp at j;have:=h.bo e he;omega
 rw[aZ,cX];refine⟨h.ky,aq,λx F y j=>?_⟩;obtain⟨z,d,rfl⟩:=aD.1 F;simp at j;rw[j];exact P z d
end
abbrev qf(w:World)(gm clk:Nat)(l:List Ae)(k:Int)(v:Value):World:=setBlock w gm (.map (gR (l++[⟨k,v,clk⟩])) (clk+1))
def wR{α:Type}{q:Qn α}(h:q.M fr=false):∀z∈q.B,z.1≠fr:=λz d e=>by unfold Qn.M at h;rw[dm]at h;exact h z d (iG e)
section
variable{α:Type}[nA α]{q:Qn α}{V:QV}
def QR.add(h:QR w aY g t q V)(j:g≠t)(H:q.nodes≠[])(y:q.M fr=false)(A)(v)(L:nA.ev w aY t A v):∃gm clk l,V.av=.map (some gm)/\aY gm=g/\w.heap[gm]?=some (.map (gR l) clk)/\(∀e∈l,e.k≠fr)/\QR (qf w gm clk l fr v) aY g t (q.add fr A) V/\bz (λb=>b=gm) w (qf w gm clk l fr v):=by
 obtain⟨e,_⟩|⟨gm,clk,l,e,tg,d⟩:=h.B
 .exact absurd (h.nil e) H
 have i:bz _ w (qf w gm clk l fr v):=jT _ _ _;have D:∀b,b<w.heap.size->b=gm->aY b≠t:=λb _ e=>by rw[e,tg];exact j
 exact⟨gm,clk,l,e,tg,d.mp,d.Oe (wR y),⟨h.val.only i D λ_ _ e=>e,h.nodes.only i D λ_ _ e=>e,.inr ⟨gm,clk+1,_,e,tg,d.add (jP tg j) (wR y) A v L⟩,λF=>by rw[e]at F;simp at F⟩,i⟩
end
def iN.VD(h:iN w aY t p qb X V)(j:c∈X.dd)(M:c.q.nodes≠[])(P:c.q.M fr=false)(A)(v)(Q:nA.ev w aY (t+3) A v):∃gm clk l,w.cell? (U (qb c.gH) 28)=some (.map (some gm))/\w.heap[gm]?=some (.map (gR l) clk)/\(∀e∈l,e.k≠fr)/\iN (qf w gm clk l fr v) aY t p qb (X.put {c with q:=c.q.add fr A}) V/\bz (λb=>Mc t (aY b)) w (qf w gm clk l fr v)/\bz (λb=>b=gm) w (qf w gm clk l fr v)/\aY gm=t+9+2*c.im:=by
 obtain⟨cv,k⟩:=h.r.a c j;obtain⟨gm,clk,l,S,y,T,W,Y,d⟩:=k.q.add C M P A v Q;have i:=k.cellAt 28 rfl;rw[S]at i;have Z:=h.r.pd.a c j;have D:∀b,b<w.heap.size->b=gm->aY b≠t+3:=λb _ e=>by rw[e,y];omega
 have L:bz (λb=>aY b=t+8+2*c.im\/aY b=t+9+2*c.im) w (qf w gm clk l fr v):=d.L λb _ e=>.inr (jP e y);have F:j9 (qf w gm clk l fr v) aY t (qb c.gH) {c with q:=c.q.add fr A} cv:=⟨(d.block _ k.lt λe=>by have:=k.tq;rw[e,y]at this;omega).H k.hq,k.tq,k.gZ.only d D λ_ _ e=>e,k.iR.only d D λ_ _ e=>e,k.e.only d D λ_ _ e=>e,Y⟩;exact⟨gm,clk,l,i,T,W,h.call j L F rfl rfl,h.CL j L,d,y⟩
def iN.VO(h:iN w aY t p qb X V)(L:X.jg.nodes≠[])(M:X.jg.M fr=false)(A)(v)(P:nA.ev w aY (t+3) A v):∃gm clk l,w.cell? (U p 21)=some (.map (some gm))/\w.heap[gm]?=some (.map (gR l) clk)/\(∀e∈l,e.k≠fr)/\iN (qf w gm clk l fr v) aY t p qb {X with jg:=X.jg.add fr A} V/\bz (λb=>Mc t (aY b)) w (qf w gm clk l fr v):=by
 obtain⟨gm,clk,l,Q,j,S,T,W,i⟩:=h.r.pr.add C L M A v P;have y:=h.cellAt 21 rfl;rw[Q]at y;have D:∀b,b<w.heap.size->aY b=aY b:=λ_ _=>rfl;have F:∀b,b<w.heap.size->b=gm->aY b≠t+3:=λb _ e=>by rw[e,j];omega
 refine⟨gm,clk,l,y,S,T,⟨(i.block p h.B λe=>by have:=h.tp;rw[e,j]at this;omega).H h.hp,h.tp,h.r.lay.only i F λ_ _ e=>e,h.r.res.only i F (λb _ e=>by rw[e,j];omega) D,h.r.tb,(i.block _ h.r.lb λe=>by have:=h.r.tb;rw[e,j]at this;omega).H h.r.mp,h.r.bo,h.r.bn,W,h.r.sl.only i F (λb _ e=>by rw[e,j];omega) D,h.r.vt.only i F (λb _ e=>by rw[e,j];omega) D,h.r.bg.only i (λb _ e=>by rw[e,j];omega) D,h.r.b.only i F λ_ _ e=>e,λd Y=>?_,h.r.pd.gH,h.r.pd.lt,h.r.pd.im,h.r.pd.a⟩,i.L λb _ e=>by rw[e,j];unfold Mc;omega⟩;obtain⟨Z,hk⟩:=h.r.a d Y;exact⟨Z,hk.only i (λb _ e=>by rw[e,j];omega) D⟩
def iN.VL(h:iN w aY t p qb X V)(L:X.mv.b.nodes≠[])(M:X.mv.b.M fr=false)(A)(v)(P:nA.ev w aY (t+3) A v):∃gm clk l,w.cell? (U p 40)=some (.map (some gm))/\w.heap[gm]?=some (.map (gR l) clk)/\(∀e∈l,e.k≠fr)/\iN (qf w gm clk l fr v) aY t p qb {X with mv:={X.mv with b:=X.mv.b.add fr A}} V/\bz (λb=>Mc t (aY b)) w (qf w gm clk l fr v):=by
 obtain⟨gm,clk,l,Q,j,S,T,W,i⟩:=h.r.sl.add C L M A v P;have y:=h.cellAt 40 rfl;rw[Q]at y;have D:∀b,b<w.heap.size->aY b=aY b:=λ_ _=>rfl;have F:∀b,b<w.heap.size->b=gm->aY b≠t+3:=λb _ e=>by rw[e,j];omega
 refine⟨gm,clk,l,y,S,T,⟨(i.block p h.B λe=>by have:=h.tp;rw[e,j]at this;omega).H h.hp,h.tp,h.r.lay.only i F λ_ _ e=>e,h.r.res.only i F (λb _ e=>by rw[e,j];omega) D,h.r.tb,(i.block _ h.r.lb λe=>by have:=h.r.tb;rw[e,j]at this;omega).H h.r.mp,h.r.bo,h.r.bn,h.r.pr.only i F (λb _ e=>by rw[e,j];omega) D,W,h.r.vt.only i F (λb _ e=>by rw[e,j];omega) D,h.r.bg.only i (λb _ e=>by rw[e,j];omega) D,h.r.b.only i F λ_ _ e=>e,λd Y=>?_,h.r.pd.gH,h.r.pd.lt,h.r.pd.im,h.r.pd.a⟩,i.L λb _ e=>by rw[e,j];unfold Mc;omega⟩;obtain⟨Z,hk⟩:=h.r.a d Y;exact⟨Z,hk.only i (λb _ e=>by rw[e,j];omega) D⟩
def iN.Fp(h:iN w aY t p qb X V)(d:X.jg.nodes.length<=100):S0 w aY (t+4) (t+3) p 10 X.jg V.pr:=⟨h.r.pr,h.cellAt 12 rfl,h.cellAt 19 rfl,h.cellAt 21 rfl,h.B,d⟩
def iN.Gy(h:iN w aY t p qb X V)(d:X.mv.b.nodes.length<=100):S0 w aY (t+5) (t+3) p 29 X.mv.b V.sl:=⟨h.r.sl,h.cellAt 31 rfl,h.cellAt 38 rfl,h.cellAt 40 rfl,h.B,d⟩
def iN.G4(h:iN w aY t p qb X V)(d:X.mv.a.nodes.length<=100):S0 w aY (t+6) (t+3) p 41 X.mv.a V.vt:=⟨h.r.vt,h.cellAt 43 rfl,h.cellAt 50 rfl,h.cellAt 52 rfl,h.B,d⟩
def j9.Sx(k:j9 w aY t q c cv)(d:c.q.nodes.length<=100):S0 w aY (t+9+2*c.im) (t+3) q 17 c.q cv.q:=⟨k.q,k.cellAt 19 rfl,k.cellAt 26 rfl,k.cellAt 28 rfl,k.lt,d⟩
structure zZ(X:Cx):Prop where
 pr:X.jg.nodes.length<=100
 sl:X.mv.b.nodes.length<=100
 vt:X.mv.a.nodes.length<=100
 cl:∀c∈X.dd,c.q.nodes.length<=100
theorem xy(h:iN w aY t p qb X V)(L:zZ X)(fr nr)(M:X.jg.E nr fr=true):ib 249 #[O p,I fr,I nr] w λP w'=>P=gG (.tuple #[.pointer (some (U p 10)),.func (.func 270) #[] #[]])/\Bl w w':=by
 obtain⟨W,A⟩:=dS (w.alloc (gO #[O p] 94));have j:=(Bl.refl w).alloc (gO #[O p] 94);have y:=ao w (gO #[O p] 94);rw[A]at j y;have Q:W.cell? (U w.heap.size 0)=some (O p):=ax W w.heap.size 0 _ 94 (0,0) y;have D:=(ae.1 y).1;have i:=h.bl j (bp:=aY) gK;have F:=fu (nC (i.Fp L.pr) nr fr);rw[M]at F;have S:=i.B;obtain⟨T,Y⟩:=fl j A;clear h i A j y;go_enter func249,ntmps249;go_upto_region 1 with fail;rw[Y.o];go_wp2_with(go_at_call 269;refine gF F λw2 d=>?_;have z0:=(d.cell D).H Q;have Z:=af S d.lt;have a0:=af D d.lt;have HB:=fu (T.H d);clear d);go_ret2;exact⟨rfl,HB⟩
theorem wN(h:iN w aY t p qb X V)(T:zZ X)(fr nr)(hw:X.jg.E nr fr=false)(hs:X.mv.b.E nr fr=true):ib 249 #[O p,I fr,I nr] w λen w'=>en=gG (.tuple #[.pointer (some (U p 29)),.func (.func 271) #[O p] #[]])/\Bl w w':=by
 obtain⟨W,M⟩:=dS (w.alloc (gO #[O p] 94));have D:=(Bl.refl w).alloc (gO #[O p] 94);have F:=ao w (gO #[O p] 94);rw[M]at D F;have P:W.cell? (U w.heap.size 0)=some (O p):=ax W w.heap.size 0 _ 94 (0,0) F;have L:=(ae.1 F).1;have j:=h.bl D (bp:=aY) gK;have Q:=fu (nC (j.Fp T.pr) nr fr);rw[hw]at Q;have Y:Hid (∀Z,Bl W Z->_):=λZ d=>nC ((j.bl d (bp:=aY) gK).Gy T.sl) nr fr;rw[hs]at Y;have lp:=j.B;obtain⟨BW,HW⟩:=fl D M;clear h j M D F;go_enter func249,ntmps249;go_upto_region 1 with fail;rw[HW.o];go_wp2_with fail;refine gF Q λw2 d=>?_;have z0:=(d.cell L).H P;have a0:=af lp d.lt;have a1:=af L d.lt;have y:=fu d;clear d Q;go_wp2_with fail;refine gF (Y _ y) λw3 A=>?_;have i:=y.H A;have y0:=(i.cell L).H P;have a2:=af lp i.lt;have a3:=af L i.lt;have S:=fu i;clear A i z0 P;go_upto_region 4 with fail;go_region;all_goals
  go_wp2;go_ret2;exact⟨rfl,BW.H (S.H iZ)⟩
theorem yV(h:iN w aY t p qb X V)(hl:zZ X)(fr nr)(hw:X.jg.E nr fr=false)(hs:X.mv.b.E nr fr=false):ib 249 #[O p,I fr,I nr] w λen w'=>Bl w w'/\((∃c∈X.dd,c.q.E nr fr=true/\∃g1 g2,en=gG (.tuple #[.pointer (some (U (qb c.gH) 17)),.func (.func 272) #[] #[O g1,O g2]])/\w.heap.size<=g1/\w.heap.size<=g2/\w'.heap[g1]?=some (gO #[O p] 94 (0,0))/\w'.heap[g2]?=some (gO #[O (qb c.gH)] 163 (0,0)))\/((∀c∈X.dd,c.q.E nr fr=false)/\en=gG (.tuple #[.pointer none,.nilFunc]))):=by
 obtain⟨W,hW⟩:=dS (w.alloc (gO #[O p] 94));have bW:=(Bl.refl w).alloc (gO #[O p] 94);have hX:=ao w (gO #[O p] 94);rw[hW]at bW hX;have r0:W.cell? (U w.heap.size 0)=some (O p):=ax W w.heap.size 0 _ 94 (0,0) hX;have lr:=(ae.1 hX).1;have j:=h.bl bW (bp:=aY) gK;have HA:=fu (nC (j.Fp hl.pr) nr fr);rw[hw]at HA;have HS:Hid (∀W2,Bl W W2->_):=λW2 y=>nC ((j.bl y (bp:=aY) gK).Gy hl.sl) nr fr;rw[hs]at HS;have HQ:Hid (∀c∈X.dd,∀W2,Bl W W2->ib 269 #[.pointer (some (U (qb c.gH) 17)),I nr,I fr] W2 λen w'=>en=gG (.bool (c.q.E nr fr))/\Bl W2 w'):=λc A W2 y=>by obtain⟨cv,hk⟩:=(j.bl y (bp:=aY) gK).r.a c A;exact nC (hk.Sx (hl.cl c A)) nr fr
 have a8:=fu h.r.pd.gH;have HL:Hid (∀c∈X.dd,qb c.gH<W.heap.size):=λc A=>by obtain⟨cv,hk⟩:=j.r.a c A;exact hk.lt
 have a1:Hid (∀x∈(gR (X.dd.map (jV qb V.bo))).toList,∃c∈X.dd,x=(jV qb V.bo c).B):=λx hx=>by obtain⟨e,he,rfl⟩:=kZ hx;obtain⟨c,A,rfl⟩:=aD.1 he;exact⟨c,A,rfl⟩
 have a2:Hid (∀c∈X.dd,(jV qb V.bo c).B∈(gR (X.dd.map (jV qb V.bo))).toList):=λc A=>by
  have:(gR (X.dd.map (jV qb V.bo))).toList=(X.dd.map (jV qb V.bo)).map Ae.B:=by simp[gR]
  rw[this];exact aD.2 ⟨_,aD.2 ⟨c,A,rfl⟩,rfl⟩
 have a9:Hid (∀x∈(gR (X.dd.map (jV qb V.bo))).toList,x.born<V.clk):=λx hx=>by obtain⟨c,A,rfl⟩:=a1 x hx;exact h.r.bo c A
 have aa:Hid ((gR (X.dd.map (jV qb V.bo))).toList.map (·.born)).Nodup:=by
  have:(gR (X.dd.map (jV qb V.bo))).toList.map (·.born)=X.dd.map λc=>V.bo c.gH:=by simp[gR,Function.comp_def,Ae.B,jV]
  unfold Hid;rw[this];exact h.r.bn
 have lp:=j.B;have lb:=j.r.lb;have d8:=j.cellAt 8 rfl;obtain⟨Hm,BW,HW,HX⟩:=ju j.r.mp bW hW hX;clear h j hW bW hX;generalize V.bm=bm at*;generalize V.clk=clk at*;generalize V.bo=bo at*;generalize gR (X.dd.map (jV qb bo))=es at*;go_enter func249,ntmps249;go_upto_region 1 with fail;rw[HW.o];go_wp2_with fail;refine gF HA λw2 y=>?_;have z0:=(y.cell lr).H r0;have am:=af lp y.lt;have an:=af lr y.lt;have a3:=fu y;clear y HA;go_wp2_with fail;refine gF (HS _ a3) λw3 a4=>?_;have D:=a3.H a4;have y0:=(D.cell lr).H r0;have y8:=(D.cell lp).H d8;have ab:=fu ((D.heap lb).H Hm);have ap:=af lp D.lt;have P:=af lr D.lt;have ac:=D.lt;have L:=fu D;clear a4 D z0 r0 d8 HS;go_wp2_with(at_range;refine jS _ rfl _ 98 rfl 3 163 underlying98 bm es clk rfl ab a9 aa ?_;intro hI;have HI:=fu hI;clear hI);go_frame;go_loopw[](λwr=>∃i:List MapEntry,Hid (Bl w3 wr)/\Hid (It wr w3.heap.size bm es clk i)/\Hid (∀c∈X.dd,(jV qb bo c).B∈i->c.q.E nr fr=false)) λwr=>es.size-(wr.iterSeen w3.heap.size).size
 case atStart=>exact⟨[],jo.alloc _,HI,λc _ h=>lY h⟩
 obtain⟨i,HB,HJ,HD⟩:=hrel;have x0:=(HB.cell P).H y0;have ar:=af P HB.lt;go_wp2_with(at_next;refine kl _ rfl _ rfl w3.heap.size bm clk es i rfl HJ ?_ ?_)
 .intro h0;have HF:Hid (∀c∈X.dd,c.q.E nr fr=false):=λc A=>HD.o c A (h0.mem_iff.2 (a2 c A));clear h0;go_wp2;go_ret2;exact⟨BW.H (L.H HB),.inr ⟨HF,rfl⟩⟩
 intro e WW he a5 hO a6;obtain⟨c,A,rfl⟩:=a1 e (iG he);have M:Bl w3 WW:=HB.B hO λb hb=>C;have u0:=(M.cell P).H y0;have av:=af P M.lt;have ad:=af (HL c A) (aF ac M.lt);obtain⟨Q,ag,S⟩:=gV M a5 (HQ c A);have ai:Hid (∀d∈X.dd,(jV qb bo d).B∈i->d.q.E nr fr=false):=HD.o;have Hc:=fu A;have al:(Instr.entry (O w3.heap.size)).run prog WW=.ok (.tuple #[I (c.gH:Nat),O (qb c.gH)]) WW:=a6;clear a5 hO a6 he M x0 A;simp only[show(jV qb bo c).B.key=I (c.gH:Nat)from rfl,show(jV qb bo c).B.val= O (qb c.gH)from rfl];generalize hq:qb c.gH=q at*;have Hq:=fu hq;clear hq;have HN:=fu (ao WW (gO #[O q] 163))
 cases T:c.q.E nr fr with
 |true=>rw[T]at S;go_wp2_with(go_at_call 269;refine gF (S _ (L.H (Q.alloc _))) λw5 F=>?_;have Y:=(F.heap aq).H HN;have v0:=ax w5 WW.heap.size 0 _ 163 (0,0) Y;have l5:=(ae.1 Y).1;have aw:=af ad (aF aq F.lt);obtain⟨Z,ak⟩:=fl ((Q.alloc _).H F) Y;clear F Y);go_ret2;refine⟨BW.H (L.H Z),.inl ⟨c,Hc,T,w.heap.size,WW.heap.size,by rw[Hq.o];rfl,jc,C,?_,jP Hq.o ak⟩⟩;exact((L.H Z).heap lr).H HX
 |false=>
  rw[T]at S;go_wp2_with(go_at_call 269;refine gF (S _ (L.H (Q.alloc _))) λw5 F=>?_;obtain⟨Z,a0⟩:=fl ((Q.alloc _).H F) ((ag.bl ((Bl.refl WW).alloc _)).bl F);clear F);go_roundw
  case rel=>exact⟨(jV qb bo c).B::i,Z,a0,λd hd hm=>by
   obtain e|e:=bh.1 hm
   .have:d.q.E nr fr=c.q.E nr fr:=by
     have a7:d.gH=c.gH:=by
      have:=Z5 MapEntry.key e
      simp[Ae.B,jV]at this
      omega
     rw[qt a8.o hd Hc.o a7]
    rw[this];exact T
   .exact ai d hd e⟩
  have e1:w5.iterSeen w3.heap.size=(((jV qb bo c).B::i).map (·.born)).reverse.toArray:=by unfold World.iterSeen;rw[a0.it]
  have e2:wr.iterSeen w3.heap.size=(i.map (·.born)).reverse.toArray:=by unfold World.iterSeen;rw[HJ.it]
  have:=a0.len;rw[e1,e2];simp at this|-;omega
def oP{α:Type}{q:Qn α}{d:Int}(h:q.E d fr=true):q.a.nr=d/\fr∈q.nodes/\q.M fr=false/\q.nodes≠[]:=by simp only[Qn.E,bL,ZT,eK,List.contains_iff_mem]at h;exact⟨h.1.1,h.1.2,h.2,λe=>by rw[e]at h;simp at h⟩
def Gq(A)(va)(vc)(w):Calls prog 270 #[qi A va vc] w λd w'=>d=gS/\Bl w w':=by go_wp2;go_end0;exact⟨rfl,jo.alloc _⟩
theorem G2(h:iN w aY t p qb X V)(i:100<=t)(D:mD X)(P:c∈X.dd)(A)(F:OY X c)(va)(vc)(L:Rd w aY (t+3) 5 (dk va A.ct.val.length vc) (A.ct.val.map B8))(g1 g2)(c1:w.cell? (U g1 0)=some (O p))(c2:w.cell? (U g2 0)=some (O (qb c.gH)))(l1:g1<w.heap.size)(l2:g2<w.heap.size):ib 272 #[qi A va vc,O g1,O g2] w λQ w'=>Q=gS/\CS w aY t p qb (X.ld c A) w':=by
 have d:=(Bl.refl w).alloc (rR A va vc);have j:=h.bl d (bp:=aY) gK;have y:=fu (PC j i D P A F va vc (L.bl d λ_ _ e=>e));have S:=(d.cell l1).H c1;have T:=(d.cell l2).H c2;have M:=fu d;clear h j L d D F;unfold qi at y|-;unfold rR at y M S T;generalize qb c.gH=q at*;go_enter func272,ntmps272;go_wp2_with(go_at_call 273;refine ix y λY W=>?_);go_end0;exact⟨rfl,CS.F M W⟩
theorem Ad(h:iN w aY t p qb X V)(hl:zZ X)(fr nr)(hw:X.jg.E nr fr=true)(A)(h5:A.wh≠5)(va)(vc)(ht:Rd w aY (t+3) 5 (dk va A.ct.val.length vc) (A.ct.val.map B8)):ib 214 #[O p,I fr,I nr,qi A va vc] w λen w'=>en=gS/\CS w aY t p qb (X.jA fr nr A) w':=by
 have a8:Hid (X.jA fr nr A={X with jg:=X.jg.add fr A}):=by unfold Hid Cx.jA;rw[aE hw,az h5]
 obtain⟨W,hW⟩:=dS (w.alloc (rR A va vc));have bW:=(Bl.refl w).alloc (rR A va vc);have L:=ao w (rR A va vc);rw[hW]at bW L;have M:=h.bl bW (bp:=aY) gK;obtain⟨⟨r0,r1,r2,r3,r4,r5,r6⟩,_,lr⟩:=BE L;obtain⟨HA,HF,HW,a9⟩:=ju (xy M hl fr nr hw) (Gq A va vc) hW M;obtain⟨Ht,a2,BW⟩:=gV (ht.bl bW (bp:=aY) λ_ _ e=>e) (oP hw) bW;have ac:(A.wh==5)=false:=iG h5;have Hh:=fu h;clear h M hW bW L ht;unfold qi;unfold rR at HW;go_enter func214,ntmps214;go_upto_region 1 with fail;rw[HW.o];clear HW;go_wp2_with(go_at_call 249;refine gF HA λw2 d=>?_;have P:=a9.bl d (bp:=aY) gK;have ad:=P.B;obtain⟨s0,s1,s2,s3⟩:=d.J lr r0 r1 r2 r3;obtain⟨s4,s5,s6⟩:=d.F lr r4 r5 r6;have Q:=af lr d.lt;obtain⟨aa,S⟩:=fl P d;clear d P HA r0 r1 r2 r3 r4 r5 r6);obtain⟨_,_,F,a3⟩:=a2.o;have a4:nA.ev w2.drew aY (t+3) A (qi A va vc):=⟨_,rfl,Ht.bl (S.drew) λ_ _ e=>e⟩;obtain⟨gm,clk,l,a5,T,Y,Z,ho⟩:=(aa.bl ((Bl.refl w2).drew) (bp:=aY) gK).VO a3 F A _ a4;have a6:w2.cell? (U p 21)=some (.map (some gm)):=a5;have a0:=oL w2 gm clk l T fr (qi A va vc) Y;have i:=oL w2.drew gm clk l T fr (qi A va vc) Y;have a7:gm≠w.heap.size:=λe=>by have y:=((BW.H S).cell Hh.B).H (Hh.cellAt 21 rfl);rw[a6]at y;have:=(Hh.r.pr.B.map (b:=gm) (by simpa using y.symm)).1;omega
 have j:bz (λb=>b=gm) w2.drew (qf w2.drew gm clk l fr (qi A va vc)):=jT _ _ _;obtain⟨W3,a1⟩:=dS (qf w2.drew gm clk l fr (qi A va vc));have D:_=Result.ok () W3:=i.H (by rw[<-a1]);rw[a1]at Z ho j;have ag:w.heap.size<W3.heap.size:=af Q j.size;obtain⟨t0,t1,t2,t3⟩:=j.J Q (Ne.symm a7) s0 s1 s2 s3;obtain⟨t4,t5,t6⟩:=j.F Q (Ne.symm a7) s4 s5 s6;obtain⟨HK,HO⟩:=fl Z ho;unfold qi at a0 D HF;clear ho j a1 T Y a4 Z i a5 F a3;go_region;all_goals
  go_wp2_with(go_at_call 270;refine ix (HF _) λw5 ab=>?_);go_end0;refine⟨rfl,?_⟩;rw[a8.o];exact CS.F (BW.H (S.drew)) (CS.post (CS.mk HK HO) ab)
def MR(X:Cx):Prop:=∀c∈X.dd,∀d∈X.dd,c.q.nodes≠[]->d.q.nodes≠[]->c.q.a.nr=d.q.a.nr->c=d
theorem Dw(A:MR X)(j:c∈X.dd){i:Int}(y:c.q.E i fr=true):X.dd.find? (λc=>c.q.E i fr)=some c:=by
 cases e:X.dd.find? _ with
 |none=>exact absurd y (bU.1 e c j)
 |some d=>have D:d.q.E i fr=true:=cR (p:=λc:jf=>c.q.E i fr) e;obtain⟨F,_,_,H⟩:=oP y;obtain⟨b1,_,_,L⟩:=oP D;rw[A c j d (bu e) H L (F.H b1.symm)]
def mD.Ts{Y:Cx}(h:mD X)(d:Y.n=X.n)(y:Y.m=X.m)(A:Y.vo=X.vo)(D:Y.ce=X.ce)(i:Y.lay=X.lay)(j:Y.iu=X.iu):mD Y:=
 ⟨by rw[d,y,A,D];exact h.mI,by rw[i,d];exact h.ll,by rw[i];exact h.ne,by rw[j];exact h.a0,by rw[j];exact h.a1⟩
theorem Cz(h:iN w aY t p qb X V)(a8:100<=t)(hx:mD X)(hl:zZ X)(hN:MR X)(fr nr)(hw:X.jg.E nr fr=false)(hs:X.mv.b.E nr fr=false)(A)(h5:A.wh≠5)(hG:∀c∈X.dd,c.q.E nr fr=true->OY (X.put {c with q:=c.q.add fr A}) {c with q:=c.q.add fr A})(va)(vc)(ht:Rd w aY (t+3) 5 (dk va A.ct.val.length vc) (A.ct.val.map B8)):ib 214 #[O p,I fr,I nr,qi A va vc] w λen w'=>en=gS/\CS w aY t p qb (X.jA fr nr A) w':=by
 have ak:Hid ((∀c∈X.dd,c.q.E nr fr=false)->X.jA fr nr A=X):=λj=>by unfold Cx.jA;rw[az (nI hw),az (nI hs),bU.2 (λc L=>by rw[j c L];simp)]
 have al:Hid (∀c∈X.dd,c.q.E nr fr=true->X.jA fr nr A=(X.put {c with q:=c.q.add fr A}).ld {c with q:=c.q.add fr A} A):=λc L ha=>by unfold Cx.jA;rw[az (nI hw),az (nI hs),Dw hN L ha];dsimp only;rw[az h5]
 obtain⟨W,hW⟩:=dS (w.alloc (rR A va vc));have bW:=(Bl.refl w).alloc (rR A va vc);have T:=ao w (rR A va vc);rw[hW]at bW T;have Y:=h.bl bW (bp:=aY) gK;obtain⟨⟨r0,r1,r2,r3,r4,r5,r6⟩,_,lr⟩:=BE T;obtain⟨HA,HW,am⟩:=gV (yV Y hl fr nr hw hs) hW Y;obtain⟨Ht,BW⟩:=fl (ht.bl bW (bp:=aY) λ_ _ e=>e) bW;have av:(A.wh==5)=false:=iG h5;obtain⟨Hh,HG,Hx⟩:=gV h hG hx;clear h Y hW bW T ht hG hx hN;unfold qi;unfold rR at HW;go_enter func214,ntmps214;go_upto_region 1 with fail;rw[HW.o];clear HW;go_wp2_with fail;refine HA.L ?_;rintro en w2⟨i,⟨c,L,Z,g1,g2,rfl,aw,b0,a0,a1⟩|⟨j,rfl⟩⟩
 .have M:=am.bl i (bp:=aY) gK;have b1:=M.B;obtain⟨s0,s1,s2,s3⟩:=i.J lr r0 r1 r2 r3;obtain⟨s4,s5,s6⟩:=i.F lr r4 r5 r6;have a2:=af lr i.lt;have D:=fu i;obtain⟨_,_,Q,a9⟩:=oP Z;have aa:nA.ev w2.drew aY (t+3) A (qi A va vc):=⟨_,rfl,Ht.bl (D.drew) λ_ _ e=>e⟩;obtain⟨gm,clk,l,ab,a3,a4,a5,ho,d,an⟩:=(M.bl ((Bl.refl w2).drew) (bp:=aY) gK).VD L a9 Q A _ aa;have ac:w2.cell? (U (qb c.gH) 28)=some (.map (some gm)):=ab;have a6:=oL w2 gm clk l a3 fr (qi A va vc) a4;have F:=oL w2.drew gm clk l a3 fr (qi A va vc) a4;obtain⟨b2,k0⟩:=Hh.r.a c L;have b3:gm<w.heap.size:=by have y:=((BW.H D).cell k0.lt).H (k0.cellAt 28 rfl);rw[ac]at y;exact(k0.q.B.map (b:=gm) (by simpa using y.symm)).1
  have ad:gm≠w.heap.size:=C;have b4:=BW.lt;have ag:gm≠g1:=C;have ai:gm≠g2:=C;obtain⟨W3,a7⟩:=dS (qf w2.drew gm clk l fr (qi A va vc));have P:_=Result.ok () W3:=F.H (by rw[<-a7]);rw[a7]at a5 ho d;have b5:w.heap.size<W3.heap.size:=af a2 d.size;obtain⟨t0,t1,t2,t3⟩:=d.J a2 (Ne.symm ad) s0 s1 s2 s3;obtain⟨t4,t5,t6⟩:=d.F a2 (Ne.symm ad) s4 s5 s6;have m1:=(ae.1 a0).1;have m2:=(ae.1 a1).1;have q1:=(d.cell (b:=g1) (o:=0) m1 (Ne.symm ag)).H (ax w2 g1 0 _ 94 (0,0) a0);have q2:=(d.cell (b:=g2) (o:=0) m2 (Ne.symm ai)).H (ax w2 g2 0 _ 163 (0,0) a1);have b6:=(M.r.a c L).choose_spec.lt;have HF:=fu (G2 a5 a8 (Hx.put _) (c:={c with q:=c.q.add fr A}) (Cx.nE L rfl) A (HG c L Z) va vc (Ht.only ((bz.E (S:=λb=>b=gm) (D.drew)).H d) (λb _ e=>by rw[e,an];omega) λ_ _ e=>e) g1 g2 q1 q2 (af m1 d.size) (af m2 d.size));obtain⟨HO,HE⟩:=fl ho (al c L Z);have ap:Value.func (Fn.func 272) #[] #[O g1,O g2]=Value.func (Fn.func 272) #[] #[O g1,O g2]:=rfl;unfold qi at a6 P HF;clear ho d a7 a3 a4 aa a5 F ab Q a9 i M HA a0 a1 q1 q2 k0 r0 r1 r2 r3 r4 r5 r6 ap;generalize qb c.gH=q at*;go_upto_region 2 with fail;go_region;all_goals
   go_wp2_with(go_at_call 272;refine ix HF λw5 ar=>?_);go_end0;refine⟨rfl,?_⟩;rw[HE.o];exact CS.F (BW.H (D.drew)) (CS.iz HO ar)
 obtain⟨HE,D⟩:=fl (ak j) i;clear i HA j;go_wp2;first
  |go_end0
  |((try simp only[Exit.inBlock,Exit.then]);refine aG (v:= .tuple #[]) (by simp[results,results214,go_sem]) rfl ?_)
 refine⟨rfl,?_⟩;rw[HE.o];exact CS.E ⟨V,Hh⟩ (BW.H D)
def UQ(ls:List Nat)(i:Nat):Value:= .bool (ls.contains i)
def Eg(ls:List Nat):Nat:=((List.range 8).find? λl=> !(ls.contains l)).getD 0
def Sg(w:World)(b:Nat)(ls:List Nat):Prop:=∃arr,w.heap[b]?=some (.cells arr 266 (0,0))/\arr.size=8/\∀i,i<8->arr[i]?=some (UQ ls i)
section
variable{b:Nat}{ls:List Nat}
def Sg.lt(h:Sg w b ls):b<w.heap.size:=by obtain⟨d,i,_⟩:=h;exact(ae.1 i).1
def Sg.cell(h:Sg w b ls)(i)(d:i<8):w.cell? (U b i)=some (UQ ls i):=by obtain⟨j,y,_,A⟩:=h;rw[ax w b i _ 266 _ y];exact A i d
def Sg.frozen(h:Sg w b ls)(i):w.frozen? (U b i)=false:=by obtain⟨d,j,_⟩:=h;exact aP w b i _ 266 j
def Sg.ox(h:Sg w b ls)(e:w'.heap[b]?=w.heap[b]?):Sg w' b ls:=by obtain⟨d,i,r⟩:=h;exact⟨d,e.H i,r⟩
def Sg.set(h:Sg w b ls)(i)(y:i<8):Sg (w.setCell (U b i) (.bool true)) b (i::ls):=by
 obtain⟨A,D,d,F⟩:=h;refine⟨_,cH w b i _ 266 _ D,mY d,λj H=>?_⟩;rw[fD];by_cases e:i=j
 .subst e;simp[d,y,UQ]
 rw[az e,F j H];simp[UQ,Ne.symm e]
theorem Q5(ls)(h:ls.length<8):(List.range 8).find? (λl=> !(ls.contains l))=some (Eg ls):=by
 unfold Eg
 cases e:(List.range 8).find? _ with
 |some x=>rfl
 |none=>
  have:=ux dU (λx d=>by
   have:=bU.1 e x d
   simpa using this)
  simp at this;omega
def yd(ls)(h:ls.length<8):Eg ls<8/\ls.contains (Eg ls)=false/\∀i,i<Eg ls->ls.contains i=true:=by have e:=Q5 ls h;simp_all
theorem JI(h:Sg w b ls)(A:ls.length<8):ib 188 #[dk (G b) 8 8,.bool false] w λD w'=>D=gG (I (Eg ls))/\Bl w w':=by
 obtain⟨Q,j,y⟩:=yd ls A;obtain⟨H,F⟩:=fl h y;have S:=h.lt;have L:=fu j;clear h y j;go_enter func188,ntmps188;go_wp2_with fail;go_loopw[8](λv wr=>∃i:Nat,v=I i/\i<=Eg ls/\wr=w) λv _=>Eg ls-(Go.RowKit.intOf v).toNat
 case atStart=>exact⟨0,rfl,jd,rfl⟩
 obtain⟨i,rfl,T,rfl⟩:=hrel;have d:=H.cell i C;unfold UQ at d;have M:(i:Int)<8:=C;have P:(0:Int)<=i:=C;by_cases e:i=Eg ls
 .subst e;rw[L.o]at d;go_wp2;go_ret;exact⟨rfl,jo⟩
 rw[F.o i C]at d;go_wp2;go_roundw
 case rel=>exact⟨i+1,aq,C,trivial⟩
 exact gW
def MH{l1 l2:List Nat}(h:l1.Perm l2):Eg l1=Eg l2:=by
 unfold Eg;have:(λl=> !(l1.contains l))=(λl=> !(l2.contains l)):=by simp[h.mem_iff]
 rw[this]
def Sg.new(w:World):Sg (w.alloc (gO #[.bool false,.bool false,.bool false,.bool false,.bool false,.bool false,.bool false,.bool false] 266)) w.heap.size []:=by refine⟨_,ao w _,rfl,λi d=>?_⟩;have:i=0\/i=1\/i=2\/i=3\/i=4\/i=5\/i=6\/i=7:=C;obtain rfl|rfl|rfl|rfl|rfl|rfl|rfl|rfl:=this<;>rfl
theorem uY{bm clk:Nat}(c8:w.cell? ⟨p,8,none⟩=some (.map (some bm)))(lp:p<w.heap.size)(T:w.heap[bm]?=some (.map es clk))(bo:∀x∈es.toList,x.born<clk)(nd:(es.toList.map (·.born)).Nodup)(hv:∀x∈es.toList,∃q,x.val=.pointer (some ⟨q,0,none⟩)/\w.cell? ⟨q,2,none⟩=some (.int .i64 (ln x:Nat))/\ln x<8/\q<w.heap.size)(hs:es.size<8):ib 148 #[.pointer (some ⟨p,0,none⟩)] w λen w'=>en=gG (.int .i64 (Eg (es.toList.map ln)))/\Bl w w':=by
 obtain⟨HM,Y,Z⟩:=gV T bo nd;obtain⟨HV,HS⟩:=fl hv hs;have lm:=(ae.1 T).1;clear T bo nd hv hs;go_enter func148,ntmps148;go_wp2_with(at_range;refine jS _ rfl _ 98 rfl 3 163 underlying98 bm es clk rfl ((cL w _ lm).H HM) Y Z ?_;intro hI;generalize hr:(World.alloc w _).heap.size=r at hI|-;have y:r=w.heap.size+1:=(by rw[<-hr];simp);clear hr;obtain⟨HI,A⟩:=fl hI y;clear y hI);go_frame;go_loopw[](λwr=>∃d:List MapEntry,Hid (Bl w wr)/\Hid (Sg wr w.heap.size (d.map ln))/\Hid (It wr r bm es clk d)) λwr=>es.size-(wr.iterSeen r).size
 case atStart=>exact⟨[],(jo.alloc _).alloc _,(Sg.new w).ox (cL _ _ aq),HI⟩
 obtain⟨d,Q,S,HJ⟩:=hrel;go_wp2_with(at_next;refine kl _ rfl _ rfl r bm clk es d rfl HJ ?_ ?_)
 .intro h0;have HC:=fu (JI S (by have:=HJ.len;have:=HS.o;simp;omega));have hL:=MH (h0.map ln);rw[hL]at HC;have iV:=S.lt;go_wp2_with fail;refine ix HC λw2 a0=>?_;go_wp2;go_ret;exact⟨rfl,Q.H a0⟩
 intro e W he D F a1;obtain⟨q,hq,cq,L,lq⟩:=HV e (iG he);rw[hq]at a1|-;have M:=af lq Q.lt;have a4:=(F.cell (b:=q) M (gI A.o)).H ((Q.cell lq).H cq);have i:=S.ox (F.block _ S.lt (gI A.o));have iV:=i.lt;have a5:=i.frozen (ln e);have a6:=i.cell (ln e) L;have a7:=af M F.size;obtain⟨j,HO,a2⟩:=gV D F i;have a8:(0:Int)<=(ln e:Int):=C;have a3:(ln e:Int)<8:=C;clear D F he i cq;go_wp2;go_roundw
 case rel=>have P:bz (λk=>k=w.heap.size) W (W.setCell ⟨w.heap.size,ln e,none⟩ (.bool true)):=(bz.refl (λk=>k=w.heap.size) W).setCell ⟨w.heap.size,ln e,none⟩ (.inl rfl) _;refine⟨e::d,(Q.B HO λb hb=>gI A.o).B P λb hb=>C,?_,j.only P (gI A.o) C⟩;rw[bj];exact a2.set _ L
 case measure=>
  have e1:W.iterSeen r=((e::d).map (·.born)).reverse.toArray:=by unfold World.iterSeen;rw[j.it]
  have e2:wr.iterSeen r=(d.map (·.born)).reverse.toArray:=by unfold World.iterSeen;rw[HJ.it]
  have:=j.len;have e3:(W.setCell ⟨w.heap.size,ln e,none⟩ (.bool true)).iterSeen r=W.iterSeen r:=by unfold World.iterSeen;rw[((bz.refl (λk=>k=w.heap.size) W).setCell ⟨w.heap.size,ln e,none⟩ (.inl rfl) (.bool true)).block r j.lr (gI A.o)]
  rw[e3,e1,e2];simp at this|-;omega
def SC{bm clk:Nat}(y:w.cell? (U p 8)=some (.map (some bm)))(A:p<w.heap.size)(D:w.heap[bm]?=some (.map es clk))(F:∀x∈es.toList,x.born<clk)(H:(es.toList.map (·.born)).Nodup)(L:∀x∈es.toList,∃(q l:Nat),x.val= O q/\w.cell? (U q 2)=some (I l)/\l<8/\q<w.heap.size)(j:es.size<8):ib 148 #[O p] w λM w'=>(∃l:Nat,l<8/\M=gG (I l))/\Bl w w':=by
 have P:∀x:MapEntry,∃l:Nat,x∈es.toList->∃q,x.val=.pointer _/\w.cell? (U q 2)=some (I l)/\l<8/\q<w.heap.size:=λx=>by
  by_cases d:x∈es.toList
  .obtain⟨q,l,h⟩:=L x d;exact⟨l,λ_=>⟨q,h⟩⟩
  simp_all
 obtain⟨ln,i⟩:=Classical.axiomOfChoice P;refine gF (uY (ln:=ln) y A D F H (λx d=>i x d) j) λw' Q=>?_;exact⟨⟨_,(yd _ (iG j)).1,rfl⟩,Q⟩
end
def Lf(w)(gm n)(l)(d:w.heap[gm]?=some (.map (gR l) n))(k)(v)(h:∀e∈l,e.k≠k):(Instr.mapUpdate 98 (.map (some gm)) (I k) v).run prog w=.ok () (setBlock w gm (.map (gR (l++[⟨k,v,n⟩])) (n+1))):=by
 simp only[Instr.mapUpdate,Sem.run_bind,Z4 underlying98,Result.andThen,aI d,(eW (P:=prog) (k:= I k) underlying3 sj false 9999),(fa (w:=w) underlying3 (oR l k h))];rw[Z7 _ d,uA];rfl
def NK(w)(bm clk)(l)(d:w.heap[bm]?=some (.map (gR l) clk)):(Builtin.len_ #[98] 3 #[.map (some bm)]).run prog w=.ok (I l.length) w:=by have h:=run_len_map (P:=prog) w 98 3 bm _ clk ij d;rw[show(gR l).size=l.length by simp[gR]]at h;exact h
theorem EZ(h:iN w aY t p qb X V)(H:X.dd.length<8):ib 148 #[O p] w λF w'=>F=gG (I X.mn)/\Bl w w':=by
 have M:(J1 X qb V).toList=(X.dd.map (jV qb V.bo)).map Ae.B:=by simp[gR]
 have y:∀x∈(J1 X qb V).toList,∃c∈X.dd,x=(jV qb V.bo c).B:=λx A=>by obtain⟨e,P,rfl⟩:=kZ A;obtain⟨c,i,rfl⟩:=aD.1 P;exact⟨c,i,rfl⟩
 obtain⟨ln,j⟩:∃ln:MapEntry->Nat,∀c∈X.dd,ln (jV qb V.bo c).B=c.im:=by
  refine⟨λx=>((X.dd.find? λc=>Go.RowKit.intOf x.key==((c.gH:Nat):Int)).map jf.im).getD 0,λc i=>?_⟩;have:X.dd.find? (λd=>((c.gH:Nat):Int)==((d.gH:Nat):Int))=some c:=by
   cases e:X.dd.find? (λd=>((c.gH:Nat):Int)==((d.gH:Nat):Int))with
   |none=>have:=bU.1 e c i;simp at this
   |some d=>have Q:=cR (p:=λd:jf=>((c.gH:Nat):Int)==((d.gH:Nat):Int)) e;simp at Q;rw[qt h.r.pd.gH (bu e) i C]
  show((X.dd.find? λd=>((c.gH:Nat):Int)==((d.gH:Nat):Int)).map jf.im).getD 0=c.im;rw[this];rfl
 have D:(J1 X qb V).toList.map ln=X.dd.map jf.im:=by rw[M,br,br];exact bf λc i=>j c i
 have S:Eg (X.dd.map jf.im)=X.mn:=by unfold Eg Cx.mn;congr 2;funext l;congr 1;rw[fU,fY];congr 1;funext c;simp[Bool.beq_comm]
 refine(uY (ln:=ln) (h.cellAt 8 rfl) h.B h.r.mp (λx A=>?_) ?_ (λx A=>?_) (by simpa [gR]using H)).L ?_
 .obtain⟨c,i,rfl⟩:=y x A;exact h.r.bo c i
 .have:(J1 X qb V).toList.map (·.born)=X.dd.map λc=>V.bo c.gH:=by simp[gR,Function.comp_def,Ae.B,jV]
  rw[this];exact h.r.bn
 .obtain⟨c,i,rfl⟩:=y x A;obtain⟨cv,k⟩:=h.r.a c i;exact⟨qb c.gH,rfl,by rw[j c i];exact k.cellAt 2 rfl,by rw[j c i];exact h.r.pd.a c i,k.lt⟩
 rintro F w'⟨rfl,T⟩;exact⟨j4 D S,T⟩
theorem ye{o:Nat}{q:Qn An}{Q:QV}(h:S0 w aY ga t g o q Q):Calls prog 155 #[.pointer (some (U g o))] w λe w'=>e=gG (.bool q.J)/\w'=w:=by
 obtain⟨i,_,y,_,A,D⟩:=h;obtain⟨F,H,d⟩:=i.nodes.E;rw[d]at y;have j:q.J=decide (0<q.nodes.length):=by
  unfold Qn.J
  cases q.nodes with
  |nil=>rfl
  |cons x l=>simp
 rw[j];clear i d j;go_wp2;go_ret;exact⟨rfl,rfl⟩
theorem pU(k:j9 w aY t q c cv)(y:c.q.nodes.length<=100):ib 94 #[O q] w λe w'=>e=gG (.bool (Cx.lV c))/\w'=w:=by
 have A:=k.cellAt 0 rfl;have D:=fu (ye (k.Sx y));have F:=k.lt;by_cases d:c.kind=1
 .have i:Cx.lV c= !c.q.J:=by unfold Cx.lV;rw[d];simp
  rw[i];rw[d]at A;clear k;go_enter func94,ntmps94;go_wp2_with(go_at_call 155;refine D.L ?_;rintro e w'⟨rfl,rfl⟩);go_ret;exact⟨rfl,rfl⟩
 have j:(c.kind==1)=false:=by simpa using d
 have i:Cx.lV c=false:=by unfold Cx.lV;rw[j];rfl
 rw[i];clear k;go_enter func94,ntmps94;go_wp2;go_ret;exact⟨rfl,rfl⟩
def j7.zero:j7:=⟨OO,OO,OO,QV.zero⟩
def tW(d:X.dd.length<8):X.mn<8/\∀c∈X.dd,c.im≠X.mn:=by
 have i:Eg (X.dd.map jf.im)=X.mn:=by unfold Eg Cx.mn;congr 2;funext l;congr 1;rw[fU,fY];congr 1;funext c;simp[Bool.beq_comm]
 have:=yd (X.dd.map jf.im) (iG d);simp_all
def sL.E(h:sL X)(j:X.dd.length<8)(kind):sL {X with res:=X.res++[Rz.zero],dd:=X.dd++[X.iy kind]}:=by
 obtain⟨y,A⟩:=tW j;refine⟨?_,λc hc=>?_,?_,λc hc=>?_⟩
 .exact cu.2 ⟨h.gH,fV _ _,λc hc d i=>by
   simp at i
   subst i
   exact h.lt c hc⟩
 .show c.gH<(X.res++[Rz.zero]).length;rw[aO];obtain hc|hc:=aT.1 hc
  .have:=h.lt c hc;omega
  simp at hc;subst hc;exact fo _
 .exact cu.2 ⟨h.im,fV _ _,λc hc d i=>by
   simp at i
   subst i
   exact A c hc⟩
 obtain hc|hc:=aT.1 hc
 .exact h.a c hc
 simp at hc;subst hc;exact y
def sG.push{y:Value}(D:∀i r,rs[i]?=some r->xs[3*i]?=some (I r.wh)/\xs[3*i+1]?=some (I r.ad)/\∃s,xs[3*i+2]?=some s/\Rd w aY t 5 s (r.val.map B8))(S:xs.length=rs.length*3)(d:w.ownsRow 0 43 3 y (rs.length+1) (xs++[I 0,I 0,OO]))(F:∀b,y.ownBlock=some b->aY b=g):sG w aY g t y (rs++[Rz.zero]):=by
 refine⟨xs++[I 0,I 0,OO],by rw[aO,dD];exact d,F,λi r j=>?_⟩;by_cases H:i<rs.length
 .rw[aB H]at j;obtain⟨L,M,s,P,Q⟩:=D i r j;exact⟨by rw[aB C];exact L,by rw[aB C];exact M,s,by rw[aB C];exact P,Q⟩
 have A:i=rs.length:=by have:=(aj.1 j).1;simp at this;omega
 subst A;simp at j;subst j;exact⟨by rw[aC C,show 3*rs.length-xs.length=0 by omega];rfl,by rw[aC C,show 3*rs.length+1-xs.length=1 by omega];rfl,OO,by rw[aC C,show 3*rs.length+2-xs.length=2 by omega];rfl,Rd.nil⟩
end Go.Proofs.YtbghhbpacijmmaaGreat
