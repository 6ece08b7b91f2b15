import Derived.Test.YtbghhbpacijmmaaGreatL09
open Go.Proofs.Tryz
namespace Go.Proofs.YtbghhbpacijmmaaGreat
set_option maxRecDepth 99999
set_option maxHeartbeats 0
set_option linter.defProp false
open Go.RowKit Go.Maps
attribute [local go_sem ↓] Go.wp_at_zero Go.wp_at_succ
open Go.ChangeMaps (setBlock)
variable {w w' w1 W1:World} {X X':Cx} {c c':jf} {R:List (List Int)} {aY bp qb:Nat->Nat} {p t n g k m:Nat} {V V':CV} {cv cv':j7} {ms xs:List Value} {iQ:Int->Prop} {v:Value} {ds rr ch:List Int} {x a:Int} {ps:List (Int×List Int)} {S:Nat->Prop}
structure Th(X:Cx):Prop where
 p:xI X.jg
 s:xI X.mv.b
 v:xI X.mv.a
 c:∀c∈X.dd,xI c.q
def Cx.DI(X:Cx):List (Int×List Int):=X.iE.map λz=>(z.1,SZ z.2)
def Cx.O9(X:Cx):X.DI=(((X.dd.flatMap λc=>c.q.F)++X.jg.F)++X.mv.b.F)++X.mv.a.F:=by unfold Cx.DI Cx.iE Qn.F;simp[List.map_flatMap]
theorem AB(l:List jf)(h:∀c∈l,xI c.q):(l.flatMap λc=>c.q.F).length<=100*l.length:=by
 induction l with
 |nil=>simp
 |cons c l i=>rw[dP,aO,df];have y:=i λd j=>h d (mY j);have A:=Qn.sY c.q;have D:=(h c aq).n;omega
def qX.base{base B:Nat}(h:qX B w v ps xs)(j:base<=B):qX base w v ps xs:=
 ⟨gL h.gZ λb d=>aF j (h.gZ.lt b d).1,λi z A=>by
  obtain⟨D,u,F,y⟩:=h.f i z A
  exact⟨D,u,F,gL y λb d=>aF j (y.lt b d).1⟩,h.ap⟩
theorem Tx(h:iN w aY t p qb X V)(bo:100<=t)(hr:X.res.length<=1000000000)(h8:X.dd.length<=8)(hO:Th X):ib 160 #[O p] w λen w'=>∃v xs,en=gG v/\qX w.heap.size w' v X.DI xs/\iN w' (gN aY w.heap.size 5) t p qb X.jt V/\bz (λb=>Mc t (aY b)) w w':=by
 obtain⟨a4,a8,t0,t1,t2⟩:=fx Tryz.CE;obtain⟨j,b1⟩:=dS (gN aY w.heap.size 5);have bq:Hid (∀b,b<w.heap.size->j b=aY b):=λb P=>by rw[<-b1];exact fz _ _ _ _ P
 have y:Hid (∀b,w.heap.size<=b->j b=5):=λb P=>by rw[<-b1];exact ig _ _ _ _ P
 rw[b1];have HS:=fu (yx h hr h8);have H1:Hid (∀W,Bl w W->iN W j t p qb X V):=λW hW=>h.bl hW bq;obtain⟨cs,A,H8,HO⟩:=ju h.r.pd bo h8 hO;have lp:=h.B;unfold ptr at HS;clear h hr h8 hO bo b1;go_enter func160,ntmps160;go_wp2_with(go_at_call 192;refine HS.L ?_;rintro e w1⟨v,rfl,ho,ad⟩;obtain⟨a,cap,rfl⟩:=ja ho;obtain⟨HC,D⟩:=fl ho ad;clear HS ad ho);go_loopw[3,9](λd i wr=>∃k:Nat,k<=X.dd.length/\i=I k/\(∃xs,Hid (qX w1.heap.size wr d ((X.dd.take k).flatMap λc=>c.q.F) xs))/\Hid (iN wr j t p qb (X.tP ((X.dd.take k).map jf.gH)) V)/\Hid (bz (λb=>Mc t (j b)) w1 wr)) λ_ i _=>X.dd.length-(Go.RowKit.intOf i).toNat
 case atStart=>exact⟨0,jd,rfl,⟨[],qX.nil _ _⟩,by unfold Hid;rw[eE,eT,Cx.JQ];exact H1 w1 D,sQ⟩
 obtain⟨k,hk,rfl,⟨xs,HP⟩,HK,HW⟩:=hrel;by_cases iV:k<X.dd.length
 .have ei:(k:Int)<(X.dd.length:Int):=C;obtain⟨g,ej,ct⟩:=lL HC C;simp at ct;obtain⟨rfl,rfl⟩:=ct;have Z:=HC.cellAt k C;rw[aK,ah iV]at Z;have bW:=(HC.lt g rfl);have cx:¬Mc t (j g):=by rw[y.o g bW.1];unfold Mc;have:=A.o;omega
  have k1:=(HW.cell bW.2 cx).H Z;simp only[bG]at k1;have ek:=af bW.2 HW.size;have ac:X.dd[k]∈X.dd:=aL iV;have ag:X.dd[k].gH∉(X.dd.take k).map jf.gH:=λhm=>by obtain⟨d,hd,he⟩:=aD.1 hm;obtain⟨i,hi,rfl⟩:=aV.1 hd;rw[bH]at hi;rw[dM]at he;have:=dE.1 cs.gH i k C iV C;omega
  have HQ:=fu (L5 HK (X.By ac _ ag) (HO.c _ ac));rw[<-Cx.KY X cs.o ac]at HQ;have bX:(X.dd.take (k+1))=X.dd.take k++[X.dd[k]]:=aM iV;have e2:Hid ((X.dd.take (k+1)).map jf.gH=(X.dd.take k).map jf.gH++[X.dd[k].gH]):=by unfold Hid;rw[bX,aZ];rfl
  have c0:Hid (((X.dd.take (k+1)).flatMap λc=>c.q.F)=((X.dd.take k).flatMap λc=>c.q.F)++X.dd[k].q.F):=by unfold Hid;rw[bX,eZ];simp
  have ai:=AB (X.dd.take k) λd hd=>HO.c d (cQ hd);have b2:=Qn.sY X.dd[k].q;have c4:=(HO.c _ ac).n;rw[bH]at ai;rw[<-e2.o]at HQ;obtain⟨lk,cP⟩:=HK.r.a _ (X.By ac _ ag);have lq:=cP.lt;have cS:k<X.dd.length/\True:=⟨iV,trivial⟩;clear Z cx ag bX cP;obtain⟨q,cV⟩:=dS (qb X.dd[k].gH);rw[cV]at HQ k1 lq;clear cV;obtain⟨ps,d0⟩:=dS ((X.dd.take k).flatMap λc=>c.q.F);obtain⟨qs,d1⟩:=dS (X.dd[k].q.F);rw[d0]at HP c0 ai;rw[d1]at HQ c0 b2;clear d0 d1;have bs:=fu cS;clear cS;have el:X.dd.length<=8:=H8.o;have e3:Hid (ps.length+qs.length<=maxLen):=by have:=H8.o;unfold Hid maxLen;omega
  have e4:Hid ((ps.length+qs.length)*32<=140737488355328):=by have:=H8.o;unfold Hid;omega
  clear ai b2 c4 ac;go_wp2_with fail;refine HQ.L ?_;rintro en w2⟨v2,ys,rfl,c8,d2,b3⟩;have d3:=b3.size;have ak:=fu (HP.only b3 λb P _ e=>by rw[y.o b (aF D.lt P)]at e;unfold Mc at e;have:=A.o;omega);obtain⟨a2,c2,rfl⟩:=ja c8.gZ;obtain⟨b4,d4,d5,d6⟩:=ju c8 d2 b3 HP.low;obtain⟨a1,c1,e5⟩:=ja HP.gZ;have c9:=fu (aF HW.size d3);clear c8 d2 b3 HQ HK HP;subst e5;go_wp2_with(at_builtin;refine mZ _ rfl _ _ 176 rfl w1.heap.size 179 a4 _ 2 32 underlying176 a8 t0 t1 t2 rfl au _ ps.length xs rfl ak.gZ _ qs.length wr.heap.size ys rfl b4.gZ b4.one e3 e4 c9 ?_);intro v3 w3 a0 b5 _;have d7:=fu (ak.app (B:=wr.heap.size) d6 b4 HW.size a0 b5);rw[<-c0.o]at d7;have e6:=fu (d4.only b5 (bp:=j) (λb _ e=>by rw[y.o b (aF D.lt (ak.gZ.lt b e).1)];have:=A.o;omega) gK);have e7:Hid (bz (λb=>Mc t (j b)) w1 w3):=(HW.H d5).andThen b5 λb P e=>by have:=(ak.gZ.lt b e).1;omega
  obtain⟨a3,c3,rfl⟩:=ja a0;clear a0 b5 ak b4 d4 d5;go_wp2;go_roundw
  case rel=>exact⟨k+1,gI bs.1,gX,⟨_,d7⟩,e6,e7⟩
  have:=bs.1;simp[Go.RowKit.intOf];omega
 have e8:k=X.dd.length:=C;subst e8;have bv:X.tP ((X.dd.take X.dd.length).map jf.gH)={X with dd:=X.dd.map jf.qU}:=Cx.KI X _ λc hc=>by rw[bZ];exact aD.2 ⟨c,hc,rfl⟩
 rw[bZ]at HP;rw[bv]at HK;have d8:=AB X.dd HO.c;have ai:=Qn.sY X.jg;have b2:=Qn.sY X.mv.b;have c4:=Qn.sY X.mv.a;have e9:=HO.p.n;have ea:=HO.s.n;have eb:=HO.v.n;have hE:=fu X.O9;obtain⟨p0,d9⟩:=dS (X.dd.flatMap λc=>c.q.F);rw[d9]at HP hE d8;have ad:Hid ((p0.length+X.jg.F.length)*32<=140737488355328/\p0.length+X.jg.F.length<=maxLen):=by have:=H8.o;unfold Hid maxLen;omega
 have ca:Hid ((p0.length+X.jg.F.length+X.mv.b.F.length)*32<=140737488355328/\p0.length+X.jg.F.length+X.mv.b.F.length<=maxLen):=by have:=H8.o;unfold Hid maxLen;omega
 have b6:Hid ((p0.length+X.jg.F.length+X.mv.b.F.length+X.mv.a.F.length)*32<=140737488355328/\p0.length+X.jg.F.length+X.mv.b.F.length+X.mv.a.F.length<=maxLen):=by have:=H8.o;unfold Hid maxLen;omega
 clear d8 ai b2 c4 e9 ea eb bv d9;obtain⟨em,da⟩:=fl HW.size (Oo HK HO.p);have ep:=HK.B;obtain⟨eq,er,db⟩:=ja HP.gZ;subst db;go_wp2_with fail;refine da.L ?_;rintro en es⟨v5,ys5,rfl,cb,dc,b7⟩;have dg:=b7.size;have Q:=fu (HP.only b7 λb P _ e=>by rw[y.o b (aF D.lt P)]at e;unfold Mc at e;have:=A.o;omega);obtain⟨a5,c5,rfl⟩:=ja cb.gZ;obtain⟨a9,bw,bA⟩:=gV cb dc b7;obtain⟨cc,b8⟩:=fl HP.low (aF HW.size dg);clear cb dc b7 da HK HP;go_wp2_with(at_builtin;refine mZ _ rfl _ _ 176 rfl w1.heap.size 179 a4 _ 2 32 underlying176 a8 t0 t1 t2 rfl au _ (p0.length) xs rfl Q.gZ _ (X.jg.F.length) wr.heap.size ys5 rfl a9.gZ a9.one ad.2 ad.1 b8 ?_);intro eu cd F b9 _;have al:=fu (Q.app (B:=wr.heap.size) cc a9 HW.size (F) b9);have ce:=fu (bw.only b9 (bp:=j) (λb _ e=>by rw[y.o b (aF D.lt (Q.gZ.lt b e).1)];have:=A.o;omega) gK);have cf:Hid (bz (λb=>Mc t (j b)) w1 cd):=(HW.H bA).andThen b9 λb P e=>by have:=(Q.gZ.lt b e).1;omega
 obtain⟨ba,am⟩:=dS (p0++X.jg.F);have an:p0.length+X.jg.F.length=ba.length:=by rw[<-am,aO]
 rw[am]at al hE;rw[an]at F ca b6;clear am an;obtain⟨ev,ew,rfl⟩:=ja F;have dj:∃bb,bb=xs++ys5:=⟨_,rfl⟩;obtain⟨bb,bB⟩:=dj;rw[<-bB]at al;clear F b9 Q a9 bw bA bB;have dl:=fu (LY ce HO.s);have ex:=ce.B;go_wp2_with fail;refine dl.L ?_;rintro en ez⟨v6,ys6,rfl,cg,dn,bc⟩;have dt:=bc.size;have T:=fu (al.only bc λb P _ e=>by rw[y.o b (aF D.lt P)]at e;unfold Mc at e;have:=A.o;omega);obtain⟨a6,c6,rfl⟩:=ja cg.gZ;obtain⟨aa,bC,bD⟩:=gV cg dn bc;obtain⟨ci,bd⟩:=fl al.low (aF cf.size dt);clear cg dn bc dl ce al;go_wp2_with(at_builtin;refine mZ _ rfl _ _ 176 rfl w1.heap.size 179 a4 _ 2 32 underlying176 a8 t0 t1 t2 rfl au _ ba.length bb rfl T.gZ _ (X.mv.b.F.length) cd.heap.size ys6 rfl aa.gZ aa.one ca.2 ca.1 bd ?_);intro f0 ck L be _;have ap:=fu (T.app (B:=cd.heap.size) ci aa cf.size (L) be);have cl:=fu (bC.only be (bp:=j) (λb _ e=>by rw[y.o b (aF D.lt (T.gZ.lt b e).1)];have:=A.o;omega) gK);have cn:Hid (bz (λb=>Mc t (j b)) w1 ck):=(cf.H bD).andThen be λb P e=>by have:=(T.gZ.lt b e).1;omega
 obtain⟨bg,ar⟩:=dS (ba++X.mv.b.F);have av:ba.length+X.mv.b.F.length=bg.length:=by rw[<-ar,aO]
 rw[ar]at ap hE;rw[av]at L b6;clear ar av;obtain⟨f1,f2,rfl⟩:=ja L;have dv:∃bi,bi=bb++ys6:=⟨_,rfl⟩;obtain⟨bi,bE⟩:=dv;rw[<-bE]at ap;clear L be T aa bC bD bE;have dw:=fu (Mb cl HO.v);have f3:=cl.B;go_wp2_with fail;refine dw.L ?_;rintro en f4⟨v7,ys7,rfl,co,dO,bl⟩;have e0:=bl.size;have Y:=fu (ap.only bl λb P _ e=>by rw[y.o b (aF D.lt P)]at e;unfold Mc at e;have:=A.o;omega);obtain⟨a7,c7,rfl⟩:=ja co.gZ;obtain⟨ab,bR,bT⟩:=gV co dO bl;obtain⟨cp,bm⟩:=fl ap.low (aF cn.size e0);clear co dO bl dw cl ap;go_wp2_with(at_builtin;refine mZ _ rfl _ _ 176 rfl w1.heap.size 179 a4 _ 2 32 underlying176 a8 t0 t1 t2 rfl au _ bg.length bi rfl Y.gZ _ (X.mv.a.F.length) ck.heap.size ys7 rfl ab.gZ ab.one b6.2 b6.1 bm ?_);intro f5 ec M bn _;have cq:=fu (Y.app (B:=ck.heap.size) cp ab cn.size (M) bn);have ee:=fu (bR.only bn (bp:=j) (λb _ e=>by rw[y.o b (aF D.lt (Y.gZ.lt b e).1)];have:=A.o;omega) gK);have ef:Hid (bz (λb=>Mc t (j b)) w1 ec):=(cn.H bT).andThen bn λb P e=>by have:=(Y.gZ.lt b e).1;omega
 obtain⟨eg,aw⟩:=dS (bg++X.mv.a.F);have b0:bg.length+X.mv.a.F.length=eg.length:=by rw[<-aw,aO]
 rw[aw]at cq hE;rw[b0]at M;clear aw b0;obtain⟨f6,f7,rfl⟩:=ja M;have e1:∃cr,cr=bi++ys7:=⟨_,rfl⟩;obtain⟨cr,bV⟩:=e1;rw[<-bV]at cq;clear M bn Y ab bR bT bV;go_wp2;go_ret;refine⟨_,cr,rfl,?_,ee,?_⟩
 .rw[hE.o];exact cq.base D.lt
 exact(bz.E D).andThen ef λb P e=>by rwa[bq.o b P]at e
theorem OF(Q:World->Prop)(h:ib 97 #[O p] w λd w'=>d=gS/\Q w'):ib 57 #[O p] w λd w'=>d=gS/\Q w':=by
 have H:=fu h;clear h;go_enter func57,ntmps57;go_wp2_with fail;refine gF H λw' i=>?_;have j:=fu i;clear H i;go_wp2;go_end0;exact⟨rfl,j⟩
theorem AY(h:iN w aY t p qb X V)(y:X.dd.length<=8)(A:∀c∈X.dd,c.q.nodes.length<=100):ib 24 #[O p] w λi w'=>∃a cap,i=gG (dk a X.jl.length cap)/\w'.ownsRow w.heap.size 3 1 (dk a X.jl.length cap) X.jl.length (X.jl.map λ(n:Nat)=>I (n:Int))/\Bl w w':=by
 have H:=fu (Ei h y A);clear h;go_enter func24,ntmps24;go_wp2_with fail;refine H.L ?_;rintro i w'⟨v,rfl,d,j⟩;obtain⟨a,cap,rfl⟩:=ja d;have D:=mF d j;clear H d j;go_wp2;go_ret;exact⟨a,cap,rfl,D⟩
theorem QZ(h:iN w aY t p qb X V)(d:100<=t)(A:X.res.length<=1000000000)(D:X.dd.length<=8)(F:Th X):ib 99 #[O p] w λj w'=>∃a cap xs,j=gG (dk a X.DI.length cap)/\qX w.heap.size w' (dk a X.DI.length cap) X.DI xs/\iN w' (gN aY w.heap.size 5) t p qb X.jt V/\bz (λb=>Mc t (aY b)) w w':=by
 have H:=fu (Tx h d A D F);clear h;go_enter func99,ntmps99;go_wp2_with fail;refine H.L ?_;rintro j w'⟨v,xs,rfl,i,y⟩;obtain⟨a,cap,rfl⟩:=ja i.gZ;have L:=mF i y;clear H i y;go_wp2;go_ret;exact⟨a,cap,xs,rfl,L⟩
def Cx.oU(X:Cx)(i:∀d∈X.dd,d.gH<X.res.length)(h:c.gH=X.res.length)(y:c'.gH=X.res.length):(X.iW c).put c'=X.iW c':=by
 unfold Cx.iW Cx.put;simp only[aZ,bj];congr 2
 .conv=>rhs;rw[<-eI X.dd]
  exact bf λd j=>by rw[az (gI (i d j))];rfl
 simp_all
def iN.QI(h:iN w aY t p qb X V)(d:c∈X.dd)(a):iN (w.setCell (U (qb c.gH) 3) (I a)) aY t p qb (X.put {c with iS:=a}) V/\bz (λb=>Mc t (aY b)) w (w.setCell (U (qb c.gH) 3) (I a)):=by obtain⟨cv,k⟩:=h.r.a c d;have i:bz _ w (w.setCell (U (qb c.gH) 3) (I a)):=(bz.refl (λb=>b=qb c.gH) w).setCell (U (qb c.gH) 3) (.inl rfl) _;exact h.RY d k i (k.B i (iU 3 _ w _ k.hq) rfl k.gZ k.iR k.e k.q) rfl rfl
def iN.VN(h:iN w aY t p qb X V)(d:c∈X.dd)(a):iN (w.setCell (U (qb c.gH) 4) (I a)) aY t p qb (X.put {c with unit:=a}) V/\bz (λb=>Mc t (aY b)) w (w.setCell (U (qb c.gH) 4) (I a)):=by obtain⟨cv,k⟩:=h.r.a c d;have i:bz _ w (w.setCell (U (qb c.gH) 4) (I a)):=(bz.refl (λb=>b=qb c.gH) w).setCell (U (qb c.gH) 4) (.inl rfl) _;exact h.RY d k i (k.B i (iU 4 _ w _ k.hq) rfl k.gZ k.iR k.e k.q) rfl rfl
def iN.T7(h:iN w aY t p qb X V)(d:c∈X.dd)(a):iN (w.setCell (U (qb c.gH) 5) (I a)) aY t p qb (X.put {c with gZ:={c.gZ with kd:=a}}) V/\bz (λb=>Mc t (aY b)) w (w.setCell (U (qb c.gH) 5) (I a)):=by obtain⟨cv,k⟩:=h.r.a c d;have i:bz _ w (w.setCell (U (qb c.gH) 5) (I a)):=(bz.refl (λb=>b=qb c.gH) w).setCell (U (qb c.gH) 5) (.inl rfl) _;exact h.RY d k i (k.B i (iU 5 _ w _ k.hq) rfl k.gZ k.iR k.e k.q) rfl rfl
def iN.Vu(h:iN w aY t p qb X V)(d:c∈X.dd)(val)(v)(j:Rd w aY (t+3) 5 v (val.map B8)):iN (w.setCell (U (qb c.gH) 8) v) aY t p qb (X.put {c with gZ:={c.gZ with val:=val}}) V/\bz (λb=>Mc t (aY b)) w (w.setCell (U (qb c.gH) 8) v):=by obtain⟨cv,k⟩:=h.r.a c d;have i:bz _ w (w.setCell (U (qb c.gH) 8) v):=(bz.refl (λb=>b=qb c.gH) w).setCell (U (qb c.gH) 8) (.inl rfl) _;exact h.RY d k i (k.B (cv':={cv with ov:=v}) i (iU 8 _ w _ k.hq) rfl j k.iR k.e k.q) rfl rfl
def Cl.gH(h:Cl w aY t p qb X)(d:c∈X.dd):w.cell? (U (qb c.gH) 1)=some (I c.gH)/\qb c.gH<w.heap.size:=by obtain⟨V,h⟩:=h;obtain⟨cv,k⟩:=h.r.a c d;exact⟨k.cellAt 1 rfl,k.lt⟩
def nJ(qb)(n q):oK qb n q n=q:=by unfold oK;simp
def qc(h:iN w aY t p qb X V)(k)(d:X.dd.length=8):Calls prog 86 #[O p,I k] w λe w'=>e=gG (.tuple #[.pointer none,I 7])/\w'=w:=by
 have i:=h.cellAt 8 rfl;have j:=NK w V.bm V.clk _ h.r.mp;clear h;go_wp2;go_ret2;exact⟨rfl,rfl⟩
def Cx.Cn{i:List Int}{j y:Int}{A:Ct}(h:∃d∈X.dd,d.gH=c.gH):∃c'∈(X.qF c i j y A).dd,c'.gH=c.gH:=by obtain⟨d,D,e⟩:=h;refine⟨_,aD.2 ⟨d,D,rfl⟩,?_⟩;simp_all
def Cx.Fs(h:c∈X.dd):∃c'∈(X.dO c).dd,c'.gH=c.gH:=by
 unfold Cx.dO;split
 .exact Cx.Cn ⟨c,h,rfl⟩
 split
 .exact Cx.Cn ⟨c,h,rfl⟩
 split
 .exact Cx.Cn ⟨c,h,rfl⟩
 exact⟨c,h,rfl⟩
def Cl.RG(h:Cl w aY t p qb X')(d:∃c'∈X'.dd,c'.gH=c.gH):w.cell? (U (qb c.gH) 1)=some (I c.gH)/\qb c.gH<w.heap.size:=by obtain⟨c',i,j⟩:=d;have:=h.gH i;simp_all
theorem Pz(h:iN w aY t p qb X V)(D:100<=t)(A:mD X)(h8:X.dd.length<8)(hr:X.res.length<=1000000000)(a)(hA:X.F a):ib 46 #[O p,I a] w λF w'=>F=gG (.tuple #[I X.res.length,I 0])/\∃q,w.heap.size<=q/\CS w aY t p (oK qb X.res.length q) (X.yU a) w':=by
 have HL:=fu λw=>kM X.n X.m X.vo X.ce a w;rw[A.n9 hA]at HL;unfold I4 at HL;obtain⟨c1,c2,c0,c3⟩:=h.Z 1 2 0 3 rfl;have lp:=h.B;have HB:Hid (∀W,Bl w W->_):=λW hW=>sS (h.bl hW (bp:=aY) gK) h8 hr 2;have HD:Hid (∀w1 w2 q d,Bl w w1->w1.heap.size<=q->(∀b,b<w1.heap.size->d b=aY b)->Cl w2 d t p (oK qb X.res.length q) (X.iW (X.iy 2))->bz (λb=>Mc t (aY b)) w1 w2->(∃v,w2.cell? (U q 3)=some v)/\w2.frozen? (U q 3)=false/\q<w2.heap.size/\ib 89 #[O p,O q] (w2.setCell (U q 3) (I a)) λF w'=>F=gS/\(w'.cell? (U q 1)=some (I X.res.length)/\q<w'.heap.size)/\CS w aY t p (oK qb X.res.length q) (X.yU a) w'):=λw1 w2 q d hb hq ht hc ho=>by
  obtain⟨V2,hk⟩:=hc;have hm:X.iy 2∈(X.iW (X.iy 2)).dd:=by simp[Cx.iW]
  have j:oK qb X.res.length q (X.iy 2).gH=q:=nJ _ _ _;obtain⟨cv,kk⟩:=hk.r.a _ hm;rw[j]at kk;obtain⟨H,oA⟩:=hk.QI hm a;rw[j,Cx.oU X h.r.pd.lt rfl rfl]at H;rw[j]at oA;refine⟨⟨_,kk.cellAt 3 rfl⟩,kk.F 3,kk.lt,?_⟩;have L:({X.iy 2 with iS:=a}:jf)∈(X.iW {X.iy 2 with iS:=a}).dd:=by simp[Cx.iW]
  have:=NJ H D ⟨A.mI,A.ll,A.ne,A.a0,A.a1⟩ L hA rfl;rw[show oK qb X.res.length q ({X.iy 2 with iS:=a}:jf).gH=q from nJ _ _ _]at this;refine gF this λw' hs=>?_;refine⟨rfl,?_,CS.xG hb gK (CS.tF ho ht (CS.iz oA hs))⟩;obtain⟨tag3,_,a0,_⟩:=hs;have:=a0.RG (Cx.Fs L);rwa[show oK qb X.res.length q ({X.iy 2 with iS:=a}:jf).gH=q from nJ _ _ _]at this
 clear h;go_enter func46,ntmps46;go_wp2_with fail;refine gF (HL _) λw1 i=>?_;have M:=fu i;have a3:=af lp i.lt;have HG:=fu (HB w1 i);clear i c0 c1 c2 c3 HL HB;go_wp2_with fail;refine HG.L ?_;rintro F w2⟨q,rfl,y,d,P,Q,T⟩;obtain⟨⟨v3,e3⟩,g3,lq,hD⟩:=HD w1 w2 q d M y P Q T;obtain⟨Y,a1⟩:=fl hD (aF M.lt y);clear hD HD HG Q T P y;go_wp2_with fail;refine Y.L ?_;rintro F w4⟨rfl,⟨e1,a4⟩,Z⟩;have a2:=fu Z;clear Z Y;go_wp2;go_ret2;exact⟨rfl,q,a1,a2⟩
theorem Q8(h:iN w aY t p qb X V)(F:100<=t)(A:mD X)(h8:X.dd.length<8)(hr:X.res.length<=1000000000)(a)(hA:X.F a):ib 47 #[O p,I a] w λH w'=>H=gG (.tuple #[I X.res.length,I 0])/\∃q,w.heap.size<=q/\CS w aY t p (oK qb X.res.length q) (X.fill a) w':=by
 have HL:=fu λw=>kM X.n X.m X.vo X.ce a w;rw[A.n9 hA]at HL;unfold I4 at HL;obtain⟨c1,c2,c0,c3⟩:=h.Z 1 2 0 3 rfl;have lp:=h.B;have HB:Hid (∀W,Bl w W->_):=λW hW=>sS (h.bl hW (bp:=aY) gK) h8 hr 3;have HD:Hid (∀w1 w2 q d,Bl w w1->w1.heap.size<=q->(∀b,b<w1.heap.size->d b=aY b)->Cl w2 d t p (oK qb X.res.length q) (X.iW (X.iy 3))->bz (λb=>Mc t (aY b)) w1 w2->(∃v,w2.cell? (U q 3)=some v)/\w2.frozen? (U q 3)=false/\(∃v,w2.cell? (U q 5)=some v)/\w2.frozen? (U q 5)=false/\q<w2.heap.size/\ib 89 #[O p,O q] ((w2.setCell (U q 5) (I 9)).setCell (U q 3) (I a)) λH w'=>H=gS/\(w'.cell? (U q 1)=some (I X.res.length)/\q<w'.heap.size)/\CS w aY t p (oK qb X.res.length q) (X.fill a) w'):=λw1 w2 q d hb hq ht hc ho=>by
  obtain⟨V2,hk⟩:=hc;have hm:X.iy 3∈(X.iW (X.iy 3)).dd:=by simp[Cx.iW]
  have j:oK qb X.res.length q (X.iy 3).gH=q:=nJ _ _ _;obtain⟨cv,D⟩:=hk.r.a _ hm;rw[j]at D;obtain⟨L,M⟩:=hk.T7 hm 9;rw[j,Cx.oU X h.r.pd.lt rfl rfl]at L;rw[j]at M;have a4:({X.iy 3 with gZ:={(X.iy 3).gZ with kd:=9}}:jf)∈(X.iW {X.iy 3 with gZ:={(X.iy 3).gZ with kd:=9}}).dd:=by simp[Cx.iW]
  obtain⟨P,Q⟩:=L.QI a4 a;rw[show oK qb X.res.length q ({X.iy 3 with gZ:={(X.iy 3).gZ with kd:=9}}:jf).gH=q from nJ _ _ _,Cx.oU X h.r.pd.lt rfl rfl]at P;rw[show oK qb X.res.length q ({X.iy 3 with gZ:={(X.iy 3).gZ with kd:=9}}:jf).gH=q from nJ _ _ _]at Q;have oA:=M.H Q;refine⟨⟨_,D.cellAt 3 rfl⟩,D.F 3,⟨_,D.cellAt 5 rfl⟩,D.F 5,D.lt,?_⟩;have T:({X.iy 3 with iS:=a,gZ:={(X.iy 3).gZ with kd:=9}}:jf)∈(X.iW {X.iy 3 with iS:=a,gZ:={(X.iy 3).gZ with kd:=9}}).dd:=by simp[Cx.iW]
  have:=CJ P F ⟨A.mI,A.ll,A.ne,A.a0,A.a1⟩ T hA (.inr rfl);rw[show oK qb X.res.length q ({X.iy 3 with iS:=a,gZ:={(X.iy 3).gZ with kd:=9}}:jf).gH=q from nJ _ _ _]at this;refine gF this λw' hs=>?_;refine⟨rfl,?_,CS.xG hb gK (CS.tF ho ht (CS.iz oA hs))⟩;obtain⟨tag3,_,a5,_⟩:=hs;have:=a5.RG (Cx.Fs T);rwa[show oK qb X.res.length q ({X.iy 3 with iS:=a,gZ:={(X.iy 3).gZ with kd:=9}}:jf).gH=q from nJ _ _ _]at this
 clear h;go_enter func47,ntmps47;go_wp2_with fail;refine gF (HL _) λw1 i=>?_;have Y:=fu i;have a8:=af lp i.lt;have HG:=fu (HB w1 i);clear i c0 c1 c2 c3 HL HB;go_wp2_with fail;refine HG.L ?_;rintro H w2⟨q,rfl,y,d,Z,a0,a1⟩;obtain⟨⟨v3,e3⟩,g3,⟨v5,e5⟩,g5,lq,hD⟩:=HD w1 w2 q d Y y Z a0 a1;obtain⟨a2,a6⟩:=fl hD (aF Y.lt y);clear hD HD HG a0 a1 Z y;go_wp2_with fail;refine a2.L ?_;rintro H w4⟨rfl,⟨e1,a9⟩,a3⟩;have a7:=fu a3;clear a3 a2;go_wp2;go_ret2;exact⟨rfl,q,a6,a7⟩
theorem Pa(h:iN w aY t p qb X V)(H:100<=t)(F:mD X)(h8:X.dd.length<8)(hr:X.res.length<=1000000000)(a:Int)(h0:0<=a)(h1:a<=X.n*X.ce):ib 48 #[O p,I a] w λL w'=>L=gG (.tuple #[I X.res.length,I 0])/\∃q,w.heap.size<=q/\CS w aY t p (oK qb X.res.length q) (X.rV a) w':=by
 obtain⟨b1,b2,_,_,_,_,b3,b4⟩:=F.B;have a5:=qG (a:=X.n) (d:=X.ce) C C C C;have iV:¬a<0:=C;have a1:Hid (¬(X.n:Int)*X.ce<a):=lQ;obtain⟨c0,c3⟩:=h.M 0 3 rfl;have lp:=h.B;have HB:Hid (∀W,Bl w W->_):=λW hW=>sS (h.bl hW (bp:=aY) gK) h8 hr 4;have HD:Hid (∀w1 w2 q i,Bl w w1->w1.heap.size<=q->(∀b,b<w1.heap.size->i b=aY b)->Cl w2 i t p (oK qb X.res.length q) (X.iW (X.iy 4))->bz (λb=>Mc t (aY b)) w1 w2->(∃v,w2.cell? (U q 3)=some v)/\w2.frozen? (U q 3)=false/\q<w2.heap.size/\ib 89 #[O p,O q] (w2.setCell (U q 3) (I a)) λL w'=>L=gS/\(w'.cell? (U q 1)=some (I X.res.length)/\q<w'.heap.size)/\CS w aY t p (oK qb X.res.length q) (X.rV a) w'):=λw1 w2 q i hb hq ht hc ho=>by
  obtain⟨V2,hk⟩:=hc;have hm:X.iy 4∈(X.iW (X.iy 4)).dd:=by simp[Cx.iW]
  have A:oK qb X.res.length q (X.iy 4).gH=q:=nJ _ _ _;obtain⟨cv,kk⟩:=hk.r.a _ hm;rw[A]at kk;obtain⟨M,oA⟩:=hk.QI hm a;rw[A,Cx.oU X h.r.pd.lt rfl rfl]at M;rw[A]at oA;refine⟨⟨_,kk.cellAt 3 rfl⟩,kk.F 3,kk.lt,?_⟩;have P:({X.iy 4 with iS:=a}:jf)∈(X.iW {X.iy 4 with iS:=a}).dd:=by simp[Cx.iW]
  have:=L9 M H ⟨F.mI,F.ll,F.ne,F.a0,F.a1⟩ P rfl;rw[show oK qb X.res.length q ({X.iy 4 with iS:=a}:jf).gH=q from nJ _ _ _]at this;refine gF this λw' hs=>?_;refine⟨rfl,?_,CS.xG hb gK (CS.tF ho ht (CS.iz oA hs))⟩;obtain⟨tag3,_,a2,_⟩:=hs;have:=a2.RG (Cx.Fs P);rwa[show oK qb X.res.length q ({X.iy 4 with iS:=a}:jf).gH=q from nJ _ _ _]at this
 clear h;go_enter func48,ntmps48;go_upto_region 1 with fail;go_cut[24] λy wx=>y=.bool false/\Hid (Bl w wx)
 case first=>
  go_quiet(fail);all_goals(go_wp2_with fail;go_meet)
  exact⟨by simp;have:=a1.o;omega,(Bl.refl w).drewN _⟩
 case rest=>obtain⟨rfl,j⟩:=hcut;obtain⟨w1,rfl⟩:∃w1,w1=wc:=⟨_,rfl⟩;have HG:=fu (HB w1 j);have a6:=af lp j.lt;clear c0 c3 HB;go_wp2_with fail;refine HG.L ?_;rintro L w2⟨q,rfl,D,i,Q,T,Y⟩;obtain⟨⟨v3,e3⟩,g3,lq,hD⟩:=HD w1 w2 q i j D Q T Y;obtain⟨Z,a3⟩:=fl hD (aF j.lt D);clear hD HD HG T Y Q D;go_wp2_with fail;refine Z.L ?_;rintro L w4⟨rfl,⟨e1,a7⟩,a0⟩;have a4:=fu a0;clear a0 Z;go_wp2;go_ret2;exact⟨rfl,q,a3,a4⟩
def GR(w)(bm clk)(l)(A:w.heap[bm]?=some (.map (gR l) clk))(d:(l.map (·.k)).Nodup)(e)(i:e∈l):(Instr.lookup 98 (.map (some bm)) (I e.k) true).run prog w=.ok (.tuple #[e.v,.bool true]) w:=by
 obtain⟨j,y,D,F,H⟩:=rE l e.k ⟨e,i,rfl⟩;have:y=e:=Sc d (aR D) i F;subst this;have L:=fa (w:=w) underlying3 H;have M:=eW (P:=prog) (w:=w) (k:= I y.k) underlying3 sj (gR l).isEmpty 9999;simp[Instr.lookup,Sem.run_bind,aI A,M,L]
def iN.oH(h:iN w aY t p qb X V)(d:c∈X.dd):(Instr.lookup 98 (.map (some V.bm)) (I (c.gH:Int)) true).run prog w=.ok (.tuple #[O (qb c.gH),.bool true]) w:=
 GR w V.bm V.clk _ h.r.mp (h.r.Oe.imp λe=>C) (jV qb V.bo c) (aD.2 ⟨c,d,rfl⟩)
theorem Cx.DY(h:sL X)(i:c∈X.dd):X.dd.find? (λd=>d.gH==c.gH)=some c:=by
 cases e:X.dd.find? _ with
 |none=>have:=bU.1 e c i;simp_all
 |some d=>have j:=cR e;simp at j;rw[qt h.gH (bu e) i j]
theorem Qf(h:iN w aY t p qb X V)(A:100<=t)(j:mD X)(y:c∈X.dd)(L:Cx.lV c=true)(hl:c.q.nodes.length<=100)(a)(T:X.F a):ib 52 #[O p,I c.gH,I a] w λM w'=>M=gG (I 0)/\CS w aY t p qb (X.jv c.gH a) w':=by
 have d:c.kind=1:=by unfold Cx.lV at L;simp at L;exact L.1
 have hE:X.jv c.gH a=(X.put {c with iS:=a}).dO {c with iS:=a}:=by
  unfold Cx.jv;rw[Cx.DY h.r.pd y];have:X.qB a=true:=by unfold Cx.qB;simp;exact T
  simp only[this,if_true]
 rw[hE];have P:=fu λw=>kM X.n X.m X.vo X.ce a w;rw[j.n9 T]at P;unfold I4 at P;obtain⟨cv,Y⟩:=h.r.a c y;have Q:=fu (pU Y hl);rw[L]at Q;have D:=h.oH y;obtain⟨c0,c1,c2⟩:=h.Iq 0 1 2 rfl;obtain⟨c3,c8⟩:=h.M 3 8 rfl;have lp:=h.B;have lq:=Y.lt;have Z:Hid (∀W,Bl w W->(∃v,W.cell? (U (qb c.gH) 3)=some v)/\W.frozen? (U (qb c.gH) 3)=false/\ib 89 #[O p,O (qb c.gH)] (W.setCell (U (qb c.gH) 3) (I a)) λM w'=>M=gS/\CS w aY t p qb ((X.put {c with iS:=a}).dO {c with iS:=a}) w'):=λW hW=>by have F:=h.bl hW (bp:=aY) gK;obtain⟨a3,k2⟩:=F.r.a c y;obtain⟨a0,oA⟩:=F.QI y a;refine⟨⟨_,k2.cellAt 3 rfl⟩,k2.F 3,?_⟩;refine gF (CJ a0 A ⟨j.mI,j.ll,j.ne,j.a0,j.a1⟩ (c:={c with iS:=a}) (Cx.nE y rfl) T (.inl d)) λw' hs=>?_;exact⟨rfl,CS.F hW (CS.iz oA hs)⟩
 clear h Y hE;obtain⟨q,H⟩:=dS (qb c.gH);rw[H]at Q D lq Z;clear H;go_enter func52,ntmps52;go_wp2_with(first|(go_at_call 94;refine Q.L ?_;rintro M w1⟨rfl,rfl⟩));refine gF (P _) λw2 i=>?_;obtain⟨⟨v3,e3⟩,g3,hD⟩:=Z w2 i;have a1:=fu hD;have a4:=af lq i.lt;clear i c0 c1 c2 c3 c8 D Q P hD Z;go_wp2_with(go_at_call 89;refine ix a1 λw4 a2=>?_);go_ret;exact⟨rfl,a2⟩
theorem Ej(h:iN w aY t p qb X V)(hx:mD X)(A:c∈X.dd)(hw:Cx.lV c=true)(hl:c.q.nodes.length<=100)(a)(hA:a<0\/(X.n:Int)*X.ce<=a):ib 52 #[O p,I c.gH,I a] w λD w'=>D=gG (I 0)/\CS w aY t p qb (X.jv c.gH a) w':=by
 have T:X.jv c.gH a=X.fin c ⟨7,0,[]⟩:=by
  unfold Cx.jv;rw[Cx.DY h.r.pd A];have:X.qB a=false:=by
   unfold Cx.qB;obtain hA|hA:=hA
   .have:decide (0<=a)=false:=gM;rw[this];rfl
   have:decide (a<X.n*X.ce)=false:=gM;rw[this,Bool.and_false]
  simp[this]
 rw[T];have d:n9 X.n X.m X.vo X.ce a=(0,0,2):=by unfold n9;rw[aE hx.mI,aE hA]
 have F:=fu λw=>kM X.n X.m X.vo X.ce a w;rw[d]at F;unfold I4 at F;obtain⟨cv,L⟩:=h.r.a c A;have H:=fu (pU L hl);rw[hw]at H;have j:=h.oH A;obtain⟨c0,c1,c2⟩:=h.Iq 0 1 2 rfl;obtain⟨c3,c8⟩:=h.M 3 8 rfl;have lp:=h.B;have Y:=L.lt;have M:Hid (∀W,Bl w W->ib 96 #[O p,O (qb c.gH),.agg #[I 7,I 0,OO]] W λD w'=>D=gS/\CS w aY t p qb (X.fin c ⟨7,0,[]⟩) w'):=λW Z=>by refine gF (wq (h.bl Z (bp:=aY) gK) A ⟨7,0,[]⟩ none 0 Rd.nil) λw' hs=>?_;exact⟨rfl,CS.F Z hs⟩
 clear h L T d;obtain⟨q,y⟩:=dS (qb c.gH);rw[y]at H j Y M;clear y;go_enter func52,ntmps52;go_wp2_with(first|(go_at_call 94;refine H.L ?_;rintro D w1⟨rfl,rfl⟩));refine gF (F _) λw2 i=>?_;have P:=fu (M w2 i);have a0:=af Y i.lt;clear i c0 c1 c2 c3 c8 j H F M;go_wp2_with(go_at_call 96;refine ix P λw4 Q=>?_);go_ret;exact⟨rfl,Q⟩
def rI.bs(h:rI w v ds):Bs w v (ds.map B8):=by
 obtain⟨b,o,c',rfl,A,D,F,i⟩:=h;exact .inr ⟨(U b o),c',by rw[ay],λj u y=>by
  rw[aK]at y
  obtain⟨d,H,rfl⟩:=bN.1 y
  rw[mU];exact i j d H⟩
theorem K4(h:iN w aY t p qb X V)(h8:X.dd.length<8)(hr:X.res.length<=1000000000)(v)(val)(h0:1<=val.length)(ac:val.length<=8)(hv:rI w v val)(Y:∀b,v.ownBlock=some b->¬Mc t (aY b)):ib 45 #[O p,v] w λen w'=>en=gG (.tuple #[I X.res.length,I 0])/\∃q,w.heap.size<=q/\CS w aY t p (oK qb X.res.length q) (X.append val) w':=by
 have HB:=fu (sS h h8 hr 1);have lp:=h.B;have i1:¬(val.length:Int)<1:=C;have i8:¬(8:Int)<(val.length:Int):=C;obtain⟨Hv,a7,Z⟩:=gV hv Y h.r.pd.lt;obtain⟨va,vc,a8⟩:=hv.E;subst a8;clear h hv Y;go_enter func45,ntmps45;go_wp2_with fail;refine HB.L ?_;rintro en w2⟨q,rfl,a0,A,a1,a2,F⟩;obtain⟨HC,a3,a9⟩:=gV (nY _ val w2 (Hv.only F λb H e=>a7.o b H e).bs C) a2 F;obtain⟨aa,ab⟩:=fl a1 a0;clear a2 F a1 HB a0;go_wp2_with fail;refine HC.L ?_;rintro en w3⟨v3,rfl,L,i⟩;obtain⟨g3,c3,rfl⟩:=lL i C;obtain⟨V2,a4⟩:=a3.o;have M:=a4.bl L (bp:=gN A w2.heap.size (t+3)) λb H=>fz _ _ _ _ H;have hm:X.iy 1∈(X.iW (X.iy 1)).dd:=by simp[Cx.iW]
 have j:oK qb X.res.length q (X.iy 1).gH=q:=nJ _ _ _;obtain⟨cv,P⟩:=M.r.a _ hm;rw[j]at P;obtain⟨Q,y⟩:=M.T7 hm 8;rw[j,Cx.oU X Z.o rfl rfl]at Q;rw[j]at y;have a5:({X.iy 1 with gZ:={(X.iy 1).gZ with kd:=8}}:jf)∈(X.iW {X.iy 1 with gZ:={(X.iy 1).gZ with kd:=8}}).dd:=by simp[Cx.iW]
 have d:oK qb X.res.length q ({X.iy 1 with gZ:={(X.iy 1).gZ with kd:=8}}:jf).gH=q:=nJ _ _ _;have a6:=Rd.pB (aY:=gN A w2.heap.size (t+3)) (t:=t+3) i λb H=>ig _ _ _ _ (i.lt b H).1;have D:=a6.only y (λb _ e=>by unfold Mc at e;omega) λ_ _ e=>e;obtain⟨T,W⟩:=Q.Vu a5 val _ D;rw[d,Cx.oU X Z.o rfl rfl]at T;rw[d]at W;have hS:CS w aY t p (oK qb X.res.length q) (X.append val) _:=CS.tF a9 aa (CS.xG L (λb H=>fz _ _ _ _ H) (CS.mk T (y.H W)));have HS:=fu hS;obtain⟨e1,e5⟩:=P.M 1 5 rfl;have g5:=P.F 5;have e8:=P.cellAt 8 rfl;have g8:=P.F 8;have lq:=P.lt;clear a4 M hm j P Q y a5 d a6 D T W hS i L HC a3;go_wp2;go_ret2;exact⟨rfl,q,ab,HS⟩
def Cx.J(X:Cx)(u:Int):jf:={X.iy 5 with unit:=u}
def Cx.BL(X:Cx)(u:Int):Cx:=(X.iW (X.J u)).kF (X.J u)
def Cx.Ta(h:∀d∈X.dd,d.gH<X.res.length)(u)(y:X.iO=false)(i:(X.BL u).iO=true):∃c'∈(X.BL u).dd,c'.gH=X.res.length:=by
 have j:∀r,((X.iW (X.J u)).fin (X.J u) r).iO=false:=λr=>by
  have e:((X.iW (X.J u)).fin (X.J u) r).dd=X.dd:=by unfold Cx.fin Cx.iW;simp only;rw[cz,eD.2 λd A=>by have:=h d A;show(d.gH !=X.res.length)=true;simp;omega];simp_all
  unfold Cx.iO Cx.jN at y|-;rw[e];exact y
 unfold Cx.BL Cx.kF at i|-;split at i
 .rename_i D;split at i
  .rw[j]at i;simp at i
  rename_i F;rw[aE D,az F];exact⟨X.J u,by simp[Cx.iW],rfl⟩
 rw[j]at i;simp at i
def Cx.SY(d:mD X)(u):mD (X.BL u):=by
 unfold Cx.BL Cx.kF;split
 .split<;>exact⟨d.mI,d.ll,d.ne,d.a0,d.a1⟩
 exact⟨d.mI,d.ll,d.ne,d.a0,d.a1⟩
def Cx.UB(d:XN X)(u):XN (X.BL u):=by
 unfold Cx.BL Cx.kF;split
 .split<;>exact⟨d.e,d.t⟩
 exact⟨d.e,d.t⟩
def Cx.UX(u)(i:X.dd.length<8)(j:X.res.length<=100000000):(X.BL u).res.length<=1000000000/\(X.BL u).dd.length<=8:=by
 have y:(X.iW (X.J u)).res.length=X.res.length+1:=by simp[Cx.iW]
 have A:(X.iW (X.J u)).dd.length=X.dd.length+1:=by simp[Cx.iW]
 have d:∀r,((X.iW (X.J u)).fin (X.J u) r).res.length<=1000000000/\((X.iW (X.J u)).fin (X.J u) r).dd.length<=8:=λr=>by unfold Cx.fin;refine⟨gM,aF (bF _ _) C⟩
 unfold Cx.BL Cx.kF;split
 .split
  .exact d _
  omega
 exact d _
theorem Kk(h:iN w aY t p qb X V)(a6:100<=t)(Z:mD X)(hn:XN X)(h8:X.dd.length<8)(hr:X.res.length<=100000000)(u)(hu:X.Sy u):ib 49 #[O p,I u] w λA w'=>A=gG (.tuple #[I X.res.length,I 0])/\∃q,w.heap.size<=q/\CS w aY t p (oK qb X.res.length q) (X.change u) w':=by
 have HL:=fu λw=>ts X.n X.m X.vo X.ce u w;rw[Z.yY hu]at HL;unfold M1 at HL;obtain⟨c0,c1,c2,c3⟩:=h.Z 0 1 2 3 rfl;have lp:=h.B;have i:X.change u=if(!X.iO&&(X.BL u).iO)then(X.BL u).jn else X.BL u:=rfl
 have a7:Hid (∀W,Bl w W->_):=λW hW=>mf (h.bl hW (bp:=aY) gK) C C;have HB:Hid (∀W,Bl w W->_):=λW hW=>sS (h.bl hW (bp:=aY) gK) h8 C 5;have HS:Hid (∀w1 w2 q D,Bl w w1->w1.heap.size<=q->(∀b,b<w1.heap.size->D b=aY b)->Cl w2 D t p (oK qb X.res.length q) (X.iW (X.iy 5))->bz (λb=>Mc t (aY b)) w1 w2->(∃v,w2.cell? (U q 4)=some v)/\w2.frozen? (U q 4)=false/\q<w2.heap.size/\ib 92 #[O p,O q] (w2.setCell (U q 4) (I u)) λA w'=>A=gS/\(w'.cell? (U q 1)=some (I X.res.length)/\q<w'.heap.size)/\CS w aY t p (oK qb X.res.length q) (X.BL u) w'):=λw1 w2 q D hb hq ht hc T=>by
  obtain⟨V2,hk⟩:=hc;have hm:X.iy 5∈(X.iW (X.iy 5)).dd:=by simp[Cx.iW]
  have a0:oK qb X.res.length q (X.iy 5).gH=q:=nJ _ _ _;obtain⟨cv,kk⟩:=hk.r.a _ hm;rw[a0]at kk;obtain⟨a1,oA⟩:=hk.VN hm u;rw[a0,Cx.oU X h.r.pd.lt rfl rfl]at a1;rw[a0]at oA;refine⟨⟨_,kk.cellAt 4 rfl⟩,kk.F 4,kk.lt,?_⟩;have a8:X.J u∈(X.iW (X.J u)).dd:=by simp[Cx.iW]
  have a9:oK qb X.res.length q (X.J u).gH=q:=nJ _ _ _;have:=yz (c:=X.J u) a1 ⟨Z.mI,Z.ll,Z.ne,Z.a0,Z.a1⟩ a8 hu;unfold ptr at this;rw[a9]at this;obtain⟨b8,k3⟩:=a1.r.a _ a8;rw[a9]at k3;refine this.L ?_;rintro A w'⟨rfl,hs,y⟩;refine⟨rfl,⟨?_,af k3.lt y.size⟩,CS.xG hb gK (CS.tF T ht (CS.iz oA hs))⟩;rw[y.cell k3.lt (λe=>by have:=k3.tq;omega)];exact k3.cellAt 1 rfl
 have HT:Hid (∀q Y,CS w aY t p (oK qb X.res.length q) (X.BL u) Y->(ib 91 #[O p] Y λA w'=>A=gG (.bool (X.BL u).iO)/\Bl Y w')/\(∀L,Bl Y L->X.iO=false->(X.BL u).iO=true->ib 93 #[O p] L λA w'=>A=gS/\(w'.cell? (U q 1)=some (I X.res.length)/\q<w'.heap.size)/\CS w aY t p (oK qb X.res.length q) (X.BL u).jn w')):=λq Y hs=>by obtain⟨aa,b0,⟨V4,ab⟩,b1⟩:=hs;obtain⟨l1,l2⟩:=Cx.UX u h8 hr;refine⟨mf ab l1 l2,λL d e0 e1=>?_⟩;refine gF (oq (ab.bl d (bp:=aa) gK) a6 (Cx.SY Z u) (Cx.UB hn u)) λw' ac=>?_;refine⟨rfl,?_,CS.tF b1 b0 (CS.xG d gK ac)⟩;obtain⟨b7,_,b2,_⟩:=ac;have:=b2.RG (c:=X.J u) (Cx.Ta h.r.pd.lt u e0 e1);rwa[show oK qb X.res.length q (X.J u).gH=q from nJ _ _ _]at this
 have HE:=fu i;clear h i;go_enter func49,ntmps49;go_wp2_with fail;refine gF (HL _) λw1 M=>?_;have b3:=fu M;have b9:=af lp M.lt;have a2:=fu (a7 w1 M);unfold ptr at a2;clear M c0 c1 c2 c3 HL a7;go_wp2_with fail;refine gF a2 λw2 ad=>?_;have P:=fu (b3.H ad);have b4:=af lp P.lt;have HG:=fu (HB w2 P);clear ad a2 HB;go_wp2_with fail;refine HG.L ?_;rintro A w3⟨q,rfl,a3,tag3,ag,ai,y⟩;obtain⟨⟨v4,e4⟩,g4,lq,hS⟩:=HS w2 w3 q tag3 P a3 ag ai y;obtain⟨ak,a4⟩:=fl hS (aF P.lt a3);have ba:=af b4 y.size;clear hS HS HG ai y ag a3;go_wp2_with fail;refine ak.L ?_;rintro A Y⟨rfl,⟨e1,al⟩,a5⟩;obtain⟨am,an⟩:=HT q Y a5;obtain⟨ap,j,Q⟩:=gV a5 am an;clear a5 ak am an HT
 cases T:X.iO with
 |true=>have i:=HE.o;rw[T]at i;simp only[Bool.not_true,Bool.false_and,fg,if_false]at i;have F:=fu i;clear T i HE Q j;go_wp2;go_ret2;exact⟨rfl,q,a4,jP F.o ap⟩
 |false=>
  have i:=HE.o;rw[T]at i
  cases hy:(X.BL u).iO with
  |false=>rw[hy]at i j;simp only[Bool.not_false,Bool.true_and,fg,if_false]at i;have F:=fu i;clear T hy i HE Q;go_wp2_with fail;refine gF j λL d=>?_;have b5:=fu d;have bb:=(d.cell al).H e1;have bc:=af al d.lt;clear d j;go_wp2;go_ret2;exact⟨rfl,q,a4,by rw[F.o];exact ap.post b5⟩
  |true=>rw[hy]at i j;simp only[Bool.not_false,Bool.true_and,if_true]at i;have F:=fu i;have ar:Hid (∀L,Bl Y L->_):=λL d=>Q.o L d T hy;clear T hy i HE Q;go_wp2_with fail;refine gF j λL d=>?_;have av:=fu (ar L d);clear d j ar;go_wp2_with fail;refine av.L ?_;rintro A w6⟨rfl,⟨bd,be⟩,aw⟩;have b6:=fu aw;clear aw av;go_wp2;go_ret2;exact⟨rfl,q,a4,jP F.o b6⟩
theorem Lx(h:iN w aY t p qb X V)(D:mD X)(F:X.dd.length=8)(a)(H:X.F a):ib 46 #[O p,I a] w λy w'=>y=gG (.tuple #[I 0,I 7])/\Bl w w':=by
 have i:=fu λw=>kM X.n X.m X.vo X.ce a w;rw[D.n9 H]at i;unfold I4 at i;obtain⟨L,c1,c2,M⟩:=h.Z 0 1 2 3 rfl;have T:=h.B;have A:Hid (∀W,Bl w W->_):=λW P=>qc (h.bl P (bp:=aY) gK) 2 F;clear h;go_enter func46,ntmps46;go_wp2_with fail;refine gF (i _) λw1 d=>?_;obtain⟨j,Q⟩:=fl d (A w1 d);clear d L c1 c2 M i A;go_wp2_with fail;refine Q.L ?_;rintro y w2⟨rfl,rfl⟩;go_wp2;go_ret2;exact⟨rfl,j⟩
theorem JG(h:iN w aY t p qb X V)(D:mD X)(F:X.dd.length=8)(a)(H:X.F a):ib 47 #[O p,I a] w λy w'=>y=gG (.tuple #[I 0,I 7])/\Bl w w':=by
 have i:=fu λw=>kM X.n X.m X.vo X.ce a w;rw[D.n9 H]at i;unfold I4 at i;obtain⟨L,c1,c2,M⟩:=h.Z 0 1 2 3 rfl;have T:=h.B;have A:Hid (∀W,Bl w W->_):=λW P=>qc (h.bl P (bp:=aY) gK) 3 F;clear h;go_enter func47,ntmps47;go_wp2_with fail;refine gF (i _) λw1 d=>?_;obtain⟨j,Q⟩:=fl d (A w1 d);clear d L c1 c2 M i A;go_wp2_with fail;refine Q.L ?_;rintro y w2⟨rfl,rfl⟩;go_wp2;go_ret2;exact⟨rfl,j⟩
theorem Jx(h:iN w aY t p qb X V)(H:mD X)(L:X.dd.length=8)(a:Int)(Z:0<=a)(h1:a<=X.n*X.ce):ib 48 #[O p,I a] w λA w'=>A=gG (.tuple #[I 0,I 7])/\Bl w w':=by
 obtain⟨b1,b2,_,_,_,_,b3,b4⟩:=H.B;have D:=qG (a:=X.n) (d:=X.ce) C C C C;have iV:¬a<0:=C;have j:Hid (¬(X.n:Int)*X.ce<a):=lQ;obtain⟨M,P⟩:=h.M 0 3 rfl;have lp:=h.B;have F:Hid (∀W,Bl w W->_):=λW Q=>qc (h.bl Q (bp:=aY) gK) 4 L;clear h;go_enter func48,ntmps48;go_upto_region 1 with fail;go_cut[24] λy T=>y=.bool false/\Hid (Bl w T)
 case first=>
  go_quiet(fail);all_goals(go_wp2_with fail;go_meet)
  exact⟨by simp;have:=j.o;omega,(Bl.refl w).drewN _⟩
 case rest=>obtain⟨rfl,i⟩:=hcut;have Y:=fu (F wc i);clear M P F;go_wp2_with fail;refine Y.L ?_;rintro A w2⟨rfl,rfl⟩;go_wp2;go_ret2;exact⟨rfl,i⟩
theorem Er(h:iN w aY t p qb X V)(d:X.dd.length=8)(ad)(l cc)(j:1<=l)(y:l<=8):ib 45 #[O p,dk ad l cc] w λe w'=>e=gG (.tuple #[I 0,I 7])/\Bl w w':=by
 have i:=fu (qc h 1 d);clear h;go_enter func45,ntmps45;go_wp2_with fail;refine i.L ?_;rintro e w'⟨rfl,rfl⟩;go_wp2;go_ret2;exact⟨rfl,jo⟩
theorem Em(h:iN w aY t p qb X V)(P:mD X)(Q:X.dd.length=8)(T:X.res.length<=1000000000)(u)(Y:X.Sy u):ib 49 #[O p,I u] w λL w'=>L=gG (.tuple #[I 0,I 7])/\Bl w w':=by
 have D:=fu λw=>ts X.n X.m X.vo X.ce u w;rw[P.yY Y]at D;unfold M1 at D;obtain⟨Z,c1,c2,c3⟩:=h.Z 0 1 2 3 rfl;have lp:=h.B;have j:Hid (∀W,Bl w W->_):=λW F=>mf (h.bl F (bp:=aY) gK) T C;have M:Hid (∀W,Bl w W->_):=λW F=>qc (h.bl F (bp:=aY) gK) 5 Q;clear h;go_enter func49,ntmps49;go_wp2_with fail;refine gF (D _) λw1 d=>?_;have H:=fu d;have a0:=af lp d.lt;have i:=fu (j w1 d);unfold ptr at i;clear d Z c1 c2 c3 D j;go_wp2_with fail;refine gF i λw2 y=>?_;have A:=fu (H.H y);have HG:=fu (M w2 A);clear y i M;go_wp2_with fail;refine HG.L ?_;rintro L w3⟨rfl,rfl⟩;go_wp2;go_ret2;exact⟨rfl,A⟩
theorem yR(k a)(r)(Q:World->Prop)(h:ib 52 #[O p,I k,I a] w λd w'=>d=gG (I r)/\Q w'):ib 25 #[O p,I k,I a] w λd w'=>d=gG (I r)/\Q w':=by
 have H:=fu h;go_enter func25,ntmps25;go_wp2_with(refine ix H λw' i=>?_);go_ret;exact⟨rfl,i⟩
theorem AJ(a r e)(Q:World->Prop)(h:ib 46 #[O p,I a] w λd w'=>d=gG (.tuple #[I r,I e])/\Q w'):ib 19 #[O p,I a] w λd w'=>d=gG (.tuple #[I r,I e])/\Q w':=by
 have H:=fu h;clear h;go_enter func19,ntmps19;go_wp2_with(refine ix H λw' i=>?_);go_ret2;exact⟨rfl,i⟩
theorem Bc(a r e)(Q:World->Prop)(h:ib 47 #[O p,I a] w λd w'=>d=gG (.tuple #[I r,I e])/\Q w'):ib 20 #[O p,I a] w λd w'=>d=gG (.tuple #[I r,I e])/\Q w':=by
 have H:=fu h;clear h;go_enter func20,ntmps20;go_wp2_with(refine ix H λw' i=>?_);go_ret2;exact⟨rfl,i⟩
theorem Bn(a r e)(Q:World->Prop)(h:ib 48 #[O p,I a] w λd w'=>d=gG (.tuple #[I r,I e])/\Q w'):ib 21 #[O p,I a] w λd w'=>d=gG (.tuple #[I r,I e])/\Q w':=by
 have H:=fu h;clear h;go_enter func21,ntmps21;go_wp2_with(refine ix H λw' i=>?_);go_ret2;exact⟨rfl,i⟩
theorem Ay(a r e)(Q:World->Prop)(h:ib 49 #[O p,I a] w λd w'=>d=gG (.tuple #[I r,I e])/\Q w'):ib 22 #[O p,I a] w λd w'=>d=gG (.tuple #[I r,I e])/\Q w':=by
 have H:=fu h;clear h;go_enter func22,ntmps22;go_wp2_with(refine ix H λw' i=>?_);go_ret2;exact⟨rfl,i⟩
theorem za(v)(r e)(Q:World->Prop)(i:∃a l c,v=dk a l c)(h:ib 45 #[O p,v] w λd w'=>d=gG (.tuple #[I r,I e])/\Q w'):ib 18 #[O p,v] w λd w'=>d=gG (.tuple #[I r,I e])/\Q w':=by
 obtain⟨a,l,c,rfl⟩:=i;have H:=fu h;clear h;go_enter func18,ntmps18;go_wp2_with(refine ix H λw' j=>?_);go_ret2;exact⟨rfl,j⟩
theorem Ll(h:iN w aY t p qb X V)(i:Nat)(r)(hr:X.res[i]?=some r)(_hl:X.res.length<=1000000000)(a5:r.val.length<=1000000000):ib 50 #[O p,I i] w λen w'=>∃d vc,en=gG (.tuple #[.agg #[I r.wh,I r.ad,dk d r.val.length vc],I 0])/\Bl w w'/\w'.ownsRow w.heap.size 5 1 (dk d r.val.length vc) r.val.length (r.val.map B8):=by
 have hi:=(aj.1 hr).1;obtain⟨xs,A,h2,h3⟩:=h.r.res;obtain⟨g,cap,D⟩:∃g cap,V.rv=dk (G g) X.res.length cap:=by
  obtain⟨_,h0⟩|⟨g,cap,a6,e,_⟩:=A.2
  .omega
  exact⟨g,cap,e⟩
 rw[D]at A;obtain⟨x0,x1,s,x2,hs⟩:=h3 i r hr;obtain⟨F,M,rfl⟩:=hs.E;rw[ay]at x2 hs;have z0:w.cell? (U g (i*3))=some (I r.wh):=by rw[A.cellAt _ C,cN];exact x0
 have z1:w.cell? (U g (i*3+1))=some (I r.ad):=by rw[A.cellAt _ C,cN];exact x1
 have z2:w.cell? (U g (i*3+2))=some (dk F r.val.length M):=by rw[A.cellAt _ C,cN];exact x2
 have lg:=(A.lt g rfl).2;have c7:=h.cellAt 7 rfl;rw[D]at c7;have lp:=h.B;have a7:(0:Int)<=(i:Int):=C;have a8:(i:Int)<(X.res.length:Int):=C;have HC:Hid (∀W,Bl w W->_):=λW hW=>nY (dk F r.val.length M) r.val W (hs.bs.bl hW) C;clear h A h2 h3 D x0 x1 x2 hs hr;go_enter func50,ntmps50;go_wp2_with fail;refine(HC _ (by exact mG)).L ?_;rintro en w2⟨v',rfl,j,y⟩;have a3:=((Bl.refl w).alloc (gO #[I 0,I 0,OO] 43)).alloc (gO (Al r F M) 43);have P:=(cL (w.alloc (gO #[I 0,I 0,OO] 43)) (gO (Al r F M) 43) (r:=w.heap.size) aq).H (ao w _);have Q:((w.alloc (gO #[I 0,I 0,OO] 43)).alloc (gO (Al r F M) 43)).heap[w.heap.size+1]?=some (gO (Al r F M) 43 (0,0)):=by have:=ao (w.alloc (gO #[I 0,I 0,OO] 43)) (gO (Al r F M) 43);simpa using this
 have T:=(j.heap (ae.1 P).1).H P;have Y:=(j.heap (ae.1 Q).1).H Q;obtain⟨a0,a1,a2,la⟩:=Ao T;obtain⟨b0,b1,b2,lb⟩:=Ao Y;obtain⟨a9,aa,ab⟩:=Au T 0 1 2;have ac:=aP w2 (w.heap.size+1) 2 _ 43 Y;obtain⟨d,vc,a4⟩:∃d vc,v'=dk d r.val.length vc:=by obtain⟨a,c,e⟩:=(iC y).len;rw[ay]at e;exact⟨a,c,e⟩
 subst a4;have HB:=fu (a3.H j);have HO:=fu (gL (base':=w.heap.size+2) y λb hb=>by have:=(y.lt b hb).1;simpa using this);clear P Q T Y j y a3 HC z0 z1 z2;go_wp2;(try simp only[Exit.inBlock,Exit.then])
 refine aG (v:= .tuple #[.agg (Al r d vc),I 0]) (by simp[results,results50,go_sem,a0,a1,a2]) rfl ⟨d,vc,rfl,?_,?_⟩
 .exact ZY (ZY (ZY (ZY HB pK _) jc _) jc _) jc _
 have Z:=((((bz.refl (λb=>b=w.heap.size\/b=w.heap.size+1) w2).setCell (U (w.heap.size+1) 2) (.inl (.inr rfl)) (dk d r.val.length vc)).setCell (U w.heap.size 0) (.inl (.inl rfl)) (I r.wh)).setCell (U w.heap.size 1) (.inl (.inl rfl)) (I r.ad)).setCell (U w.heap.size 2) (.inl (.inl rfl)) (dk d r.val.length vc);exact gL (Z.iJ HO λb hb e=>by have:=(HO.lt b hb).1;omega) λb hb=>by have:=(HO.lt b hb).1;omega
theorem FK(h:iN w aY t p qb X V)(i:Nat)(r)(T:X.res[i]?=some r)(W:X.res.length<=1000000000)(A:r.val.length<=1000000000):ib 23 #[O p,I i] w λM w'=>∃j y,M=gG (.tuple #[.agg #[I r.wh,I r.ad,dk j r.val.length y],I 0])/\Bl w w'/\w'.ownsRow w.heap.size 5 1 (dk j r.val.length y) r.val.length (r.val.map B8):=by
 have P:=(Bl.refl w).alloc (gO #[I 0,I 0,OO] 43);have Q:=fu (Ll (h.bl P (bp:=aY) gK) i r T W A);have lp:=h.B;clear h;go_enter func23,ntmps23;go_wp2_with fail;refine Q.L ?_;rintro M w'⟨j,y,rfl,d,D⟩;have F:=(d.heap (b:=w.heap.size) aq).H (ao w _);obtain⟨Y,n1,n2,ln⟩:=Ao F;obtain⟨f0,f1,f2⟩:=Au F 0 1 2;have HB:=fu (P.H d);have L:=fu (gL (base':=w.heap.size+1) D λb d=>by have:=(D.lt b d).1;simpa using this);clear F d D Q;go_wp2;(try simp only[Exit.inBlock,Exit.then])
 refine aG (v:= .tuple #[.agg (Al r j y),I 0]) (by simp[results,results23,go_sem,Y,n1,n2]) rfl ⟨j,y,rfl,?_,?_⟩
 .exact ZY (ZY (ZY HB jc _) jc _) jc _
 have Z:=(((bz.refl (λb=>b=w.heap.size) w').setCell (U w.heap.size 0) (.inl rfl) (I r.wh)).setCell (U w.heap.size 1) (.inl rfl) (I r.ad)).setCell (U w.heap.size 2) (.inl rfl) (dk j r.val.length y);exact gL (Z.iJ L λb d e=>by have:=(L.lt b d).1;omega) λb d=>by have:=(L.lt b d).1;omega
abbrev cfg(a b c d:Int):Value:= .agg #[I a,I b,I c,I d]
structure qV(base:Nat)(w:World)(g n:Nat)(ms:List Value)(R:List (List Int)):Prop where
 gZ:w.ownsRow base 24 1 (.slice (G g) n n) n ms
 len:R.length=n
 row:∀i (h:i<ms.length) (h':i<R.length),w.ownsRow base 3 1 ms[i] R[i].length (R[i].map I)
 lM:∀i j (hi:i<ms.length) (hj:j<ms.length) b,i≠j->ms[i].ownBlock=some b->ms[j].ownBlock≠some b
def qV.xH{base:Nat}(h:qV base w g n ms R):ms.length=n:=by have:=h.gZ.1;omega
def qV.only{base:Nat}(h:qV base w g n ms R)(A:bz S w w')(D:∀b,base<=b->b<w.heap.size->¬S b):qV base w' g n ms R:=
 ⟨A.iJ h.gZ λb j=>D b (h.gZ.lt b j).1 (h.gZ.lt b j).2,h.len,λi y d=>A.iJ (h.row i y d) λb j=>D b ((h.row i y d).lt b j).1 ((h.row i y d).lt b j).2,h.lM⟩
def qV.bl{base:Nat}(h:qV base w g n ms R)(d:Bl w w'):qV base w' g n ms R:=
 h.only (bz.E d) λ_ _ _ e=>e
def qV.push{base:Nat}(h:qV base w g n ms R)(hk:k<n)(D:k<ms.length)(a0:k<R.length){F c:Nat}(hg:w.grownBy w1 ms[k].ownBlock)(hv:ms[k].ownBlock=some F\/w.heap.size<=F)(ho:w1.ownsRow base 3 1 (dk (G F) (R[k].length+1) c) (R[k].length+1) (R[k].map I++[I x])):qV base (w1.setCell (U g k) (dk (G F) (R[k].length+1) c)) g n (ms.set k (dk (G F) (R[k].length+1) c)) (R.set k (R[k]++[x])):=by
 have A:=bz.B hg;have y:w1.ownsRow base 24 1 (dk (G g) n n) n ms:=A.iJ h.gZ λb d e=>j6 h.gZ (h.row k D a0) au b d e.symm;obtain⟨a1,a2⟩:=y.stored k (dk (G F) (R[k].length+1) c);have P:=bz.B a2;have T:∀b,(dk (G F) (R[k].length+1) c).ownBlock=some b->¬some b=some g:=by intro b d e;exact j6 ho y au b d (by simp[Value.ownBlock];simpa using e.symm)
 refine⟨a1,by simpa using h.len,λi W Y=>?_,λi j W hj b Q d=>?_⟩
 .simp only[bK]at W Y;by_cases H:i=k
  .subst H;simp only[cA];have:=P.iJ ho λb d=>T b d;simpa using this
  rw[cC C,cC C];have hr:=h.row i W Y;have Z:=A.iJ hr λb d e=>h.lM i k W D b H d e.symm;exact P.iJ Z λb d e=>j6 Z y au b d (by simp[Value.ownBlock];simpa using e.symm)
 have L:i<ms.length:=by simpa using W
 have M:j<ms.length:=iG hj;by_cases H:i=k
 .subst H;rw[cA]at d;rw[cC C];simp[Value.ownBlock]at d;subst d;intro e;obtain hv|hv:=hv
  .exact h.lM i j D M F Q hv e
  have:=(h.row j M (by rw[h.len,<-h.xH];exact M)).lt _ e;omega
 rw[cC C]at d;by_cases a3:j=k
 .subst a3;rw[cA];intro e;simp[Value.ownBlock]at e;subst e;obtain hv|hv:=hv
  .exact h.lM i j L D F Q d hv
  have:=(h.row i L (by rw[h.len,<-h.xH];exact L)).lt _ d;omega
 rw[cC C];exact h.lM i j L M b Q d
def qV.Cr{base:Nat}(h:w.ownsRow base 24 1 (dk (G g) n n) n (List.replicate n OO)):qV base w g n (List.replicate n OO) (List.replicate n []):=
 ⟨h,aq,λi d y=>by simpa using mC,λi j d D b _ A=>mX A⟩
def qV.CW{wr:World}(h:qV w.heap.size wr g n ms R)(L:Bl w wr)(T:k<n)(j:k<ms.length)(y:k<R.length){mk:Value}(M:ms[k]=mk)(P:R[k]=rr){A c:Nat}{o:Obj}(Q:(wr.alloc o).grownBy w1 mk.ownBlock)(W:mk.ownBlock=some A\/A=wr.heap.size+1)(Y:w1.ownsRow w.heap.size 3 1 (dk (G A) (rr.length+1) c) (rr.length+1) (rr.map I++[I x])):w1.cell? (U g k)=some mk/\w1.frozen? (U g k)=false/\qV w.heap.size (w1.setCell (U g k) (dk (G A) (rr.length+1) c)) g n (ms.set k (dk (G A) (rr.length+1) c)) (R.set k (rr++[x]))/\Bl w (w1.setCell (U g k) (dk (G A) (rr.length+1) c)):=by
 subst M P;have H:qV w.heap.size (wr.alloc o) g n ms R:=h.bl (jo.alloc _);have d:=bz.B Q;have i:w1.ownsRow w.heap.size 24 1 (dk (G g) n n) n ms:=d.iJ H.gZ λb D e=>j6 H.gZ (H.row k j y) au b D e.symm;have Z:=h.gZ.lt g rfl;have F:∀b,ms[k].ownBlock=some b->w.heap.size<=b:=λb D=>((h.row k j y).lt b D).1;refine⟨?_,i.frozenAt k,H.push T j y Q (W.imp id λe=>gM) Y,?_⟩
 .rw[i.cellAt k C,ah j]
 have b1:Bl w w1:=(L.alloc o).B d λb D=>F b D.symm;exact ZY b1 Z.1 _
def RD(i:1<=m)(j:m<=3)(h:(k:Int)<n*m):Int.tdiv (k:Int) (m:Int)=((k/m:Nat):Int)/\k/m<n:=by
 refine⟨by rw[eF C];rfl,?_⟩;have d:k<n*m:=by exact_mod_cast h
 exact(Nat.div_lt_iff_lt_mul C).2 d
def rh(m k i:Nat):List Int:=((List.range k).filter λj=>j/m==i).map λ(j:Nat)=>(j:Int)
def Ax(m k i)(h:k/m=i):rh m (k+1) i=rh m k i++[(k:Int)]:=by unfold rh;rw[dp];simp[h]
def zC(m k i)(h:k/m≠i):rh m (k+1) i=rh m k i:=by unfold rh;rw[dp];simp[h]
def wT(m i):rh m 0 i=[]:=rfl
theorem xx(m)(d:0<m)(i):∀k,rh m k i=(List.range (min (k-i*m) m)).map λ(j:Nat)=>((i*m+j:Nat):Int)
 |0=>by simp[wT]
 |k+1=>by
  have y:=xx m d i k;by_cases h:k/m=i
  .rw[Ax m k i h,y];have A:i*m<=k:=by rw[<-h];exact Nat.div_mul_le_self k m
   have D:k<i*m+m:=by have:=Nat.lt_div_mul_add (a:=k) d;rwa[h]at this
   rw[show min (k+1-i*m) m=min (k-i*m) m+1 by omega,dp,aZ];congr 1;simp;omega
  rw[zC m k i h,y];have F:min (k+1-i*m) m=min (k-i*m) m:=by
   by_cases A:i*m<=k
   .have D:i*m+m<=k:=by apply bk;intro H;exact h ((Nat.div_eq_iff d).2 ⟨C,C⟩)
    omega
   omega
  rw[F]
theorem GX(n m:Nat)(c d)(w)(h1:1<=n)(h2:n<=3)(h3:1<=m)(h4:m<=3):ib 81 #[cfg n m c d] w λe w'=>∃g,e=gG (dk (G g) n n)/\Bl w w'/\∀(aY:Nat->Nat) (tc:Nat),(∀b,w.heap.size<=b->b<w'.heap.size->aY b=tc)->pj w' aY tc (dk (G g) n n) (jC n m):=by
 obtain⟨a9,hi,b3,b4,b5⟩:=fx Tryz.Gz;obtain⟨i3,ji,b6,b7,b8⟩:=fx Tryz.sU;have b9:Hid (a9.bytes*n<=281474976710656):=by rw[b5];unfold Hid;omega
 have aa:Hid (n<=maxLen):=mQ;have bg:(1:Int)<=(n:Int)*(m:Int)/\(n:Int)*(m:Int)<=48:=qG C C C C;have bm:((m:Int)==0)=false:=gM;obtain⟨W0,F⟩:∃W,W=w.alloc (qh n m c d):=⟨_,rfl⟩;have a3:Bl w W0:=by rw[F];exact jo.alloc _
 have T:W0.heap[w.heap.size]?=some (gO #[I n,I m,I c,I d] 27 (0,0)):=by rw[F];exact ao w _
 have Y:W0.heap.size=w.heap.size+1:=nI F;go_enter func81,ntmps81;go_wp2_with(at_make;refine wpList_make_full _ rfl _ _ 89 rfl W0.heap.size 24 a9 _ 1 underlying89 hi b3 b4 _ _ _ _ n rfl rfl rfl rfl b9 aa (nI F) ?_);intro w1 M y;rw[<-F]at y;rw[<-Y]at M;have D:Bl W0 w1:=(bz.B y).qp aq;have R0:qV W0.heap.size w1 W0.heap.size n _ _:=qV.Cr (by simpa [toList_madeCells_one]using M);rw[<-Y];clear M y F;have Z:=fu Y;clear Y;have c0:w1.cell? (U w.heap.size 0)=some (I n):=(D.cell (b:=w.heap.size) (o:=0) (gI Z.o)).H (ax W0 w.heap.size 0 _ 27 (0,0) T);have c1:w1.cell? (U w.heap.size 1)=some (I m):=(D.cell (b:=w.heap.size) (o:=1) (gI Z.o)).H (ax W0 w.heap.size 1 _ 27 (0,0) T);go_wp2;go_loopw[14](λi wr=>∃(k:Nat) (ms:List Value) (R:List (List Int)),(k:Int)<=n*m/\i=I k/\Bl W0 wr/\qV W0.heap.size wr W0.heap.size n ms R/\(∀r∈R,r.length<=k)/\∀i,(h:i<R.length)->R[i]=rh m k i) λi _=>(n*m:Nat)-(intOf i).toNat
 case atStart=>exact⟨0,_,_,C,rfl,D,R0,aq,λi h=>by simp[wT]⟩
 clear D R0 c0 c1;obtain⟨k,ms,R,hk,rfl,D,L,a4,hC⟩:=hrel;have HC:=fu hC;clear hC;have c0:wr.cell? (U w.heap.size 0)=some (I n):=(D.cell (b:=w.heap.size) (o:=0) (gI Z.o)).H (ax W0 w.heap.size 0 _ 27 (0,0) T);have c1:wr.cell? (U w.heap.size 1)=some (I m):=(D.cell (b:=w.heap.size) (o:=1) (gI Z.o)).H (ax W0 w.heap.size 1 _ 27 (0,0) T);by_cases iV:(k:Int)<n*m
 .obtain⟨hq,a0⟩:=RD h3 h4 iV;have ba:Hid (k<n*m):=by unfold Hid;exact_mod_cast iV
  obtain⟨q,a5⟩:=dS (k/m);rw[a5]at hq a0;have ab:=fu a5;clear a5;have a6:q<ms.length:=by rw[L.xH];exact a0
  have a7:q<R.length:=by rw[L.len];exact a0
  have ac:=L.gZ.cellAt q C;rw[ah a6]at ac;have A:=L.row q a6 a7;have bn:=a4 _ (aL a7);generalize ad:ms[q]=mk at*;have ag:=fu ad;clear ad;have L:=fu L;generalize ai:R[q]=rr at*;have ak:=fu ai;clear ai;have a1:=fu A;clear A;have bb:=fu a4;clear a4;have bo:(k:Int)<=48:=C;have al:Hid ((rr.length+1)*8<=140737488355328):=lQ;have am:Hid (rr.length+1<=maxLen):=mQ;have bi:=D.lt;have bq:(0:Int)<=(q:Int):=C;have bs:(q:Int)<n:=C;go_wp2_with(at_builtin;refine fm _ rfl _ _ 24 rfl W0.heap.size 3 i3 (I 0) 1 8 underlying24 ji b6 b7 b8 rfl au mk rr.length _ rfl (a1.alloc _) (U wr.heap.size 0) 1 1 [I k] rfl rfl (ZV _ _ _) qR au am al gM (wr.heap.size+1) aq ?_);intro g' cap w1 P y an bl;have HP:=L.CW D a0 a6 a7 ag ak y an P;obtain⟨bv,bw,R1,b1⟩:=HP;obtain⟨bc,bd⟩:=fl R1 b1;clear P y an a1 R1 b1 ag ac;go_wp2;go_roundw
  case rel=>exact⟨k+1,_,_,C,gX,bd,bc,λr hr=>by
   obtain h|h:=fN hr
   .exact Nat.le_succ_of_le (bb r h)
   .rw[h];simp;omega,λi hi=>by
   have ap:i<R.length:=iG hi
   by_cases e:i=q
   .subst e
    rw[cA,Ax m k i ab.o,<-HC.o i ap,ak.o]
   .rw[cC (Ne.symm e),zC m k i λe'=>e (e'.symm.H ab.o),<-HC.o i ap]⟩
  have:=ba.o;simp[intOf];omega
 go_wp2;go_ret;refine⟨W0.heap.size,rfl,a3.H D,λaY tc a2=>?_⟩;have be:k=n*m:=by
  have:(k:Int)=((n*m:Nat):Int):=by rw[Int.natCast_mul];omega
  exact_mod_cast this
 have ar:(jC n m).length=n:=by simp[jC]
 refine⟨W0.heap.size,ms.toArray,n,(0,0),qz ar,by rw[ar];exact jc,aa,a2 _ a3.lt (L.gZ.lt _ rfl).2,CD L.gZ,λj ch Q=>?_⟩;have hj:j<n:=by have:=(aj.1 Q).1;omega
 have av:ch=(List.range m).map λi=>((j*m+i:Nat):Int):=by unfold jC at Q;rw[aK,cD hj]at Q;simp at Q;rw[<-Q];simp
 have aw:j<ms.length:=by rw[L.xH];exact hj
 have b0:j<R.length:=by rw[L.len];exact hj
 refine⟨ms[j],mY aw,?_⟩;have A:=L.row j aw b0;have b2:min (n*m-j*m) m=m:=by have h1:(j+1)*m<=n*m:=gy m hj;rw[Nat.add_mul]at h1;omega
 have a8:R[j].map I=ch.map I:=by rw[HC.o j b0,be,xx m C j,b2,av]
 rw[a8]at A;exact Rd.pB A λb hb=>a2 b (aF a3.lt (A.lt b hb).1) (A.lt b hb).2
def Tz(w):(Instr.makeMap 98 none).run prog w=.ok (.map (some w.heap.size)) (w.alloc (.map #[] 0)):=rfl
def Jt(g n bm:Nat):CV:={lv:= .slice (G g) n n,rv:= OO,bm:=bm,bo:=λ_=>0,clk:=0,pr:=QV.zero,bg:= .map none,b:= OO,sl:=QV.zero,vt:=QV.zero}
def Mk(B:Nat)(w:World)(t:TypeId)(p:Nat)(n m vo ce:Nat)(id:Int):Prop:=
 ∃g bm,B<=bm/\B<=p/\w.heap[p]?=some (.cells (pO (Cx.new n m vo ce id) (Jt g n bm)).toArray t (0,0))/\w.heap[bm]?=some (.map #[] 0)/\bm≠p/\∀(aY:Nat->Nat) (tc:Nat),(∀b,B<=b->b≠bm->b<p->aY b=tc)->pj w aY tc (.slice (G g) n n) (jC n m)
def NV(B)(W)(t)(arr)(g bm)(n m vo ce)(id)(y:arr=(pO (Cx.new n m vo ce id) (Jt g n bm)).toArray)(j:W.heap[bm]?=some (.map #[] 0))(p)(A:p=W.heap.size)(D:B<=bm)(i:B<=W.heap.size)(F:∀(aY:Nat->Nat) (d:Nat),(∀b,B<=b->b≠bm->b<W.heap.size->aY b=d)->pj W aY d (dk (G g) n n) (jC n m)):Mk B (W.alloc (gO arr t)) t p n m vo ce id:=by
 subst A;subst y;have L:bm<W.heap.size:=(ae.1 j).1;exact⟨g,bm,D,i,ao W _,(cL W _ L).H j,C,λaY d M=>(F aY d M).only (iD (jo.alloc _)) (λ_ _ e=>e.elim) λ_ _ e=>e⟩
theorem Nh(n m c d:Nat)(x)(w)(M:mI n m c d=true)(h0:1000<=x)(W:x<=1099):ib 43 #[cfg n m c d,I x] w λe w'=>(∃p,e=gG (.tuple #[O p,I 0])/\Mk w.heap.size w' 112 p n m c d x)/\Bl w w':=by
 have Y:=fu (mw n m c d);rw[M]at Y;obtain⟨f1,f2,f3,f4⟩:=rY M;obtain⟨f5,f6⟩:=BP M;have HF:=fu λw=>GX n m c d w C C C C;have Z:=(Bl.refl w).alloc (qh n m c d);have hN:(w.alloc (qh n m c d)).heap[w.heap.size]?=some (gO #[I n,I m,I c,I d] 27 (0,0)):=ao w _;clear M;go_enter func43,ntmps43;go_wp2_with fail;refine gF (Y _) λw' P=>?_;have A:=(P.heap (b:=w.heap.size) aq).H hN;obtain⟨c0,c1,c2,c3⟩:=nN A 0 1 2 3 rfl;have i:=Z.H P;have iV:w.heap.size<w'.heap.size:=(ae.1 A).1;clear hN A Z P;have a1:=Tz;go_upto_region 3 with fail;go_cut[4,5] λr e wx=>∃p,r= O p/\e=I 0/\Mk w.heap.size wx 112 p n m c d x/\Bl w wx
 case first=>
  go_region_with(go_at_call 81;refine(HF _).L ?_;rintro e w2⟨g,rfl,y,D⟩;have j:Bl w' w2:=Bl.H (by exact mG) y;obtain⟨e0,e1,e2,e3⟩:=j.J iV c0 c1 c2 c3;have a0:w.heap.size<w2.heap.size:=af iV j.lt;have Q:=fu D;have a2:w.heap.size<=w'.heap.size:=i.lt;have T:=y.lt;clear D);all_goals
   go_wp2_with fail;go_meet;refine⟨_,rfl,rfl,NV _ _ 112 _ g _ _ _ _ _ _ rfl ?_ _ (by first|rfl|simp) ?_ ?_ ?_,?_⟩
   .first
     |exact ao _ _
     |exact(y.heap (b:=w'.heap.size) aq).H (ao _ _)
     |exact(y.heap (b:=w'.heap.size) aq).H (ao w'.drew _)
     |exact(y.heap (b:=w'.heap.size) aq).H (ao w' _)
   .first
     |exact aF i.lt j.lt
     |exact i.lt
   .first
     |exact aF i.lt (aF j.lt aq)
     |exact aF i.lt j.lt
   .intro aY tc ht;have F:=Q aY tc (λb W h2=>by
     refine ht b ?_ ?_ ?_
     all_goals(simp at W T|-;omega))
    first
     |exact F
     |exact F.only (iD (jo.alloc _)) (λ_ _ e=>e.elim) λ_ _ e=>e
   first
    |exact((i.H j).alloc _).alloc _
    |exact(i.H j).alloc _
 case rest=>obtain⟨p,rfl,rfl,hM,hB⟩:=hcut;go_wp2;go_ret2;exact⟨⟨p,rfl,hM⟩,hB⟩
theorem Bp:∀(l:List Value) (k:Nat) (A:Array Value),(List.foldl (λcs x=>cs.setIfInBounds x.snd x.fst) A (l.zipIdx k)).size=A.size
 |[],_,_=>rfl
 |v::l,k,A=>by rw[eO,dF,Bp l];simp
theorem Jf:∀(l:List Value) (k:Nat) (A:Array Value) (i:Nat),i<l.length->k+i<A.size->(List.foldl (λcs x=>cs.setIfInBounds x.snd x.fst) A (l.zipIdx k))[k+i]?=l[i]?
 |[],_,_,_,h,_=>lY h
 |v::l,k,A,0,_,y=>by
  rw[eO,dF];have D:∀(l:List Value) (d:Nat) (A:Array Value) (j:Nat),j<d->(List.foldl (λcs x=>cs.setIfInBounds x.snd x.fst) A (l.zipIdx d))[j]?=A[j]?:=by
   intro l;induction l with
   |nil=>intros;rfl
   |cons u l F=>intro d A j H;rw[eO,dF,F _ _ _ C,cO gM]
  simp_all
 |v::l,k,A,i+1,h,y=>by rw[eO,dF,show k+(i+1)=(k+1)+i by omega,Jf l (k+1) _ i (iG h) gM];simp
def MX(l:List Value)(A)(h:A.size=l.length):List.foldl (λcs x=>cs.setIfInBounds x.snd x.fst) A l.zipIdx=l.toArray:=by
 apply Array.ext_getElem?;intro i;by_cases d:i<l.length
 .have:=Jf l 0 A i d C;simp_all
 rw[gh (by rw[Bp];omega),gh gM]
def yw(aY:Nat->Nat)(N p bm tc:Nat):Nat->Nat:=λb=>if b<N then aY b else if b=p then tc else if b=bm then tc+1 else tc+3
def Qi(aY)(N p bm tc):∀b,N<=b->tc<=yw aY N p bm tc b/\yw aY N p bm tc b<tc+32:=λb d=>by
 unfold yw;rw[az C];split
 .simp
 split<;>omega
def Qh{B c d:Nat}{bm:Nat}{y:Nat}(Q:B<=bm)(D:B<=p)(A:bm≠p)(F:w1.heap[p]?=some (gO (pO (Cx.new n m c d x) (Jt g n bm)).toArray 114 (0,0)))(H:w1.heap[bm]?=some (.map #[] 0))(L:pj w1 (yw aY B p bm y) (y+3) (dk (G g) n n) (jC n m))(qb):Cl w1 (yw aY B p bm y) y p qb (Cx.new n m c d x):=
 ⟨Jt g n bm,F,by unfold yw;rw[az C,aE rfl],L,⟨[],mC,λb M=>by simp[Jt,Value.ownBlock]at M,λi r P=>by simp[Cx.new]at P⟩,by show yw aY B p bm y bm=y+1;unfold yw;rw[az C,az A,aE rfl],H,λc j=>by simp[Cx.new]at j,by simp[Cx.new],QR.zero,QR.zero,QR.zero,.inl ⟨rfl,rfl⟩,Rd.nil,λc j=>by simp[Cx.new]at j,⟨by simp[Cx.new],λc j=>by simp[Cx.new]at j,by simp[Cx.new],λc j=>by simp[Cx.new]at j⟩⟩
theorem BV(n m c d:Nat)(x)(w)(hf:mI n m c d=true)(h0:1000<=x)(P:x<=1099)(aY:Nat->Nat)(tc):ib 16 #[cfg n m c d,I x] w λe w'=>∃p,e=gG (.tuple #[O p,I 0])/\w.heap.size<=p/\Bl w w'/\∃bp,(∀b,b<w.heap.size->bp b=aY b)/\(∀b,w.heap.size<=b->tc<=bp b/\bp b<tc+32)/\∀qb,Cl w' bp tc p qb (Cx.new n m c d x):=by
 have HN:=fu λw=>Nh n m c d x w hf h0 P;have Q:=(Bl.refl w).alloc (qh n m c d);clear hf;go_enter func16,ntmps16;go_wp2_with fail;refine(HN _).L ?_;rintro e w1⟨⟨p,rfl,g,bm,T,a4,M,W,a5,hL⟩,y⟩;obtain⟨cs,i⟩:∃cs,cs=pO (Cx.new n m c d x) (Jt g n bm):=⟨_,rfl⟩;have A:cs.length=55:=by rw[i];rfl
 rw[<-i]at M;have Y:Hid (w1.rangeAt p 0 cs):=λj v hv=>by rw[bP,ax w1 p j _ 112 (0,0) M];simpa using hv
 have a0:Hid ((prog.info? 112).map (·.size)=some cs.length):=by unfold Hid;rw[A];kernel_rfl
 obtain⟨HC,HM⟩:=fl i (And.intro T (And.intro W hL));have D:w.heap.size<=w1.heap.size:=(Q.H y).lt;have F:=Q.lt;have HB:=fu (Q.H y);have a1:Hid (p<w1.heap.size):=(ae.1 M).1;have a2:bm<w1.heap.size:=(ae.1 W).1;clear M W hL i HN y;go_wp2_with(refine wpList_load_mid rfl 112 (.tmp 18) rfl p 0 rfl cs _ Y underlying112 rfl a0 ?_);go_ret2;have fin:∀Z:Array Value,Z.size=55->List.foldl (λcs x=>cs.setIfInBounds x.snd x.fst) Z cs.zipIdx=cs.toArray:=λZ hZ=>MX cs Z C;obtain⟨k1,k2,k3⟩:=HM.o;have a3:bm≠w1.heap.size:=C;refine⟨w1.heap.size,rfl,D,HB.alloc _,yw aY w.heap.size w1.heap.size bm tc,λb y=>aE y,Qi aY w.heap.size w1.heap.size bm tc,λqb=>Qh (B:=w.heap.size) (g:=g) (bm:=bm) (aF F k1) D a3 ?_ ((cL w1 _ a2).H k2) ?_ qb⟩
 .rw[<-HC.o,fin _ rfl];exact ao w1 _
 refine(k3 (yw aY w.heap.size w1.heap.size bm tc) (tc+3) λb y P h2=>?_).only (iD (jo.alloc _)) (λ_ _ e=>e.elim) λ_ _ e=>e;unfold yw;rw[az (gI (aF F y)),az (gI a1.o),az P]
theorem A8(ad)(b o c n bs os cs)(rs)(kJ)(w)(hn:n<=(gY rs).length)(Q:n<=c)(a2:n<=3)(T:c<=9223372036854775807)(P:0<n->ad=some (U b o)/\b<w.heap.size)(hc:∀j d,j<n->(gY rs)[j]?=some d->w.cell? (U b (o+j))=some (B8 d))(y:lK w bs os kJ)(hs:kJ.length<=1000)(W:∀r∈rs,r.Ok kJ):ib 246 #[dk ad n c,dk (some (U bs os)) kJ.length cs] w λe w'=>e=gG (.tuple #[.agg #[I 0,OO,OO],.bool false])/\Bl w w':=by
 have D:=(Bl.refl w).alloc uX;have HS:=fu (vS ad b o c n bs os cs rs kJ _ hn Q C T (λh=>⟨(P h).1,af (P h).2 D.lt⟩) (λj d hj hd=>by rw[D.cell (P C).2];exact hc j d hj hd) ⟨af y.1 D.lt,λj h=>by rw[D.cell y.1,D.cell y.1,D.cell y.1];exact y.2 j h⟩ hs W);obtain⟨HA,hX,Y⟩:=gV D (ao w uX) W;clear hc y P W D;go_enter func246,ntmps246;go_wp2_with fail;refine HS.L ?_;rintro e w2⟨k,rv,xs,rfl,k1,k2,k3,k4,F⟩;have hk:k=0:=by
  apply bk;intro a3;have h1:off rs 1<=off rs k:=by
   have:∀i,1<=i->i<=rs.length->off rs 1<=off rs i:=by
    intro i hi;induction i with
    |zero=>omega
    |succ i ih=>
     intro hl;by_cases h0:i=0
     .subst h0;exact jc
     have:=ih C C;rw[qQ rs i C];omega
   exact this k C k1
  have h2:off rs 1=rs[0].bytes.length:=by rw[qQ rs 0 C,sO,bP]
  have h3:=(Y rs[0] (aL _)).n0;have h4:=rs[0].len;omega
 subst hk;obtain⟨a0,c0,L⟩:=ja k4.gZ;have M:(List.take 0 rs).length=0:=aq;rw[M]at L;subst L;have A:=(F.heap aq).H hX;obtain⟨y0,y1,y2⟩:=px A 0 1 2 rfl;obtain⟨f0,f1,f2⟩:=Au A 0 1 2;have a4:w.heap.size<w2.heap.size:=(ae.1 A).1;have a1:=fu (HA.H F);clear HS F hX A HA k1 k2 k3 k4 M;go_wp2;have Z:=(((bz.refl (λb=>b=w.heap.size) w2).setCell (U w.heap.size 0) (.inl rfl) (I 0)).setCell (U w.heap.size 1) (.inl rfl) OO).setCell (U w.heap.size 2) (.inl rfl) OO;have hB:=a1.B Z λn e=>C;exact aG (v:= .tuple #[.agg #[I 0,OO,OO],.bool false]) (by simp[results,results246,go_sem,y0,y1,y2]) rfl ⟨rfl,hB⟩
structure Nz(w:World)(v:Value)(ds:List Int):Prop where
 l:ds.length<=3
 nil:ds=[]->∃ad c,v=.slice ad 0 c/\c<=9223372036854775807
 pk:0<ds.length->rI w v ds
 Tw:∀d∈ds,0<=d/\d<=255
def Nz.bl(h:Nz w v ds)(d:Bl w w'):Nz w' v ds:=⟨h.l,h.nil,λe=>(h.pk e).bl d,h.Tw⟩
def Ul(kJ:List (Int×Int×Int)):Prop:=∀s∈kJ,0<=s.1/\s.1<=255/\1<=s.2.1/\s.2.1<=255/\0<=s.2.2/\s.2.2<=255
theorem rZ(v)(ds)(bs os cs)(kJ)(w)(F:Nz w v ds)(y:lK w bs os kJ)(P:kJ.length<=1000)(hS:Ul kJ):ib 246 #[v,dk (some (U bs os)) kJ.length cs] w λe w'=>e=gG (.tuple #[.agg #[I 0,OO,OO],.bool false])/\Bl w w':=by
 by_cases Y:ds=[]
 .obtain⟨ad,c,rfl,hc⟩:=F.nil Y;exact A8 ad 0 0 c 0 bs os cs [] kJ w aq C C hc (λh=>C) (λj d L=>C) y P λr hr=>lY hr
 have Z:0<ds.length:=cU.2 Y;have hp:=F.pk Z;have hl:=F.l
 cases hf:kJ.any λs=>pH s.1 s.2.1 s.2.2 ds with
 |false=>exact zb v ds bs os cs kJ w hp Z C F.Tw y P hf
 |true=>
  obtain⟨s,H,A⟩:=cK.1 hf;obtain⟨a1,a2,a3,a4,a5,a6⟩:=hS s H;obtain⟨b,o,c,rfl,e1,e2,e3,e4⟩:=hp;unfold pH at A;simp only[bL,eV,ZX,ZT]at A;obtain⟨⟨f1,f2⟩,f3⟩:=A;obtain⟨vl,a0,Q⟩:∃vl:Nat,(vl:Int)<=s.2.2/\(3<=ds.length->ds.getD 2 0=vl):=by
   by_cases h3:3<=ds.length
   .have:0<=ds.getD 2 0:=by rw[aS,ah C];exact(F.Tw _ (aL _)).1
    exact⟨(ds.getD 2 0).toNat,by obtain f3|f3:=f3<;>omega,λ_=>C⟩
   exact⟨0,C,λh=>C⟩
  have ok:Rc.Ok kJ ⟨s.1,List.replicate s.2.1.toNat 0,List.replicate vl 0⟩:=⟨a1,a2,gM,gM,gM,λn hn=>by rw[fT hn];decide,λd M=>by rw[fT M];omega,s,H,rfl,gM,gM⟩;have T:∀j,j<ds.length->(gY [(⟨s.1,List.replicate s.2.1.toNat 0,List.replicate vl 0⟩:Rc)])[j]?=ds[j]?:=λj L=>by
   have D:j=0\/j=1\/j=2:=C;have hg:∀i,i<ds.length->ds[i]?=some (ds.getD i 0):=λi hi=>by rw[aS,ah hi];rfl
   rw[hg j L];obtain rfl|rfl|rfl:=D
   .rw[f1];simp[gY,Rc.bytes,iB]
   .have W:ds.getD 1 0=s.2.1:=by
     obtain f2|f2:=f2
     .omega
     exact f2
    rw[W];simp[gY,Rc.bytes,iB];omega
   rw[Q C];simp[gY,Rc.bytes,iB]
  refine A8 (some (U b o)) b o c ds.length bs os cs [⟨s.1,List.replicate s.2.1.toNat 0,List.replicate vl 0⟩] kJ w ?_ e2 hl e3 (λ_=>⟨rfl,e1⟩) (λj d L M=>?_) y P (iG ok)
  .have:=Iw ⟨s.1,List.replicate s.2.1.toNat 0,List.replicate vl 0⟩;simp only[gY,dP,List.flatMap_nil,cF];omega
  rw[T j L]at M;exact e4 j d M
def yg(v)(ds)(w)(i:Nz w v ds):ib 215 #[v] w λe w'=>e=gG (.tuple #[I 0,I 0,.agg #[I 0,I 0,I 0,OO],.bool false])/\Bl w w':=
 sT v w λW b j d=>rZ v ds b 0 1 _ W (i.bl j) d au (by intro s d;simp at d;subst d;simp)
def xK(v)(ds)(w)(i:Nz w v ds):ib 213 #[v] w λe w'=>e=gG (.tuple #[I 0,.agg #[I 0,I 0,I 0,I 0,I 0,I 0,OO],.bool false])/\Bl w w':=
 rN v w λW b j d=>rZ v ds b 0 1 _ W (i.bl j) d au (by intro s d;simp at d;subst d;simp)
theorem Ha(fr)(v)(ds)(i:Nz w v ds):ib 162 #[O p,I fr,v] w λQ w'=>Q=gS/\Bl w w':=by
 have H:=fu (xK v ds w i);have L:Hid (∀W,Bl w W->_):=λW T=>yg v ds W (i.bl T);obtain⟨M,vl,vc,A⟩:∃M vl vc,v=dk M vl vc:=by
  by_cases P:ds=[]
  .obtain⟨Y,c,e,_⟩:=i.nil P;exact⟨_,_,_,e⟩
  obtain⟨b,o,c,e,_⟩:=i.pk (cU.2 P);exact⟨_,_,_,e⟩
 subst A;clear i;go_enter func162,ntmps162;go_wp2_with fail;refine gF H λw1 d=>?_;obtain⟨j,D⟩:=fl (L _ (d.alloc Ga)) (d.alloc Ga);clear d L H;go_wp2_with fail;refine gF j λw2 y=>?_;have F:=fu y;clear y j;go_wp2;go_end0;exact⟨rfl,D.H (F.alloc _)⟩
def JW:Ul m8:=by intro s d;simp only[m8,bh,dB,or_false]at d;obtain rfl|rfl|rfl|rfl|rfl|rfl|rfl:=d<;>simp
theorem vu(v)(ds)(w)(L:Nz w v ds):ib 211 #[v] w λe w'=>e=gG (.tuple #[.agg #[I 0,I 0,I 0,I 0,I 0,I 0,I 0,I 0,OO],.bool false])/\Bl w w':=by
 have Y:=(Bl.refl w).alloc (gO Pd 100);obtain⟨Z,HS,M,Hv⟩:=ju (ao w (gO Pd 100)) (qm (w.alloc (gO Pd 100))) Y L;obtain⟨P,vl,vc,Q⟩:∃P vl vc,v=dk P vl vc:=by
  by_cases h0:ds=[]
  .obtain⟨ad,c,e,_⟩:=L.nil h0;exact⟨_,_,_,e⟩
  obtain⟨b,o,c,e,_⟩:=L.pk (cU.2 h0);exact⟨_,_,_,e⟩
 subst Q;clear L Y;go_enter func211,ntmps211;go_wp2_with fail;refine HS.L ?_;rintro e w1⟨bs,rfl,d,A⟩;obtain⟨HW,D,i⟩:=gV (rZ (dk P vl vc) ds bs 0 7 m8 w1 (Hv.bl (M.H d)) A au JW) (M.H d) ((d.heap aq).H Z);clear HS d A Z M;go_wp2_with fail;refine gF HW λw2 j=>?_;have y:=(j.heap (ae.1 i).1).H i;obtain⟨⟨x0,x1,x2,x3,x4,x5,x6,x7,x8⟩,gg,lX⟩:=sB y;have f0:=gg 0;have f1:=gg 1;have f2:=gg 2;have f3:=gg 3;have f4:=gg 4;have f5:=gg 5;have f6:=gg 6;have f7:=gg 7;have f8:=gg 8;obtain⟨T,W⟩:=fl (D.H j) y;clear HW j y i D gg;go_wp2;have F:=jY [I 0,I 0,I 0,I 0,I 0,I 0,I 0,I 0,OO] 0 w2 [I 0,I 0,I 0,I 0,I 0,I 0,I 0,I 0,OO] W;have hO:=jw (S:=λb=>b=w.heap.size) (p:=w.heap.size) (.inl rfl) [I 0,I 0,I 0,I 0,I 0,I 0,I 0,I 0,OO] 0 w2 (bz.refl _ w2);have hB:=T.B hO λn e=>C;have bD:=(Bl.refl (jX w2 w.heap.size 0 [I 0,I 0,I 0,I 0,I 0,I 0,I 0,I 0,OO])).alloc uX;obtain⟨⟨y0,y1,y2,y3,y4,y5,y6,y7,y8⟩,_,_⟩:=sB ((bD.heap (ae.1 F).1).H F);simp only[jX]at y0 y1 y2 y3 y4 y5 y6 y7 y8;exact aG (v:= .tuple #[.agg Pd,.bool false]) (by simp only[results,results211];simp[go_sem,y0,y1,y2,y3,y4,y5,y6,y7,y8]) rfl ⟨rfl,hB.H bD⟩
theorem Ea(g)(fr)(v)(ds)(w)(i:Nz w v ds):ib 161 #[O g,I fr,v] w λH w'=>H=gS/\Bl w w':=by
 have A:=fu (vu v ds w i);obtain⟨D,vl,vc,j⟩:∃D vl vc,v=dk D vl vc:=by
  by_cases F:ds=[]
  .obtain⟨L,c,e,_⟩:=i.nil F;exact⟨_,_,_,e⟩
  obtain⟨b,o,c,e,_⟩:=i.pk (cU.2 F);exact⟨_,_,_,e⟩
 subst j;clear i;go_enter func161,ntmps161;go_wp2_with fail;refine gF A λw1 d=>?_;have y:=fu d;clear d A;go_wp2;refine aG (v:= .tuple #[]) (by simp[results,results161,go_sem]) rfl ?_;exact⟨rfl,y.alloc _⟩
theorem BJ(g)(fr)(v)(ds)(w)(d:Nz w v ds):ib 101 #[O g,I fr,v] w λj w'=>j=gS/\Bl w w':=by
 have H:=fu (Ea g fr v ds w d);clear d;go_enter func101,ntmps101;go_wp2_with fail;refine gF H λw' i=>?_;have y:=fu i;clear H i;go_wp2;go_end0;exact⟨rfl,y⟩
def pk(c n:Int):Int:=(if c<0 then-(c+1)else c)%n
def kI(c n)(d:0<n):0<=pk c n/\pk c n<n:=⟨dq _ C,de _ d⟩
theorem kQ(c n)(w)(F:-9223372036854775808<=c)(H:c<=9223372036854775807)(i:0<n)(y:n<=9223372036854775807):ib 15 #[I c,I n] w λe w'=>e=gG (I (pk c n))/\w'=w:=by
 unfold pk;have d:n≠0:=C;by_cases j:c<0
 .rw[aE j];have A:Int.tmod (-(c+1)) n=(-(c+1))%n:=fL C;have r:=dq (-(c+1)) d;have D:=de (-(c+1)) i;go_enter func15,ntmps15;go_wp2;go_ret;exact⟨rfl,rfl⟩
 rw[az j];have A:Int.tmod c n=c%n:=fL C;have r:=dq c d;have D:=de c i;go_enter func15,ntmps15;go_wp2;go_ret;exact⟨rfl,rfl⟩
abbrev Bb(x:Int):Prop:=-9223372036854775808<=x/\x<=9223372036854775807
theorem BG(c u v s)(w)(d:Bb c)(i:Bb u)(j:Bb v)(y:Bb s):ib 14 #[I c,I u,I v,I s] w λe w'=>e=gG (cfg (1+pk c 3) (1+pk u 3) (1+2*pk v 3) (1+pk s 5))/\Bl w w':=by
 obtain⟨P1,A,D,F⟩:=ju (λw=>kQ c 3 w d.1 d.2 au au) (λw=>kQ u 3 w i.1 i.2 au au) (λw=>kQ v 3 w j.1 j.2 au au) λw=>kQ s 5 w y.1 y.2 au au;have H:=kI c 3 au;have M:=kI u 3 au;have P:=kI v 3 au;have Q:=kI s 5 au;go_enter func14,ntmps14;go_wp2_with fail;refine(P1 _).L ?_;rintro e w'⟨rfl,rfl⟩;go_wp2_with fail;refine(A _).L ?_;rintro e w'⟨rfl,rfl⟩;go_wp2_with fail;refine(D _).L ?_;rintro e w'⟨rfl,rfl⟩;go_wp2_with fail;refine(F _).L ?_;rintro e w'⟨rfl,rfl⟩;go_wp2;(try simp only[Exit.inBlock,Exit.then])
 exact aG (v:=cfg (1+pk c 3) (1+pk u 3) (1+2*pk v 3) (1+pk s 5)) (by simp[results,results14,go_sem,cfg]) rfl ⟨rfl,jo.alloc _⟩
inductive Pk
 |req (r:Rq)
 |rep (nr:Int) (A:An)
 |vot (nr lt:Int) (v:Vo)
 |noi (ds:List Int)
def VB(nr:Int)(A:An):List Int:=iB 101 [nr,A.wh,A.ep,A.mark,A.ct.kd,A.ct.cl,A.ct.ca] A.ct.val
def VE(nr lt:Int)(v:Vo):List Int:=iB 102 [nr,lt,v.wh,v.pr,v.ba] v.val
def Pk.bytes:Pk->List Int
 | .req r=>SZ r
 | .rep nr A=>VB nr A
 | .vot nr lt v=>VE nr lt v
 | .noi ds=>ds
structure Le where
 fr:Int
 tt:Int
 pk:Pk
structure Qe where
 cl:Int
 ln:Int
 nr:Int
 pk:Pk
def Qe.z(e:Qe):Qz:=⟨e.cl,e.ln,e.nr,e.pk.bytes⟩
def Qe.is(e:Qe)(cl ln:Int):Bool:=e.cl==cl&&e.ln==ln
def xL(q:List Qe)(a:Qe):List Qe:=match q.find? λb=>b.is a.cl a.ln with
 |none=>q++[a]
 |some b=>if a.nr<=b.nr then q else q.map λb=>if b.is a.cl a.ln then a else b
theorem Ml(q)(a):zQ (q.map Qe.z) a.z=(xL q a).map Qe.z:=by
 unfold zQ xL;rw[List.find?_map];have d:((λb:Qz=>b.is a.z.cl a.z.ln)∘Qe.z)=λb:Qe=>b.is a.cl a.ln:=rfl;rw[d]
 cases q.find? λb=>b.is a.cl a.ln with
 |none=>simp
 |some b=>
  simp only[bG];show(if a.nr<=b.nr then _ else _)=_;split
  .rfl
  rw[br,br];refine bf λx _=>?_;show(if x.is a.cl a.ln then a.z else x.z)=Qe.z (if x.is a.cl a.ln then a else x);split<;>rfl
structure VS where
 E:Int->Ep
 lt:Int
def VS.first:VS:=⟨λ_=>Tn,0⟩
inductive mJ
 |unit (ch:Int) (s:St) (h:List St)
 |voter (s:VS) (h:List VS)
structure Pl where
 part:mJ
 q:List Qe
 up:Bool
 qk:Bool
structure Ac where
 X:Cx
 up:Bool
structure Kl where
 a:Nat
 b:Nat
 kind:Int
 pos:Int
 value:List Int
 c:List Int
 d:Int
 fin:Int
 r:Rz
structure Wd where
 n:Nat
 m:Nat
 v:Nat
 ce:Nat
 pl:List Pl
 ac:List Ac
 iq:List Le
 bx:List Kl
 a:Int
 kS:List Int
 jU:List Int
 iH:Nat
def jZ(n m i:Nat):Int:=if i<n*m then i else 100+i-(n*m:Nat)
def iM(i:Nat):Int:=1000+7*i
def my(n m v ce:Nat)(ch:Int)(s:St)(r:Rq):An×St:=uM n m v ce ch s r.kd r.ep r.pl r.ct.kd r.ct.cl r.ct.ca r.ct.val
def uB(s:VS)(r:Rq):Vo×VS:=
 let R:=nV s.E r.kd r.ep r.pl r.ct.val
 (R.1,⟨R.2,if R.1.wh=1/\r.kd≠7 then max s.lt r.ep else s.lt⟩)
def Pl.recv(n m v ce:Nat)(P:Pl)(fr:Int)(p:Pk):Pl:=match p with
 | .req r=>match P.part with
  | .unit ch s h=>{P with part:= .unit ch (my n m v ce ch s r).2 (h++[(my n m v ce ch s r).2]),q:=xL P.q ⟨fr,r.ln,r.nr,.rep r.nr (my n m v ce ch s r).1⟩}
  | .voter s h=>{P with part:= .voter (uB s r).2 (h++[(uB s r).2]),q:=xL P.q ⟨fr,r.ln,r.nr,.vot r.nr (uB s r).2.lt (uB s r).1⟩}
 |_=>P
def mJ.jt:mJ->mJ
 | .unit ch s _=>.unit ch s [s]
 | .voter s _=>.voter s [s]
def Pl.jt(P:Pl):Pl:={P with part:=P.part.jt,q:=[]}
def mJ.u9(j:Nat):mJ->mJ
 | .unit ch _ h=>.unit ch (h.getD j St.first) (h.take (j+1))
 | .voter _ h=>.voter (h.getD j VS.first) (h.take (j+1))
def mJ.hl:mJ->Nat
 | .unit _ _ h=>h.length
 | .voter _ h=>h.length
def Pl.u9(P:Pl)(j:Nat):Pl:={P with part:=P.part.u9 j,q:=[]}
def Cx.recv(X:Cx)(fr:Int)(p:Pk):Cx:=match p with
 | .rep nr A=>X.jA fr nr A
 | .vot nr lt v=>X.pT fr nr lt v
 |_=>X
def Kl.E(t:Int)(c:Kl)(a:Option Ac):Kl:=match a with
 |none=>c
 |some a=>if a.up then(match a.X.res[c.b]? with
  |none=>c
  |some r=>if c.fin=0/\r.wh≠0 then{c with fin:=t,r:=r}else c)else c
def Uj(fr tt id mk:Int):Bool:=
 let v:=if tt=id then fr-100 else if fr=id then tt-100 else-1
 decide (0<=v)&&decide (v<5)&&decide ((mk>>>v.toNat)%2=0)
namespace Wd
def lH(W:Wd):Nat:=W.n*W.ce
def iY(W:Wd):Wd:={W with a:=W.a+1,bx:=W.bx.map λc=>c.E (W.a+1) W.ac[c.a]?}
def mR(W:Wd)(a:Nat):Nat:=(W.bx.filter λc=>c.a==a).length
def th(W:Wd)(a:Nat):Nat:=(W.bx.filter λc=>c.a==a&&decide (c.fin=0)).length
def jL(W:Wd)(fr tt:Int):Bool:=(List.range (min W.jU.length W.ac.length)).any λi=>Uj fr tt (iM i) (W.jU.getD i 0)
def pY(W:Wd)(l:Le)(k:Nat):List Pl:=W.pl.mapIdx λi P=>if i<k/\jZ W.n W.m i=l.tt/\P.up=true then P.recv W.n W.m W.v W.ce l.fr l.pk else P
def rF(W:Wd)(l:Le)(k:Nat):List Ac:=W.ac.mapIdx λi A=>if i<k/\iM i=l.tt/\A.up=true then{A with X:=A.X.recv l.fr l.pk}else A
def qJ(W:Wd)(l:Le):Wd:={W with a:=W.a+1,iH:=W.iH+1,pl:=W.pY l W.pl.length,ac:=W.rF l W.ac.length}
def mO(W:Wd)(l:Le):Wd:=if W.jL l.fr l.tt then{W with a:=W.a+1,iH:=W.iH+1}else(W.qJ l).iY
def mM(W:Wd)(i:Nat)(X:Cx):Wd:={W with iH:=W.iH+1,ac:=W.ac.modify i λA=>{A with X:=X}}
def kE(W:Wd)(k:Nat):Wd:=
 if k<W.pl.length then(match W.pl[k]? with
  |none=>W
  |some P=>if P.up then{W with iH:=W.iH+1,pl:=W.pl.set k P.jt,iq:=W.iq++P.q.map λe=>⟨jZ W.n W.m k,e.cl,e.pk⟩}else W)
 else match W.ac[k-W.pl.length]? with
  |none=>W
  |some A=>if A.up then{W with iH:=W.iH+1,ac:=W.ac.set (k-W.pl.length) {A with X:=A.X.jt},iq:=W.iq++A.X.iE.map λz=>⟨iM (k-W.pl.length),z.1,.req z.2⟩}else W
def iE(W:Wd):Wd:=(List.range (W.pl.length+W.ac.length)).foldl kE {W with iq:=[]}
def kW(W:Wd)(ls:List Le):Wd:=ls.foldl mO W
def step(W:Wd):Wd:=({W.iE with iq:=W.iq}:Wd).kW W.iE.iq
def lJ(W:Wd):Nat->Wd×Bool
 |0=>(W,false)
 |k+1=>if W.iE.iq.length=0 then(W.step,true)else W.step.lJ k
def nz(W:Wd)(i:Nat):Wd:=match W.ac[i]? with
 |none=>W
 |some A=>if A.up then W.mM i A.X.kR else W
def xm(W:Wd):Wd:=(List.range W.ac.length).foldl nz W
def mg(W:Wd):Wd×Bool:=W.xm.lJ 300
end Wd
def jh(x:Int)(n:Nat):Nat:=(pk x n).toNat
def je(n:Nat):List Int:=[n%256,n/256%256,n/65536%256,n/16777216%256,118]
def Cx.Z(X:Cx)(kind pos:Int)(value:List Int):Cx:=
 if kind=1 then X.append value else if kind=2 then X.yU pos else if kind=3 then X.fill pos else if kind=4 then X.rV pos else X.change pos
namespace Wd
def AS(W:Wd)(i n:Nat)(t:Int):Wd:={W with bx:=W.bx.map λc=>if c.a=i/\c.b=n then{c with c:=c.c++[t]}else c,kS:=W.kS++[t]}
def pA(W:Wd)(i:Nat)(A:Ac)(n:Nat)(t:Int):Wd:=(({W with iH:=W.iH+1}:Wd).AS i n t).mM i (A.X.jv n t)
def jv(W:Wd)(a which t:Int):Wd:=match W.ac[jh a W.ac.length]? with
 |none=>W
 |some A=>if A.up=true/\A.X.jl≠[]then(W.pA (jh a W.ac.length) A (A.X.jl.getD (jh which A.X.jl.length) 0) t).iY else W
def jG(W:Wd)(kind b:Int):Int:=if kind=1 then 0 else if kind=2\/kind=3 then jh b W.lH else if kind=4 then jh b (W.lH+1)else jh b (W.n*W.m)
def kx(W:Wd)(kind:Int):List Int:=if kind=1 then je W.bx.length else []
def m7(W:Wd)(kind b:Int)(i:Nat)(A:Ac):Wd:=
 ({W with bx:=W.bx++[⟨i,W.mR i,kind,W.jG kind b,W.kx kind,[],W.a,0,Rz.zero⟩]}:Wd).mM i (A.X.Z kind (W.jG kind b) (W.kx kind))
def call(W:Wd)(kind a b:Int):Wd:=match W.ac[jh a W.ac.length]? with
 |none=>W
 |some A=>if A.up then(if A.X.dd.length=8 then({W with iH:=W.iH+1}:Wd).iY else((({W with iH:=W.iH+1}:Wd).iY).m7 kind b (jh a W.ac.length) A).iY)else W
def mW(W:Wd):Wd:=if W.ac.length≥8 then W else{W with iH:=W.iH+1,ac:=W.ac++[⟨Cx.new W.n W.m W.v W.ce (iM W.ac.length),true⟩]}
end Wd
structure Gh where
 R:List Rz
 n:Nat
 m:Nat
 v:Nat
 c:Nat
 id:Int
 J:Nat->Int->Ct->Int->Int->Prop
structure Gh.le(g g':Gh):Prop where
 R:g'.R=g.R
 s:(g'.n=g.n/\g'.m=g.m)/\g'.v=g.v/\g'.c=g.c/\g'.id=g.id
 J:∀a b c d e,g.J a b c d e->g'.J a b c d e
def Gh.le.refl(g):Gh.le g g:=⟨rfl,⟨⟨rfl,rfl⟩,rfl,rfl,rfl⟩,λ_ _ _ _ _ e=>e⟩
structure Bd where
 E:Int
 B:Int
 K:Int
 N:Int
 g:Gh
structure Bd.ln(b b':Bd):Prop where
 e:b.E<=b'.E
 k:b.K<=b'.K
 n:b.N<=b'.N
 ba:b.B<=b'.B
structure Bd.le(b b':Bd):Prop extends Bd.ln b b' where
 g:Gh.le b.g b'.g
structure Fw(b:Bd)(t:Ct):Prop where
 kd:0<=t.kd/\t.kd<=9
 cl:0<=t.cl/\t.cl<=1099
 ca:0<=t.ca/\t.ca<=b.N
 vl:t.val.length<=8
 a:mA t.val
structure Fh(b:Bd)(A:An):Prop where
 wh:0<=A.wh/\A.wh<=10
 ep:0<=A.ep/\A.ep<=b.E+1
 EB:0<=A.mark/\A.mark<=48
 ct:Fw b A.ct
 tk:A.wh=2->qd A.ct.kd A.ct.val.length=true
structure CU(b:Bd)(v:Vo):Prop where
 wh:0<=v.wh/\v.wh<=10
 pr:0<=v.pr/\v.pr<=b.B
 ba:0<=v.ba/\v.ba<=b.B
 vl:v.val.length<=255
 a:mA v.val
structure T5(b:Bd)(r:Rq):Prop where
 ln:0<=r.ln/\r.ln<10
 nr:0<=r.nr/\r.nr<=b.K
 ep:0<=r.ep/\r.ep<=b.E+1
structure OL(b:Bd)(r:Rq):Prop extends T5 b r where
 kd:r.kd=1\/r.kd=2\/r.kd=3\/r.kd=4
 pl:0<=r.pl/\r.pl<=48
 ct:Fw b r.ct
 c2:r.kd=2->qd r.ct.kd r.ct.val.length=true
 c0:r.kd≠2->r.ct.val=[]
structure ON(b:Bd)(r:Rq):Prop extends T5 b r where
 kd:r.kd=5\/r.kd=6\/r.kd=7
 pl:0<=r.pl/\r.pl<=b.B
 c0:r.ct.kd=0/\r.ct.cl=0/\r.ct.ca=0
 vl:r.ct.val.length<=255
 a:mA r.ct.val
 v0:r.kd≠6->r.ct.val=[]
structure QK{α:Type}(R:Rq->Prop)(AK:α->Prop)(I:Int->Prop)(q:Qn α):Prop where
 a:q.nodes≠[]->R q.a
 nl:q.nodes.length<=14
 nd:q.nodes.Nodup
 id:∀x∈q.nodes,I x
 ak:∀z∈q.B,AK z.2
 ai:∀z∈q.B,z.1∈q.nodes
 an:(q.B.map (·.1)).Nodup
 k0:0<=q.a.kd/\q.a.kd<=7
 v0:q.a.ct.val.length<=255
def r8(n m:Nat)(u:Int):Prop:=0<=u/\u<n*m
def BU(v:Nat)(u:Int):Prop:=100<=u/\u<100+v
abbrev QU(b:Bd)(n m:Nat)(q:Qn An):Prop:=QK (OL b) (Fh b) (r8 n m) q
abbrev QW(b:Bd)(v:Nat)(q:Qn Vo):Prop:=QK (ON b) (CU b) (BU v) q
structure P5(r:Rz):Prop where
 wh:0<=r.wh/\r.wh<=10
 ad:0<=r.ad/\r.ad<=48
 vl:r.val.length<=8
 a:mA r.val
structure qD(b:Bd)(n m ce:Nat)(c:jf):Prop where
 kd:c.kind=1\/c.kind=2\/c.kind=3\/c.kind=4\/c.kind=5
 ad:0<=c.iS/\c.iS<=n*ce
 un:c.kind=5->r8 n m c.unit
 gZ:Fw b c.gZ
 o1:c.kind=1\/c.kind=3->qd c.gZ.kd c.gZ.val.length=true
 iR:Fw b c.iR
 pl:c.iA<=3
 e:P5 c.e
 ln:c.im<8
 st:b.g.J c.gH c.kind c.gZ c.unit c.iS
structure Nv(b:Bd)(n m ce:Nat)(iu:Int)(c:jf):Prop extends qD b n m ce c where
 a1:c.kind≠4->c.kind≠5->c.q.nodes≠[]\/c.kind≠1->c.iS<n*ce
 u0:c.kind=5->c.q.nodes=[]
 c2:c.q.a.kd=2->qd c.iR.kd c.iR.val.length=true/\(c.kind=1\/c.kind=3)
 q:QU b n m c.q
 nr:c.q.nodes≠[]->c.q.a.nr<=iu
 e1:c.q.a.kd=4->c.e.wh≠0
def Vf(n m:Nat)(lay:List (List Int)):Prop:=tC lay (jC n m)
structure Xk(b:Bd)(X:Cx):Prop where
 n1:1<=X.n/\X.n<=3
 m1:1<=X.m/\X.m<=3
 v1:1<=X.vo/\X.vo<=5
 v2:X.vo%2=1
 c1:1<=X.ce/\X.ce<=16
 id:1000<=X.id/\X.id<=1099
 lay:Vf X.n X.m X.lay
 e:0<=X.c/\X.c<=b.E
 t:0<=X.kH/\X.kH<=b.E+1
 me:0<=X.mv.c/\X.mv.c<=b.E+1
 ba:0<=X.jB/\X.jB<=b.B
 mb:0<=X.mv.jB/\X.mv.jB<=b.B
 d:0<=X.iu/\X.iu<=b.K
 f:(X.res.length:Int)<=b.N
 rv:∀r∈X.res,P5 r
 pl:X.dd.length<=8
 a:∀c∈X.dd,Nv b X.n X.m X.ce X.iu c
 pr:QU b X.n X.m X.jg
 sl:QU b X.n X.m X.mv.b
 vt:QW b X.vo X.mv.a
 bg:∀z∈X.mv.E,CU b z.2
 bl:X.mv.E.length<=14
 mv:X.mv.value.length<=255/\mA X.mv.value
 nk:MR X
 pd:sL X
 rp:∀k r,X.res[k]?=some r->(r.wh=0↔∃c∈X.dd,c.gH=k)
 oj:∀(k:Nat) (r:Rz),b.g.R[k]?=some r->r.wh≠0->X.res[k]?=some r
 cf:(X.n=b.g.n/\X.m=b.g.m)/\X.vo=b.g.v/\X.ce=b.g.c/\X.id=b.g.id
section
variable{b b':Bd}
def Fw.L{t:Ct}(h:Fw b t)(k:b.ln b'):Fw b' t:=⟨h.kd,h.cl,⟨h.ca.1,bt h.ca.2 k.n⟩,h.vl,h.a⟩
def Fh.L{t:An}(h:Fh b t)(k:b.ln b'):Fh b' t:=⟨h.wh,⟨h.ep.1,by have:=h.ep.2;have:=k.e;omega⟩,h.EB,h.ct.L k,h.tk⟩
def CU.L{t:Vo}(h:CU b t)(k:b.ln b'):CU b' t:=⟨h.wh,⟨h.pr.1,bt h.pr.2 k.ba⟩,⟨h.ba.1,bt h.ba.2 k.ba⟩,h.vl,h.a⟩
def T5.L{t:Rq}(h:T5 b t)(k:b.ln b'):T5 b' t:=⟨h.ln,⟨h.nr.1,bt h.nr.2 k.k⟩,⟨h.ep.1,by have:=h.ep.2;have:=k.e;omega⟩⟩
def OL.L{t:Rq}(h:OL b t)(k:b.ln b'):OL b' t:=⟨h.toT5.L k,h.kd,h.pl,h.ct.L k,h.c2,h.c0⟩
def ON.L{t:Rq}(h:ON b t)(k:b.ln b'):ON b' t:=⟨h.toT5.L k,h.kd,⟨h.pl.1,bt h.pl.2 k.ba⟩,h.c0,h.vl,h.a,h.v0⟩
def QK.L{α:Type}{R i:Rq->Prop}{j d:α->Prop}{q:Qn α}(h:QK R j iQ q)(y:∀r,R r->i r)(A:∀a,j a->d a):QK i d iQ q:=⟨λe=>y _ (h.a e),h.nl,h.nd,h.id,λz D=>A _ (h.ak z D),h.ai,h.an,h.k0,h.v0⟩
def QK.zero{α:Type}{R:Rq->Prop}{d:α->Prop}:QK R d iQ (Qn.zero:Qn α):=⟨λe=>absurd rfl e,by simp[Qn.zero],by simp[Qn.zero],by simp[Qn.zero],by simp[Qn.zero],by simp[Qn.zero],by simp[Qn.zero],by simp[Qn.zero,Rq.zero],by simp[Qn.zero,Rq.zero,no]⟩
def QK.mP{α:Type}{R:Rq->Prop}{i:α->Prop}{q:Qn α}(h:QK R i iQ q)(d):QK R i iQ {q with mP:=d}:=⟨h.a,h.nl,h.nd,h.id,h.ak,h.ai,h.an,h.k0,h.v0⟩
def Qn.pW{α:Type}{q:Qn α}{d fr:Int}:q.E d fr=true↔q.a.nr=d/\fr∈q.nodes/\∀z∈q.B,z.1≠fr:=by unfold Qn.E Qn.M;constructor;all_goals simp_all
def QK.add{α:Type}{R:Rq->Prop}{d:α->Prop}{q:Qn α}(h:QK R d iQ q){j fr:Int}(A:q.E j fr=true){a:α}(L:d a):QK R d iQ (q.add fr a):=by
 obtain⟨M,D,F⟩:=Qn.pW.1 A;refine⟨h.a,h.nl,h.nd,h.id,λz hz=>?_,λz hz=>?_,?_,h.k0,h.v0⟩
 .obtain hz|hz:=aT.1 hz
  .exact h.ak z hz
  simp_all
 .obtain hz|hz:=aT.1 hz
  .exact h.ai z hz
  simp at hz;subst hz;exact D
 show((q.B++[(fr,a)]).map _).Nodup;rw[aZ,cX];refine⟨h.an,aq,λx H y i=>?_⟩;simp at i;subst i;obtain⟨z,hz,rfl⟩:=aD.1 H;exact F z hz
def qD.L{ce:Nat}(h:qD b n m ce c)(k:b.ln b')(i:∀a b1 c d e,b.g.J a b1 c d e->b'.g.J a b1 c d e):qD b' n m ce c:=⟨h.kd,h.ad,h.un,h.gZ.L k,h.o1,h.iR.L k,h.pl,h.e,h.ln,i _ _ _ _ _ h.st⟩
def Nv.L{ce:Nat}{i:Int}(h:Nv b n m ce a c)(k:b.ln b')(j:∀a b1 c d e,b.g.J a b1 c d e->b'.g.J a b1 c d e)(y:a<=i):Nv b' n m ce i c:=
 ⟨h.toqD.L k j,h.a1,h.u0,h.c2,h.q.L (λ_ e=>e.L k) λ_ e=>e.L k,λe=>bt (h.nr e) y,h.e1⟩
def Xk.L(h:Xk b X)(k:b.le b'):Xk b' X:=by have H:=k.e;have M:=k.ba;have P:=k.k;have Q:=k.n;exact⟨h.n1,h.m1,h.v1,h.v2,h.c1,h.id,h.lay,⟨h.e.1,gI h.e.2⟩,⟨h.t.1,gI h.t.2⟩,⟨h.me.1,gI h.me.2⟩,⟨h.ba.1,gI h.ba.2⟩,⟨h.mb.1,gI h.mb.2⟩,⟨h.d.1,gI h.d.2⟩,gI h.f,h.rv,h.pl,λc d=>(h.a c d).L k.toln k.g.J iI,h.pr.L (λ_ e=>e.L k.toln) λ_ e=>e.L k.toln,h.sl.L (λ_ e=>e.L k.toln) λ_ e=>e.L k.toln,h.vt.L (λ_ e=>e.L k.toln) λ_ e=>e.L k.toln,λz i=>(h.bg z i).L k.toln,h.bl,h.mv,h.nk,h.pd,h.rp,by rw[k.g.R];exact h.oj,by obtain⟨⟨j,y⟩,A,D,F⟩:=k.g.s;rw[j,y,A,D,F];exact h.cf⟩
end
section
variable{b b':Bd}{c0:jf}
def Bd.up(b:Bd)(k:Int):Bd:={b with K:=b.K+k}
def Bd.F(b:Bd){k:Int}(h:0<=k):b.le (b.up k):=⟨⟨iI,by show b.K<=b.K+k;omega,iI,iI⟩,Gh.le.refl _⟩
def Bd.Oa{b:Bd}{k j:Int}(h:k<=j):(b.up k).le (b.up j):=⟨⟨iI,by show b.K+k<=b.K+j;omega,iI,iI⟩,Gh.le.refl _⟩
def Bd.V6{b b':Bd}{k:Int}(h:b.le b')(d:b.K+k<=b'.K):(b.up k).le b':=⟨⟨h.e,d,h.n,h.ba⟩,h.g⟩
def Bd.le.refl(b:Bd):b.le b:=⟨⟨iI,iI,iI,iI⟩,Gh.le.refl _⟩
def xp:∀n∈[1,2,3],∀m∈[1,2,3],(kz (jC n m)).Nodup/\(kz (jC n m)).length=n*m/\(∀u∈kz (jC n m),0<=u/\u<n*m)/\(jC n m).length=n/\(∀ch∈jC n m,ch.length=m):=au
theorem tC.all{L:List (List Int)}(h:tC R L):(kz R).Sublist (kz L):=by
 induction L generalizing R with
 |nil=>have:=h.1;simp_all
 |cons ch L d=>
  cases R with
  |nil=>exact fp _
  |cons r R=>have j:tC R L:=⟨by have:=h.1;simpa using this,λi y c' A D=>h.2 (i+1) y c' (iG A) (iG D)⟩;exact ((h.2 0 r ch rfl rfl).1).append (d j)
def tC.H{L M:List (List Int)}(h:tC R L)(k:tC L M):tC R M:=by refine⟨h.1.H k.1,λi r ch d j=>?_⟩;have y:=(aj.1 d).1;have A:=h.1;have e:L[i]?=some L[i]:=ah C;exact⟨(h.2 i r _ d e).1.H (k.2 i _ ch e j).1,(h.2 i r _ d e).2⟩
def I6(h:1<=k/\k<=3):k∈[1,2,3]:=by have:k=1\/k=2\/k=3:=C;simp_all
def Xk.first(h:Xk b X):(kz (jC X.n X.m)).Nodup/\(kz (jC X.n X.m)).length=X.n*X.m/\(∀u∈kz (jC X.n X.m),0<=u/\u<X.n*X.m)/\(jC X.n X.m).length=X.n/\(∀ch∈jC X.n X.m,ch.length=X.m):=by exact_mod_cast xp X.n (I6 h.n1) X.m (I6 h.m1)
def tE(d:n<=3)(i:m<=3):n*m<=9:=fF d i
def IV(d:n<=3)(i:m<=16):n*m<=48:=fF d i
def Xk.all(h:Xk b X):(kz X.lay).Nodup/\(kz X.lay).length<=9/\∀u∈kz X.lay,r8 X.n X.m u:=by obtain⟨i,A,j,_⟩:=h.first;have d:=h.lay.all;have:=tE h.n1.2 h.m1.2;exact⟨i.sublist d,gI d.length_le,λu y=>by have:=j u (d.subset y);unfold r8;exact_mod_cast this⟩
def Xk.ry(h:Xk b X)(d:ch∈X.lay):ch.Nodup/\1<=ch.length/\ch.length<=3/\∀u∈ch,r8 X.n X.m u:=by obtain⟨r,i,j,y⟩:=h.lay.mem d;obtain⟨F,_,_,_,A⟩:=h.first;have H:=h.m1;have L:=A r i;have M:=j.length_le;have P:0<ch.length:=cU.2 y;refine⟨h.all.1.sublist (fE d),C,C,λu D=>h.all.2.2 u (fq.2 ⟨ch,d,D⟩)⟩
def Xk.td(h:Xk b X)(_ha:0<=a):X.chain a∈X.lay:=by unfold Cx.chain;have d:=h.n1.1;have i:X.lay.length=X.n:=h.lay.1.H h.first.2.2.2.1;have j:=dq a (show(X.n:Int)≠0 by omega);have y:=de a (show(0:Int)<X.n by omega);simp_all
def nE{d:jf}(h:d∈(X.put c').dd):d=c'\/(d∈X.dd/\d.gH≠c'.gH):=by obtain⟨e,i,rfl⟩:=aD.1 h;by_cases j:e.gH=c'.gH;all_goals simp_all
def MP(k):(∃c∈X.dd,c.gH=k)↔∃c∈(X.put c').dd,c.gH=k:=by
 have j:∀d:jf,(if d.gH=c'.gH then c' else d).gH=d.gH:=λd=>by split<;>simp_all
 constructor
 .rintro⟨c,i,e⟩;exact⟨_,aD.2 ⟨c,i,rfl⟩,jP j e⟩
 rintro⟨c,i,e⟩;obtain⟨d,y,rfl⟩:=aD.1 i;exact⟨d,y,by rwa[j]at e⟩
def sL.eq(h:sL X)(D:c∈X.dd)(F:c'∈X.dd)(H:c.gH=c'.gH):c=c':=by
 obtain⟨i,y,rfl⟩:=aV.1 D;obtain⟨j,A,rfl⟩:=aV.1 F;have d:=dE.1 h.gH;obtain e|e|e:=fh i j
 .have:=d i j y A e;omega
 .simp_all
 have:=d j i A y e;omega
def sL.Vv(h:sL X)(y:c0∈X.dd)(A:c'.gH=c0.gH)(D:c'.im=c0.im):sL (X.put c'):=by
 have F:∀d:jf,(if d.gH=c'.gH then c' else d).gH=d.gH:=λd=>by split<;>simp_all
 have H:∀d∈X.dd,(if d.gH=c'.gH then c' else d).im=d.im:=λd i=>by
  split
  .rename_i e;rw[D,h.eq y i (by rw[<-A,e])]
  rfl
 refine⟨cj.2 (h.gH.imp λe=>by rw[F,F];exact e),λd i=>?_,cj.2 (List.Pairwise.imp_of_mem (λj L e=>by rw[H _ j,H _ L];exact e) h.im),λd i=>?_⟩
 .obtain rfl|⟨j,_⟩:=nE i
  .show d.gH<X.res.length;rw[A];exact h.lt c0 y
  exact h.lt d j
 obtain rfl|⟨j,_⟩:=nE i
 .rw[D];exact h.a c0 y
 exact h.a d j
def Xk.put(h:Xk b X)(L:c0∈X.dd)(M:c'.gH=c0.gH)(P:c'.im=c0.im)(Q:Nv b X.n X.m X.ce X.iu c')(j:c'.q.nodes≠[]->∀d∈X.dd,d.gH≠c'.gH->d.q.nodes≠[]->d.q.a.nr≠c'.q.a.nr):Xk b (X.put c'):=by
 refine⟨h.n1,h.m1,h.v1,h.v2,h.c1,h.id,h.lay,h.e,h.t,h.me,h.ba,h.mb,h.d,h.f,h.rv,by show(X.dd.map _).length<=8;rw[ay];exact h.pl,λd y=>?_,h.pr,h.sl,h.vt,h.bg,h.bl,h.mv,λd y e T i A D=>?_,h.pd.Vv L M P,λk r j=>(h.rp k r j).H (MP k),h.oj,h.cf⟩
 .obtain rfl|⟨i,_⟩:=nE y
  .exact Q
  exact h.a d i
 obtain rfl|⟨W,Z⟩:=nE y<;>obtain rfl|⟨F,Y⟩:=nE T
 .rfl
 .exact absurd D.symm (j i e F Y A)
 .simp_all
 exact h.nk d W e F i A D
def Xk.J(h:Xk b X):Xk (b.up 1) {X with iu:=X.iu+1}:=by have d:=h.L (b.F (k:=1) au);exact⟨h.n1,h.m1,h.v1,h.v2,h.c1,h.id,h.lay,d.e,d.t,d.me,d.ba,d.mb,⟨by have:=h.d.1;show 0<=X.iu+1;omega,by have:=h.d.2;show X.iu+1<=b.K+1;omega⟩,d.f,h.rv,h.pl,λc i=>(d.a c i).L (Bd.le.refl _).toln (λ_ _ _ _ _ e=>e) (by show X.iu<=X.iu+1;omega),d.pr,d.sl,d.vt,d.bg,h.bl,h.mv,h.nk,⟨h.pd.gH,h.pd.lt,h.pd.im,h.pd.a⟩,h.rp,h.oj,h.cf⟩
structure Vm(b:Bd)(X:Cx)(c:jf)(nodes:List Int)(kd pl:Int)(t:Ct):Prop where
 k5:c.kind≠5
 a1:c.kind≠4->c.iS<X.n*X.ce
 nl:nodes.length<=14
 nd:nodes.Nodup
 id:∀u∈nodes,r8 X.n X.m u
 k3:kd=2\/kd=3\/kd=4
 p1:0<=pl/\pl<=48
 ct:Fw b t
 c2:kd=2->qd t.kd t.val.length=true/\qd c.iR.kd c.iR.val.length=true/\(c.kind=1\/c.kind=3)
 c0:kd≠2->t.val=[]
 e1:kd=4->c.e.wh≠0
def Jd(h:Xk b X):Fw b no:=⟨au,au,⟨au,by have:=h.f;show 0<=b.N;omega⟩,au,by simp[no,mA]⟩
def Xk.qF(h:Xk b X)(L:c0∈X.dd)(M:c'.gH=c0.gH)(P:c'.im=c0.im)(j:qD b X.n X.m X.ce c'){y:List Int}{D H:Int}{t:Ct}(i:Vm b X c' y D H t):Xk (b.up 1) (X.qF c' y D H t):=by
 have A:=(b.F (k:=1) au).toln;refine h.J.put L M P ?_ λ_ d Q _ T e=>?_
 .refine⟨⟨j.kd,j.ad,j.un,j.gZ.L A,j.o1,j.iR.L A,j.pl,j.e,j.ln,j.st⟩,λW _ _=>i.a1 W,λY=>absurd Y i.k5,λe=>⟨(i.c2 e).2.1,(i.c2 e).2.2⟩,⟨λ_=>⟨⟨⟨eG _,by have:=j.ln;show(c'.im:Int)<10;omega⟩,⟨by have:=h.d.1;show 0<=X.iu+1;omega,by have:=h.d.2;show X.iu+1<=b.K+1;omega⟩,h.e.1,by have:=h.e.2;show X.c<=b.E+1;omega⟩,.inr i.k3,i.p1,i.ct.L A,λe=>(i.c2 e).1,i.c0⟩,i.nl,i.nd,i.id,λz F=>by simp[Qn.new]at F,λz F=>by simp[Qn.new]at F,by simp[Qn.new],?_,?_⟩,λ_=>iI,i.e1⟩
  .obtain e|e|e:=i.k3<;>(show 0<=D/\D<=7;omega)
  have:=i.ct.vl;show t.val.length<=255;omega
 have:=(h.a d Q).nr T;change d.q.a.nr=X.iu+1 at e;omega
end
end Go.Proofs.YtbghhbpacijmmaaGreat
