import Derived.Deep.MidRow
import Derived.Deep.DeepCutAuto
import Derived.Test.YtbghhbpacijmmaaGreatL09
open Go.Proofs.Tryz
namespace Go.Proofs.YtbghhbpacijmmaaGreat
set_option maxRecDepth 99999
set_option maxHeartbeats 0
set_option linter.defProp false
set_option linter.unusedVariables false
open Go.RowKit Go.Maps
attribute [local go_sem ↓] Go.wp_at_zero Go.wp_at_succ
open Go.ChangeMaps (setBlock)
variable {w w' w1 W1:World} {X X':Cx} {c c' c0:jz} {gH gI qb:Nat->Nat} {p t n g m k ce:Nat} {V V':CV} {cv cv':kM} {ms xs:List Value} {iQ:Int->Prop} {v:Value} {ds l rr ch:List Int} {x nr fr a:Int} {ps:List (Int×List Int)} {r:Rz} {S:Nat->Prop}
structure Vf(X:Cx):Prop where
 p:yD X.d
 s:yD X.mv.a
 v:yD X.mv.A
 c:∀c∈X.a,yD c.q
def Cx.Gc(X:Cx):List (Int×List Int):=X.jL.map λz=>(z.1,Vz z.2)
def Cx.SF(X:Cx):X.Gc=(((X.a.flatMap λc=>c.q.M)++X.d.M)++X.mv.a.M)++X.mv.A.M:=by unfold Cx.Gc Cx.jL Qn.M;simp[List.map_flatMap]
theorem Bt(l:List jz)(h:∀c∈l,yD c.q):(l.flatMap λc=>c.q.M).length<=100*l.length:=by
 induction l with
 |nil=>simp
 |cons c l i=>rw[dP,aO,df];have y:=i λd j=>h d (nN j);have A:=Qn.tE c.q;have F:=(h c gG).n;omega
def sw.base{base B:Nat}(h:sw B w v ps xs)(y:base<=B):sw base w v ps xs:=
 ⟨gZ h.ie λb j=>aF y (h.ie.lt b j).1,λi z F=>by
  obtain⟨H,u,L,A⟩:=h.jU i z F
  exact⟨H,u,L,gZ A λb j=>aF y (A.lt b j).1⟩,h.ap⟩
theorem Uv(h:jf w gH t p qb X V)(bm:100<=t)(hr:X.c.length<=1000000000)(h8:X.a.length<=8)(hO:Vf X):iB 160 #[O p] w λen w'=>∃v xs,en=gX v/\sw w.heap.size w' v X.Gc xs/\jf w' (iq gH w.heap.size 5) t p qb X.mF V/\gL (λb=>Mc t (gH b)) w w':=by
 obtain⟨a8,a9,t0,t1,t2⟩:=fx il.CR;let⟨j,aY⟩:=gJ (iq gH w.heap.size 5);have bn:Hid (∀b,b<w.heap.size->j b=gH b):=λb Q=>by rw[<-aY];exact gV _ _ _ _ Q
 have y:Hid (∀b,w.heap.size<=b->j b=5):=λb Q=>by rw[<-aY];exact iJ _ _ _ _ Q
 rw[aY];have HS:=gP (zT h hr h8);have H1:Hid (∀W,Bl w W->jf W j t p qb X V):=λW hW=>h.bl hW bn;let⟨cp,A,H8,HO⟩:=jR h.r.a bm h8 hO;have lp:=h.A;unfold ptr at HS;clear h hr h8 hO bm aY;go_enter func160,ntmps160;go_wp2_with(go_at_call 192;refine HS.L ?_;rintro e w1⟨v,rfl,ho,ag⟩;obtain⟨a,cap,rfl⟩:=jw ho;let⟨HC,F⟩:=gO ho ag;clear HS ag ho);go_loopw[3,9](λd i wr=>∃k:Nat,k<=X.a.length/\i=I k/\(∃xs,Hid (sw w1.heap.size wr d ((X.a.take k).flatMap λc=>c.q.M) xs))/\Hid (jf wr j t p qb (X.uX ((X.a.take k).map jz.gU)) V)/\Hid (gL (λb=>Mc t (j b)) w1 wr)) λ_ i _=>X.a.length-(Go.RowKit.intOf i).toNat
 case atStart=>exact⟨0,ju,rfl,⟨[],sw.nil _ _⟩,by unfold Hid;rw[eE,eT,Cx.Ni];exact H1 w1 F,ug⟩
 obtain⟨k,hk,rfl,⟨xs,HP⟩,HK,HW⟩:=hrel;by_cases ja:k<X.a.length
 .have ea:(k:Int)<(X.a.length:Int):=C;let⟨g,eb,cq⟩:=mo HC C;simp at cq;obtain⟨rfl,rfl⟩:=cq;have a0:=HC.cellAt k C;rw[aK,ah ja]at a0;have bD:=(HC.lt g rfl);have cr:¬Mc t (j g):=by rw[y.o g bD.1];unfold Mc;have:=A.o;omega
  have k1:=(HW.cell bD.2 cr).H a0;simp only[bG]at k1;have ec:=af bD.2 HW.size;have ad:X.a[k]∈X.a:=aL ja;have ai:X.a[k].gU∉(X.a.take k).map jz.gU:=λhm=>by let⟨d,hd,he⟩:=aD.1 hm;obtain⟨i,hi,rfl⟩:=aV.1 hd;rw[bH]at hi;rw[dM]at he;have:=dE.1 cp.gU i k C ja C;omega
  have HQ:=gP (NT HK (X.BF ad _ ai) (HO.c _ ad));rw[<-Cx.Mf X cp.o ad]at HQ;have bE:(X.a.take (k+1))=X.a.take k++[X.a[k]]:=aM ja;have dv:Hid ((X.a.take (k+1)).map jz.gU=(X.a.take k).map jz.gU++[X.a[k].gU]):=by unfold Hid;rw[bE,aZ];rfl
  have bR:Hid (((X.a.take (k+1)).flatMap λc=>c.q.M)=((X.a.take k).flatMap λc=>c.q.M)++X.a[k].q.M):=by unfold Hid;rw[bE,eZ];simp
  have ak:=Bt (X.a.take k) λd hd=>HO.c d (cQ hd);have b0:=Qn.tE X.a[k].q;have bT:=(HO.c _ ad).n;rw[bH]at ak;rw[<-dv.o]at HQ;obtain⟨lk,cs⟩:=HK.r.d _ (X.BF ad _ ai);have lq:=cs.lt;have ct:k<X.a.length/\True:=⟨ja,trivial⟩;clear a0 cr ai bE cs;let⟨q,cx⟩:=gJ (qb X.a[k].gU);rw[cx]at HQ k1 lq;clear cx;let⟨ps,cP⟩:=gJ ((X.a.take k).flatMap λc=>c.q.M);let⟨qs,cS⟩:=gJ (X.a[k].q.M);rw[cP]at HP bR ak;rw[cS]at HQ bR b0;clear cP cS;have bo:=gP ct;clear ct;have ee:X.a.length<=8:=H8.o;have dw:Hid (ps.length+qs.length<=maxLen):=by have:=H8.o;unfold Hid maxLen;omega
  have dO:Hid ((ps.length+qs.length)*32<=140737488355328):=by have:=H8.o;unfold Hid;omega
  clear ak b0 bT ad;go_wp2_with fail;refine HQ.L ?_;rintro en w2⟨v2,ys,rfl,bV,cV,b1⟩;have d0:=b1.size;have al:=gP (HP.only b1 λb Q _ e=>by rw[y.o b (aF F.lt Q)]at e;unfold Mc at e;have:=A.o;omega);obtain⟨a2,c2,rfl⟩:=jw bV.ie;let⟨b2,d1,d2,d3⟩:=jR bV cV b1 HP.low;let⟨a1,c1,dS⟩:=jw HP.ie;have bW:=gP (aF HW.size d0);clear bV cV b1 HQ HK HP;subst dS;go_wp2_with(at_builtin;refine nI _ rfl _ _ 176 rfl w1.heap.size 179 a8 _ 2 32 underlying176 a9 t0 t1 t2 rfl gF _ ps.length xs rfl al.ie _ qs.length wr.heap.size ys rfl b2.ie b2.one dw dO bW ?_);intro v3 w3 a4 b3 _;have d4:=gP (al.app (B:=wr.heap.size) d3 b2 HW.size a4 b3);rw[<-bR.o]at d4;have e0:=gP (d1.only b3 (gI:=j) (λb _ e=>by rw[y.o b (aF F.lt (al.ie.lt b e).1)];have:=A.o;omega) hU);have e1:Hid (gL (λb=>Mc t (j b)) w1 w3):=(HW.H d2).andThen b3 λb Q e=>by have:=(al.ie.lt b e).1;omega
  obtain⟨a3,c3,rfl⟩:=jw a4;clear a4 b3 al b2 d1 d2;go_wp2;go_roundw
  case rel=>exact⟨k+1,gS bo.1,iD,⟨_,d4⟩,e0,e1⟩
  have:=bo.1;simp[Go.RowKit.intOf];omega
 have e2:k=X.a.length:=C;subst e2;have bp:X.uX ((X.a.take X.a.length).map jz.gU)={X with a:=X.a.map jz.rY}:=Cx.Mg X _ λc hc=>by rw[bZ];exact aD.2 ⟨c,hc,rfl⟩
 rw[bZ]at HP;rw[bp]at HK;have d5:=Bt X.a HO.c;have ak:=Qn.tE X.d;have b0:=Qn.tE X.mv.a;have bT:=Qn.tE X.mv.A;have e3:=HO.p.n;have e4:=HO.s.n;have e5:=HO.v.n;have hE:=gP X.SF;let⟨p0,d6⟩:=gJ (X.a.flatMap λc=>c.q.M);rw[d6]at HP hE d5;have ag:Hid ((p0.length+X.d.M.length)*32<=140737488355328/\p0.length+X.d.M.length<=maxLen):=by have:=H8.o;unfold Hid maxLen;omega
 have bX:Hid ((p0.length+X.d.M.length+X.mv.a.M.length)*32<=140737488355328/\p0.length+X.d.M.length+X.mv.a.M.length<=maxLen):=by have:=H8.o;unfold Hid maxLen;omega
 have b4:Hid ((p0.length+X.d.M.length+X.mv.a.M.length+X.mv.A.M.length)*32<=140737488355328/\p0.length+X.d.M.length+X.mv.a.M.length+X.mv.A.M.length<=maxLen):=by have:=H8.o;unfold Hid maxLen;omega
 clear d5 ak b0 bT e3 e4 e5 bp d6;let⟨ef,d7⟩:=gO HW.size (N7 HK HO.p);have eg:=HK.A;let⟨ei,ej,d8⟩:=jw HP.ie;subst d8;go_wp2_with fail;refine d7.L ?_;rintro en ek⟨v5,ys5,rfl,c4,d9,b5⟩;have da:=b5.size;have T:=gP (HP.only b5 λb Q _ e=>by rw[y.o b (aF F.lt Q)]at e;unfold Mc at e;have:=A.o;omega);obtain⟨a5,c5,rfl⟩:=jw c4.ie;let⟨aa,bq,bs⟩:=iz c4 d9 b5;let⟨c8,b6⟩:=gO HP.low (aF HW.size da);clear c4 d9 b5 d7 HK HP;go_wp2_with(at_builtin;refine nI _ rfl _ _ 176 rfl w1.heap.size 179 a8 _ 2 32 underlying176 a9 t0 t1 t2 rfl gF _ (p0.length) xs rfl T.ie _ (X.d.M.length) wr.heap.size ys5 rfl aa.ie aa.one ag.2 ag.1 b6 ?_);intro el c9 L b7 _;have am:=gP (T.app (B:=wr.heap.size) c8 aa HW.size (L) b7);have ca:=gP (bq.only b7 (gI:=j) (λb _ e=>by rw[y.o b (aF F.lt (T.ie.lt b e).1)];have:=A.o;omega) hU);have cb:Hid (gL (λb=>Mc t (j b)) w1 c9):=(HW.H bs).andThen b7 λb Q e=>by have:=(T.ie.lt b e).1;omega
 let⟨b8,an⟩:=gJ (p0++X.d.M);have ap:p0.length+X.d.M.length=b8.length:=by rw[<-an,aO]
 rw[an]at am hE;rw[ap]at L bX b4;clear an ap;obtain⟨em,ep,rfl⟩:=jw L;have db:∃b9,b9=xs++ys5:=⟨_,rfl⟩;let⟨b9,bv⟩:=db;rw[<-bv]at am;clear L b7 T aa bq bs bv;have dc:=gP (NG ca HO.s);have eq:=ca.A;go_wp2_with fail;refine dc.L ?_;rintro en er⟨v6,ys6,rfl,cc,dd,ba⟩;have dg:=ba.size;have Y:=gP (am.only ba λb Q _ e=>by rw[y.o b (aF F.lt Q)]at e;unfold Mc at e;have:=A.o;omega);obtain⟨a6,c6,rfl⟩:=jw cc.ie;let⟨ab,bw,bx⟩:=iz cc dd ba;let⟨cd,bb⟩:=gO am.low (aF cb.size dg);clear cc dd ba dc ca am;go_wp2_with(at_builtin;refine nI _ rfl _ _ 176 rfl w1.heap.size 179 a8 _ 2 32 underlying176 a9 t0 t1 t2 rfl gF _ b8.length b9 rfl Y.ie _ (X.mv.a.M.length) c9.heap.size ys6 rfl ab.ie ab.one bX.2 bX.1 bb ?_);intro es cf M bc _;have aq:=gP (Y.app (B:=c9.heap.size) cd ab cb.size (M) bc);have cg:=gP (bw.only bc (gI:=j) (λb _ e=>by rw[y.o b (aF F.lt (Y.ie.lt b e).1)];have:=A.o;omega) hU);have ci:Hid (gL (λb=>Mc t (j b)) w1 cf):=(cb.H bx).andThen bc λb Q e=>by have:=(Y.ie.lt b e).1;omega
 let⟨bd,ar⟩:=gJ (b8++X.mv.a.M);have au:b8.length+X.mv.a.M.length=bd.length:=by rw[<-ar,aO]
 rw[ar]at aq hE;rw[au]at M b4;clear ar au;obtain⟨eu,ev,rfl⟩:=jw M;have dj:∃be,be=b9++ys6:=⟨_,rfl⟩;let⟨be,bz⟩:=dj;rw[<-bz]at aq;clear M bc Y ab bw bx bz;have dk:=gP (Pu cg HO.v);have ew:=cg.A;go_wp2_with fail;refine dk.L ?_;rintro en ex⟨v7,ys7,rfl,ck,dl,bg⟩;have dn:=bg.size;have Z:=gP (aq.only bg λb Q _ e=>by rw[y.o b (aF F.lt Q)]at e;unfold Mc at e;have:=A.o;omega);obtain⟨a7,c7,rfl⟩:=jw ck.ie;let⟨ac,bA,bB⟩:=iz ck dl bg;let⟨cl,bi⟩:=gO aq.low (aF ci.size dn);clear ck dl bg dk cg aq;go_wp2_with(at_builtin;refine nI _ rfl _ _ 176 rfl w1.heap.size 179 a8 _ 2 32 underlying176 a9 t0 t1 t2 rfl gF _ bd.length be rfl Z.ie _ (X.mv.A.M.length) cf.heap.size ys7 rfl ac.ie ac.one b4.2 b4.1 bi ?_);intro ez e6 P bl _;have cn:=gP (Z.app (B:=cf.heap.size) cl ac ci.size (P) bl);have e7:=gP (bA.only bl (gI:=j) (λb _ e=>by rw[y.o b (aF F.lt (Z.ie.lt b e).1)];have:=A.o;omega) hU);have e8:Hid (gL (λb=>Mc t (j b)) w1 e6):=(ci.H bB).andThen bl λb Q e=>by have:=(Z.ie.lt b e).1;omega
 let⟨e9,av⟩:=gJ (bd++X.mv.A.M);have aw:bd.length+X.mv.A.M.length=e9.length:=by rw[<-av,aO]
 rw[av]at cn hE;rw[aw]at P;clear av aw;obtain⟨f0,f1,rfl⟩:=jw P;have dt:∃co,co=be++ys7:=⟨_,rfl⟩;let⟨co,bC⟩:=dt;rw[<-bC]at cn;clear P bl Z ac bA bB bC;go_wp2;go_ret;refine⟨_,co,rfl,?_,e7,?_⟩
 .rw[hE.o];exact cn.base F.lt
 exact(gL.B F).andThen e8 λb Q e=>by rwa[bn.o b Q]at e
theorem O7(Q:World->Prop)(h:iB 97 #[O p] w λi w'=>i=iw/\Q w'):iB 57 #[O p] w λi w'=>i=iw/\Q w':=by
 have H:=gP h;clear h;go_enter func57,ntmps57;go_wp2_with fail;refine gT H λw' j=>?_;have y:=gP j;clear H j;go_wp2;go_end0;exact⟨rfl,y⟩
theorem BS(h:jf w gH t p qb X V)(A:X.a.length<=8)(F:∀c∈X.a,c.q.nodes.length<=100):iB 24 #[O p] w λj w'=>∃a cap,j=gX (gN a X.jA.length cap)/\w'.ownsRow w.heap.size 3 1 (gN a X.jA.length cap) X.jA.length (X.jA.map λ(n:Nat)=>I (n:Int))/\Bl w w':=by
 have H:=gP (F5 h A F);clear h;go_enter func24,ntmps24;go_wp2_with fail;refine H.L ?_;rintro j w'⟨v,rfl,i,y⟩;obtain⟨a,cap,rfl⟩:=jw i;have L:=m9 i y;clear H i y;go_wp2;go_ret;exact⟨a,cap,rfl,L⟩
theorem RF(h:jf w gH t p qb X V)(i:100<=t)(F:X.c.length<=1000000000)(L:X.a.length<=8)(M:Vf X):iB 99 #[O p] w λy w'=>∃a cap xs,y=gX (gN a X.Gc.length cap)/\sw w.heap.size w' (gN a X.Gc.length cap) X.Gc xs/\jf w' (iq gH w.heap.size 5) t p qb X.mF V/\gL (λb=>Mc t (gH b)) w w':=by
 have H:=gP (Uv h i F L M);clear h;go_enter func99,ntmps99;go_wp2_with fail;refine H.L ?_;rintro y w'⟨v,xs,rfl,j,A⟩;obtain⟨a,cap,rfl⟩:=jw j.ie;have P:=m9 j A;clear H j A;go_wp2;go_ret;exact⟨a,cap,xs,rfl,P⟩
def Cx.pK(X:Cx)(i:∀d∈X.a,d.gU<X.c.length)(h:c.gU=X.c.length)(y:c'.gU=X.c.length):(X.je c).put c'=X.je c':=by
 unfold Cx.je Cx.put;simp only[aZ,bj];congr 2
 .conv=>rhs;rw[<-eI X.a]
  exact bf λd j=>by rw[az (gS (i d j))];rfl
 simp_all
def jf.RM(h:jf w gH t p qb X V)(i:c∈X.a)(a):jf (w.setCell (U (qb c.gU) 3) (I a)) gH t p qb (X.put {c with ij:=a}) V/\gL (λb=>Mc t (gH b)) w (w.setCell (U (qb c.gU) 3) (I a)):=by obtain⟨cv,k⟩:=h.r.d c i;have j:gL _ w (w.setCell (U (qb c.gU) 3) (I a)):=(gL.refl (λb=>b=qb c.gU) w).setCell (U (qb c.gU) 3) (.inl rfl) _;exact h.TH i k j (k.A j (jx 3 _ w _ k.hq) rfl k.ie k.jb k.e k.q) rfl rfl
def jf.Xr(h:jf w gH t p qb X V)(i:c∈X.a)(a):jf (w.setCell (U (qb c.gU) 4) (I a)) gH t p qb (X.put {c with unit:=a}) V/\gL (λb=>Mc t (gH b)) w (w.setCell (U (qb c.gU) 4) (I a)):=by obtain⟨cv,k⟩:=h.r.d c i;have j:gL _ w (w.setCell (U (qb c.gU) 4) (I a)):=(gL.refl (λb=>b=qb c.gU) w).setCell (U (qb c.gU) 4) (.inl rfl) _;exact h.TH i k j (k.A j (jx 4 _ w _ k.hq) rfl k.ie k.jb k.e k.q) rfl rfl
def jf.Wf(h:jf w gH t p qb X V)(i:c∈X.a)(a):jf (w.setCell (U (qb c.gU) 5) (I a)) gH t p qb (X.put {c with ie:={c.ie with kd:=a}}) V/\gL (λb=>Mc t (gH b)) w (w.setCell (U (qb c.gU) 5) (I a)):=by obtain⟨cv,k⟩:=h.r.d c i;have j:gL _ w (w.setCell (U (qb c.gU) 5) (I a)):=(gL.refl (λb=>b=qb c.gU) w).setCell (U (qb c.gU) 5) (.inl rfl) _;exact h.TH i k j (k.A j (jx 5 _ w _ k.hq) rfl k.ie k.jb k.e k.q) rfl rfl
def jf.su(h:jf w gH t p qb X V)(i:c∈X.a)(val)(v)(y:Rd w gH (t+3) 5 v (val.map B8)):jf (w.setCell (U (qb c.gU) 8) v) gH t p qb (X.put {c with ie:={c.ie with val:=val}}) V/\gL (λb=>Mc t (gH b)) w (w.setCell (U (qb c.gU) 8) v):=by obtain⟨cv,k⟩:=h.r.d c i;have j:gL _ w (w.setCell (U (qb c.gU) 8) v):=(gL.refl (λb=>b=qb c.gU) w).setCell (U (qb c.gU) 8) (.inl rfl) _;exact h.TH i k j (k.A (cv':={cv with ov:=v}) j (jx 8 _ w _ k.hq) rfl y k.jb k.e k.q) rfl rfl
def Cl.gU(h:Cl w gH t p qb X)(i:c∈X.a):w.cell? (U (qb c.gU) 1)=some (I c.gU)/\qb c.gU<w.heap.size:=by let⟨V,h⟩:=h;obtain⟨cv,k⟩:=h.r.d c i;exact⟨k.cellAt 1 rfl,k.lt⟩
def oE(qb)(n q):pq qb n q n=q:=by unfold pq;simp
def qR(h:jf w gH t p qb X V)(k)(i:X.a.length=8):Calls prog 86 #[O p,I k] w λe w'=>e=gX (.tuple #[.pointer none,I 7])/\w'=w:=by
 have j:=h.cellAt 8 rfl;have y:=Qk w V.bm V.clk _ h.r.mp;clear h;go_wp2;go_ret2;exact⟨rfl,rfl⟩
def Cx.CL{nodes:List Int}{kd pl:Int}{ct:Ct}(h:∃d∈X.a,d.gU=c.gU):∃c'∈(X.tR c nodes kd pl ct).a,c'.gU=c.gU:=by let⟨d,i,e⟩:=h;refine⟨_,aD.2 ⟨d,i,rfl⟩,?_⟩;simp_all
def Cx.IA(h:c∈X.a):∃c'∈(X.dO c).a,c'.gU=c.gU:=by
 unfold Cx.dO;split
 .exact Cx.CL ⟨c,h,rfl⟩
 split
 .exact Cx.CL ⟨c,h,rfl⟩
 split
 .exact Cx.CL ⟨c,h,rfl⟩
 exact⟨c,h,rfl⟩
def Cl.SM(h:Cl w gH t p qb X')(i:∃c'∈X'.a,c'.gU=c.gU):w.cell? (U (qb c.gU) 1)=some (I c.gU)/\qb c.gU<w.heap.size:=by let⟨c',j,y⟩:=i;have:=h.gU j;simp_all
theorem S8(h:jf w gH t p qb X V)(H:100<=t)(F:nf X)(h8:X.a.length<8)(hr:X.c.length<=1000000000)(a)(hA:X.D a):iB 46 #[O p,I a] w λL w'=>L=gX (.tuple #[I X.c.length,I 0])/\∃q,w.heap.size<=q/\CS w gH t p (pq qb X.c.length q) (X.D2 a) w':=by
 have HL:=gP λw=>lI X.n X.m X.vo X.ce a w;rw[F.oT hA]at HL;unfold KL at HL;let⟨c1,c2,c0,c3⟩:=h.T 1 2 0 3 rfl;have lp:=h.A;have HB:Hid (∀W,Bl w W->_):=λW hW=>ur (h.bl hW (gI:=gH) hU) h8 hr 2;have HD:Hid (∀w1 w2 q i,Bl w w1->w1.heap.size<=q->(∀b,b<w1.heap.size->i b=gH b)->Cl w2 i t p (pq qb X.c.length q) (X.je (X.iP 2))->gL (λb=>Mc t (gH b)) w1 w2->(∃v,w2.cell? (U q 3)=some v)/\w2.frozen? (U q 3)=false/\q<w2.heap.size/\iB 89 #[O p,O q] (w2.setCell (U q 3) (I a)) λL w'=>L=iw/\(w'.cell? (U q 1)=some (I X.c.length)/\q<w'.heap.size)/\CS w gH t p (pq qb X.c.length q) (X.D2 a) w'):=λw1 w2 q i hb hq ht hc ho=>by
  let⟨V2,hk⟩:=hc;have hm:X.iP 2∈(X.je (X.iP 2)).a:=by simp[Cx.je]
  have y:pq qb X.c.length q (X.iP 2).gU=q:=oE _ _ _;obtain⟨cv,kk⟩:=hk.r.d _ hm;rw[y]at kk;let⟨M,oA⟩:=hk.RM hm a;rw[y,Cx.pK X h.r.a.lt rfl rfl]at M;rw[y]at oA;refine⟨⟨_,kk.cellAt 3 rfl⟩,kk.M 3,kk.lt,?_⟩;have P:({X.iP 2 with ij:=a}:jz)∈(X.je {X.iP 2 with ij:=a}).a:=by simp[Cx.je]
  have:=Pe M H ⟨F.nB,F.ll,F.ne,F.a0,F.a1⟩ P hA rfl;rw[show pq qb X.c.length q ({X.iP 2 with ij:=a}:jz).gU=q from oE _ _ _]at this;refine gT this λw' hs=>?_;refine⟨rfl,?_,CS.yK hb hU (CS.uV ho ht (CS.iW oA hs))⟩;let⟨tag3,_,a2,_⟩:=hs;have:=a2.SM (Cx.IA P);rwa[show pq qb X.c.length q ({X.iP 2 with ij:=a}:jz).gU=q from oE _ _ _]at this
 clear h;go_enter func46,ntmps46;go_wp2_with fail;refine gT (HL _) λw1 j=>?_;have Q:=gP j;have a5:=af lp j.lt;have HG:=gP (HB w1 j);clear j c0 c1 c2 c3 HL HB;go_wp2_with fail;refine HG.L ?_;rintro L w2⟨q,rfl,A,i,T,Y,Z⟩;obtain⟨⟨v3,e3⟩,g3,lq,hD⟩:=HD w1 w2 q i Q A T Y Z;let⟨a0,a3⟩:=gO hD (aF Q.lt A);clear hD HD HG Y Z T A;go_wp2_with fail;refine a0.L ?_;rintro L w4⟨rfl,⟨e1,a6⟩,a1⟩;have a4:=gP a1;clear a1 a0;go_wp2;go_ret2;exact⟨rfl,q,a3,a4⟩
theorem Sq(h:jf w gH t p qb X V)(L:100<=t)(F:nf X)(h8:X.a.length<8)(hr:X.c.length<=1000000000)(a)(hA:X.D a):iB 47 #[O p,I a] w λM w'=>M=gX (.tuple #[I X.c.length,I 0])/\∃q,w.heap.size<=q/\CS w gH t p (pq qb X.c.length q) (X.fill a) w':=by
 have HL:=gP λw=>lI X.n X.m X.vo X.ce a w;rw[F.oT hA]at HL;unfold KL at HL;let⟨c1,c2,c0,c3⟩:=h.T 1 2 0 3 rfl;have lp:=h.A;have HB:Hid (∀W,Bl w W->_):=λW hW=>ur (h.bl hW (gI:=gH) hU) h8 hr 3;have HD:Hid (∀w1 w2 q i,Bl w w1->w1.heap.size<=q->(∀b,b<w1.heap.size->i b=gH b)->Cl w2 i t p (pq qb X.c.length q) (X.je (X.iP 3))->gL (λb=>Mc t (gH b)) w1 w2->(∃v,w2.cell? (U q 3)=some v)/\w2.frozen? (U q 3)=false/\(∃v,w2.cell? (U q 5)=some v)/\w2.frozen? (U q 5)=false/\q<w2.heap.size/\iB 89 #[O p,O q] ((w2.setCell (U q 5) (I 9)).setCell (U q 3) (I a)) λM w'=>M=iw/\(w'.cell? (U q 1)=some (I X.c.length)/\q<w'.heap.size)/\CS w gH t p (pq qb X.c.length q) (X.fill a) w'):=λw1 w2 q i hb hq ht hc ho=>by
  let⟨V2,hk⟩:=hc;have hm:X.iP 3∈(X.je (X.iP 3)).a:=by simp[Cx.je]
  have y:pq qb X.c.length q (X.iP 3).gU=q:=oE _ _ _;obtain⟨cv,H⟩:=hk.r.d _ hm;rw[y]at H;let⟨P,Q⟩:=hk.Wf hm 9;rw[y,Cx.pK X h.r.a.lt rfl rfl]at P;rw[y]at Q;have a6:({X.iP 3 with ie:={(X.iP 3).ie with kd:=9}}:jz)∈(X.je {X.iP 3 with ie:={(X.iP 3).ie with kd:=9}}).a:=by simp[Cx.je]
  let⟨T,Y⟩:=P.RM a6 a;rw[show pq qb X.c.length q ({X.iP 3 with ie:={(X.iP 3).ie with kd:=9}}:jz).gU=q from oE _ _ _,Cx.pK X h.r.a.lt rfl rfl]at T;rw[show pq qb X.c.length q ({X.iP 3 with ie:={(X.iP 3).ie with kd:=9}}:jz).gU=q from oE _ _ _]at Y;have oA:=Q.H Y;refine⟨⟨_,H.cellAt 3 rfl⟩,H.M 3,⟨_,H.cellAt 5 rfl⟩,H.M 5,H.lt,?_⟩;have Z:({X.iP 3 with ij:=a,ie:={(X.iP 3).ie with kd:=9}}:jz)∈(X.je {X.iP 3 with ij:=a,ie:={(X.iP 3).ie with kd:=9}}).a:=by simp[Cx.je]
  have:=DW T L ⟨F.nB,F.ll,F.ne,F.a0,F.a1⟩ Z hA (.inr rfl);rw[show pq qb X.c.length q ({X.iP 3 with ij:=a,ie:={(X.iP 3).ie with kd:=9}}:jz).gU=q from oE _ _ _]at this;refine gT this λw' hs=>?_;refine⟨rfl,?_,CS.yK hb hU (CS.uV ho ht (CS.iW oA hs))⟩;let⟨tag3,_,a7,_⟩:=hs;have:=a7.SM (Cx.IA Z);rwa[show pq qb X.c.length q ({X.iP 3 with ij:=a,ie:={(X.iP 3).ie with kd:=9}}:jz).gU=q from oE _ _ _]at this
 clear h;go_enter func47,ntmps47;go_wp2_with fail;refine gT (HL _) λw1 j=>?_;have a0:=gP j;have aa:=af lp j.lt;have HG:=gP (HB w1 j);clear j c0 c1 c2 c3 HL HB;go_wp2_with fail;refine HG.L ?_;rintro M w2⟨q,rfl,A,i,a1,a2,a3⟩;obtain⟨⟨v3,e3⟩,g3,⟨v5,e5⟩,g5,lq,hD⟩:=HD w1 w2 q i a0 A a1 a2 a3;let⟨a4,a8⟩:=gO hD (aF a0.lt A);clear hD HD HG a2 a3 a1 A;go_wp2_with fail;refine a4.L ?_;rintro M w4⟨rfl,⟨e1,ab⟩,a5⟩;have a9:=gP a5;clear a5 a4;go_wp2;go_ret2;exact⟨rfl,q,a8,a9⟩
theorem Rk(h:jf w gH t p qb X V)(L:100<=t)(H:nf X)(h8:X.a.length<8)(hr:X.c.length<=1000000000)(a:Int)(h0:0<=a)(h1:a<=X.n*X.ce):iB 48 #[O p,I a] w λM w'=>M=gX (.tuple #[I X.c.length,I 0])/\∃q,w.heap.size<=q/\CS w gH t p (pq qb X.c.length q) (X.uU a) w':=by
 obtain⟨b1,b2,_,_,_,_,b3,b4⟩:=H.A;have a6:=tG (a:=X.n) (d:=X.ce) C C C C;have ja:¬a<0:=C;have a2:Hid (¬(X.n:Int)*X.ce<a):=lT;let⟨c0,c3⟩:=h.R 0 3 rfl;have lp:=h.A;have HB:Hid (∀W,Bl w W->_):=λW hW=>ur (h.bl hW (gI:=gH) hU) h8 hr 4;have HD:Hid (∀w1 w2 q i,Bl w w1->w1.heap.size<=q->(∀b,b<w1.heap.size->i b=gH b)->Cl w2 i t p (pq qb X.c.length q) (X.je (X.iP 4))->gL (λb=>Mc t (gH b)) w1 w2->(∃v,w2.cell? (U q 3)=some v)/\w2.frozen? (U q 3)=false/\q<w2.heap.size/\iB 89 #[O p,O q] (w2.setCell (U q 3) (I a)) λM w'=>M=iw/\(w'.cell? (U q 1)=some (I X.c.length)/\q<w'.heap.size)/\CS w gH t p (pq qb X.c.length q) (X.uU a) w'):=λw1 w2 q i hb hq ht hc ho=>by
  let⟨V2,hk⟩:=hc;have hm:X.iP 4∈(X.je (X.iP 4)).a:=by simp[Cx.je]
  have A:pq qb X.c.length q (X.iP 4).gU=q:=oE _ _ _;obtain⟨cv,kk⟩:=hk.r.d _ hm;rw[A]at kk;let⟨P,oA⟩:=hk.RM hm a;rw[A,Cx.pK X h.r.a.lt rfl rfl]at P;rw[A]at oA;refine⟨⟨_,kk.cellAt 3 rfl⟩,kk.M 3,kk.lt,?_⟩;have Q:({X.iP 4 with ij:=a}:jz)∈(X.je {X.iP 4 with ij:=a}).a:=by simp[Cx.je]
  have:=Pp P L ⟨H.nB,H.ll,H.ne,H.a0,H.a1⟩ Q rfl;rw[show pq qb X.c.length q ({X.iP 4 with ij:=a}:jz).gU=q from oE _ _ _]at this;refine gT this λw' hs=>?_;refine⟨rfl,?_,CS.yK hb hU (CS.uV ho ht (CS.iW oA hs))⟩;let⟨tag3,_,a3,_⟩:=hs;have:=a3.SM (Cx.IA Q);rwa[show pq qb X.c.length q ({X.iP 4 with ij:=a}:jz).gU=q from oE _ _ _]at this
 clear h;go_enter func48,ntmps48;go_upto_region 1 with fail;go_cut[24] λy wx=>y=.bool false/\Hid (Bl w wx)
 case first=>
  go_quiet(fail);all_goals(go_wp2_with fail;go_meet)
  exact⟨by simp;have:=a2.o;omega,(Bl.refl w).drewN _⟩
 case rest=>obtain⟨rfl,j⟩:=hcut;obtain⟨w1,rfl⟩:∃w1,w1=wc:=⟨_,rfl⟩;have HG:=gP (HB w1 j);have a7:=af lp j.lt;clear c0 c3 HB;go_wp2_with fail;refine HG.L ?_;rintro M w2⟨q,rfl,F,i,T,Y,Z⟩;obtain⟨⟨v3,e3⟩,g3,lq,hD⟩:=HD w1 w2 q i j F T Y Z;let⟨a0,a4⟩:=gO hD (aF j.lt F);clear hD HD HG Y Z T F;go_wp2_with fail;refine a0.L ?_;rintro M w4⟨rfl,⟨e1,a8⟩,a1⟩;have a5:=gP a1;clear a1 a0;go_wp2;go_ret2;exact⟨rfl,q,a4,a5⟩
def Ik(w)(bm clk)(l)(y:w.heap[bm]?=some (.map (iu l) clk))(h:(l.map (·.k)).Nodup)(e)(i:e∈l):(Instr.lookup 98 (.map (some bm)) (I e.k) true).run prog w=.ok (.tuple #[e.v,.bool true]) w:=by
 let⟨j,e',A,F,H⟩:=sL l e.k ⟨e,i,rfl⟩;have:e'=e:=Ug h (aR A) i F;subst this;have L:=fa (w:=w) underlying3 H;have M:=eW (P:=prog) (w:=w) (k:= I e'.k) underlying3 um (iu l).isEmpty 9999;simp[Instr.lookup,Sem.run_bind,aI y,M,L]
def jf.qq(h:jf w gH t p qb X V)(i:c∈X.a):(Instr.lookup 98 (.map (some V.bm)) (I (c.gU:Int)) true).run prog w=.ok (.tuple #[O (qb c.gU),.bool true]) w:=
 Ik w V.bm V.clk _ h.r.mp (h.r.PT.imp λe=>C) (kt qb V.bo c) (aD.2 ⟨c,i,rfl⟩)
theorem Cx.FB(h:tP X)(i:c∈X.a):X.a.find? (λd=>d.gU==c.gU)=some c:=by
 cases e:X.a.find? _ with
 |none=>have:=bU.1 e c i;simp_all
 |some d=>have j:=cR e;simp at j;rw[rI h.gU (bu e) i j]
theorem Sk(h:jf w gH t p qb X V)(F:100<=t)(y:nf X)(A:c∈X.a)(P:Cx.ml c=true)(hl:c.q.nodes.length<=100)(a)(Z:X.D a):iB 52 #[O p,I c.gU,I a] w λQ w'=>Q=gX (I 0)/\CS w gH t p qb (X.ld c.gU a) w':=by
 have i:c.kind=1:=by unfold Cx.ml at P;simp at P;exact P.1
 have hE:X.ld c.gU a=(X.put {c with ij:=a}).dO {c with ij:=a}:=by
  unfold Cx.ld;rw[Cx.FB h.r.a A];have:X.pD a=true:=by unfold Cx.pD;simp;exact Z
  simp only[this,if_true]
 rw[hE];have T:=gP λw=>lI X.n X.m X.vo X.ce a w;rw[y.oT Z]at T;unfold KL at T;obtain⟨cv,hk⟩:=h.r.d c A;have Y:=gP (qV hk hl);rw[P]at Y;have H:=h.qq A;let⟨c0,c1,c2⟩:=h.Km 0 1 2 rfl;let⟨c3,c8⟩:=h.R 3 8 rfl;have lp:=h.A;have lq:=hk.lt;have HD:Hid (∀W,Bl w W->(∃v,W.cell? (U (qb c.gU) 3)=some v)/\W.frozen? (U (qb c.gU) 3)=false/\iB 89 #[O p,O (qb c.gU)] (W.setCell (U (qb c.gU) 3) (I a)) λQ w'=>Q=iw/\CS w gH t p qb ((X.put {c with ij:=a}).dO {c with ij:=a}) w'):=λW hW=>by have L:=h.bl hW (gI:=gH) hU;obtain⟨a3,k2⟩:=L.r.d c A;let⟨a0,oA⟩:=L.RM A a;refine⟨⟨_,k2.cellAt 3 rfl⟩,k2.M 3,?_⟩;refine gT (DW a0 F ⟨y.nB,y.ll,y.ne,y.a0,y.a1⟩ (c:={c with ij:=a}) (Cx.jV A rfl) Z (.inl i)) λw' hs=>?_;exact⟨rfl,CS.D hW (CS.iW oA hs)⟩
 clear h hk hE;let⟨q,M⟩:=gJ (qb c.gU);rw[M]at Y H lq HD;clear M;go_enter func52,ntmps52;go_wp2_with(first|(go_at_call 94;refine Y.L ?_;rintro Q w1⟨rfl,rfl⟩));refine gT (T _) λw2 j=>?_;obtain⟨⟨v3,e3⟩,g3,hD⟩:=HD w2 j;have a1:=gP hD;have a4:=af lq j.lt;clear j c0 c1 c2 c3 c8 H Y T hD HD;go_wp2_with(go_at_call 89;refine iO a1 λw4 a2=>?_);go_ret;exact⟨rfl,a2⟩
theorem Fo(h:jf w gH t p qb X V)(hx:nf X)(F:c∈X.a)(hw:Cx.ml c=true)(hl:c.q.nodes.length<=100)(a)(hA:a<0\/(X.n:Int)*X.ce<=a):iB 52 #[O p,I c.gU,I a] w λH w'=>H=gX (I 0)/\CS w gH t p qb (X.ld c.gU a) w':=by
 have Z:X.ld c.gU a=X.fin c ⟨7,0,[]⟩:=by
  unfold Cx.ld;rw[Cx.FB h.r.a F];have:X.pD a=false:=by
   unfold Cx.pD;obtain hA|hA:=hA
   .have:decide (0<=a)=false:=ig;rw[this];rfl
   have:decide (a<X.n*X.ce)=false:=ig;rw[this,Bool.and_false]
  simp[this]
 rw[Z];have i:oT X.n X.m X.vo X.ce a=(0,0,2):=by unfold oT;rw[aE hx.nB,aE hA]
 have L:=gP λw=>lI X.n X.m X.vo X.ce a w;rw[i]at L;unfold KL at L;obtain⟨cv,P⟩:=h.r.d c F;have M:=gP (qV P hl);rw[hw]at M;have y:=h.qq F;let⟨c0,c1,c2⟩:=h.Km 0 1 2 rfl;let⟨c3,c8⟩:=h.R 3 8 rfl;have lp:=h.A;have lq:=P.lt;have Q:Hid (∀W,Bl w W->iB 96 #[O p,O (qb c.gU),.agg #[I 7,I 0,OO]] W λH w'=>H=iw/\CS w gH t p qb (X.fin c ⟨7,0,[]⟩) w'):=λW hW=>by refine gT (xr (h.bl hW (gI:=gH) hU) F ⟨7,0,[]⟩ none 0 Rd.nil) λw' hs=>?_;exact⟨rfl,CS.D hW hs⟩
 clear h P Z i;let⟨q,A⟩:=gJ (qb c.gU);rw[A]at M y lq Q;clear A;go_enter func52,ntmps52;go_wp2_with(first|(go_at_call 94;refine M.L ?_;rintro H w1⟨rfl,rfl⟩));refine gT (L _) λw2 j=>?_;have T:=gP (Q w2 j);have a0:=af lq j.lt;clear j c0 c1 c2 c3 c8 y M L Q;go_wp2_with(go_at_call 96;refine iO T λw4 Y=>?_);go_ret;exact⟨rfl,Y⟩
def sP.bs(h:sP w v ds):Bs w v (ds.map B8):=by
 obtain⟨b,o,c',rfl,A,F,H,i⟩:=h;exact .inr ⟨(U b o),c',by rw[ay],λj u y=>by
  rw[aK]at y
  obtain⟨d,L,rfl⟩:=bN.1 y
  rw[mK];exact i j d L⟩
theorem Mw(h:jf w gH t p qb X V)(h8:X.a.length<8)(hr:X.c.length<=1000000000)(v)(val)(h0:1<=val.length)(ag:val.length<=8)(hv:sP w v val)(a0:∀b,v.ownBlock=some b->¬Mc t (gH b)):iB 45 #[O p,v] w λen w'=>en=gX (.tuple #[I X.c.length,I 0])/\∃q,w.heap.size<=q/\CS w gH t p (pq qb X.c.length q) (X.append val) w':=by
 have HB:=gP (ur h h8 hr 1);have lp:=h.A;have i1:¬(val.length:Int)<1:=C;have i8:¬(8:Int)<(val.length:Int):=C;let⟨Hv,a9,a1⟩:=iz hv a0 h.r.a.lt;obtain⟨va,vc,aa⟩:=hv.B;subst aa;clear h hv a0;go_enter func45,ntmps45;go_wp2_with fail;refine HB.L ?_;rintro en w2⟨q,rfl,a2,F,a3,a4,L⟩;obtain⟨HC,a5,ab⟩:=iz (oS _ val w2 (Hv.only L λb M e=>a9.o b M e).bs C) a4 L;let⟨ac,ad⟩:=gO a3 a2;clear a4 L a3 HB a2;go_wp2_with fail;refine HC.L ?_;rintro en w3⟨v3,rfl,P,j⟩;obtain⟨g3,c3,rfl⟩:=mo j C;obtain⟨V2,a6⟩:=a5.o;have Q:=a6.bl P (gI:=iq F w2.heap.size (t+3)) λb M=>gV _ _ _ _ M;have hm:X.iP 1∈(X.je (X.iP 1)).a:=by simp[Cx.je]
 have y:pq qb X.c.length q (X.iP 1).gU=q:=oE _ _ _;obtain⟨cv,T⟩:=Q.r.d _ hm;rw[y]at T;let⟨W,A⟩:=Q.Wf hm 8;rw[y,Cx.pK X a1.o rfl rfl]at W;rw[y]at A;have a7:({X.iP 1 with ie:={(X.iP 1).ie with kd:=8}}:jz)∈(X.je {X.iP 1 with ie:={(X.iP 1).ie with kd:=8}}).a:=by simp[Cx.je]
 have i:pq qb X.c.length q ({X.iP 1 with ie:={(X.iP 1).ie with kd:=8}}:jz).gU=q:=oE _ _ _;have a8:=Rd.qj (gH:=iq F w2.heap.size (t+3)) (t:=t+3) j λb M=>iJ _ _ _ _ (j.lt b M).1;have H:=a8.only A (λb _ e=>by unfold Mc at e;omega) λ_ _ e=>e;obtain⟨Y,Z⟩:=W.su a7 val _ H;rw[i,Cx.pK X a1.o rfl rfl]at Y;rw[i]at Z;have hS:CS w gH t p (pq qb X.c.length q) (X.append val) _:=CS.uV ab ac (CS.yK P (λb M=>gV _ _ _ _ M) (CS.mk Y (A.H Z)));have HS:=gP hS;let⟨e1,e5⟩:=T.R 1 5 rfl;have g5:=T.M 5;have e8:=T.cellAt 8 rfl;have g8:=T.M 8;have lq:=T.lt;clear a6 Q hm y T W A a7 i a8 H Y Z hS j P HC a5;go_wp2;go_ret2;exact⟨rfl,q,ad,HS⟩
def Cx.R(X:Cx)(u:Int):jz:={X.iP 5 with unit:=u}
def Cx.T(X:Cx)(u:Int):Cx:=(X.je (X.R u)).kE (X.R u)
def Cx.Ux(h:∀d∈X.a,d.gU<X.c.length)(u)(y:X.jn=false)(i:(X.T u).jn=true):∃c'∈(X.T u).a,c'.gU=X.c.length:=by
 have j:∀r,((X.je (X.R u)).fin (X.R u) r).jn=false:=λr=>by
  have e:((X.je (X.R u)).fin (X.R u) r).a=X.a:=by unfold Cx.fin Cx.je;simp only;rw[cz,eD.2 λd A=>by have:=h d A;show(d.gU !=X.c.length)=true;simp;omega];simp_all
  unfold Cx.jn Cx.ko at y|-;rw[e];exact y
 unfold Cx.T Cx.kE at i|-;split at i
 .rename_i F;split at i
  .rw[j]at i;simp at i
  rename_i H;rw[aE F,az H];exact⟨X.R u,by simp[Cx.je],rfl⟩
 rw[j]at i;simp at i
def Cx.Uu(h:nf X)(u):nf (X.T u):=by
 unfold Cx.T Cx.kE;split
 .split<;>exact⟨h.nB,h.ll,h.ne,h.a0,h.a1⟩
 exact⟨h.nB,h.ll,h.ne,h.a0,h.a1⟩
def Cx.WK(h:XN X)(u):XN (X.T u):=by
 unfold Cx.T Cx.kE;split
 .split<;>exact⟨h.e,h.t⟩
 exact⟨h.e,h.t⟩
def Cx.Ww(u)(i:X.a.length<8)(j:X.c.length<=100000000):(X.T u).c.length<=1000000000/\(X.T u).a.length<=8:=by
 have y:(X.je (X.R u)).c.length=X.c.length+1:=by simp[Cx.je]
 have A:(X.je (X.R u)).a.length=X.a.length+1:=by simp[Cx.je]
 have h:∀r,((X.je (X.R u)).fin (X.R u) r).c.length<=1000000000/\((X.je (X.R u)).fin (X.R u) r).a.length<=8:=λr=>by unfold Cx.fin;refine⟨ig,aF (bF _ _) C⟩
 unfold Cx.T Cx.kE;split
 .split
  .exact h _
  omega
 exact h _
theorem M0(h:jf w gH t p qb X V)(a6:100<=t)(hx:nf X)(hn:XN X)(h8:X.a.length<8)(hr:X.c.length<=100000000)(u)(hu:X.T4 u):iB 49 #[O p,I u] w λF w'=>F=gX (.tuple #[I X.c.length,I 0])/\∃q,w.heap.size<=q/\CS w gH t p (pq qb X.c.length q) (X.change u) w':=by
 have HL:=gP λw=>ux X.n X.m X.vo X.ce u w;rw[hx.Bi hu]at HL;unfold QG at HL;let⟨c0,c1,c2,c3⟩:=h.T 0 1 2 3 rfl;have lp:=h.A;have j:X.change u=if(!X.jn&&(X.T u).jn)then(X.T u).jH else X.T u:=rfl
 have a7:Hid (∀W,Bl w W->_):=λW hW=>mE (h.bl hW (gI:=gH) hU) C C;have HB:Hid (∀W,Bl w W->_):=λW hW=>ur (h.bl hW (gI:=gH) hU) h8 C 5;have HS:Hid (∀w1 w2 q L,Bl w w1->w1.heap.size<=q->(∀b,b<w1.heap.size->L b=gH b)->Cl w2 L t p (pq qb X.c.length q) (X.je (X.iP 5))->gL (λb=>Mc t (gH b)) w1 w2->(∃v,w2.cell? (U q 4)=some v)/\w2.frozen? (U q 4)=false/\q<w2.heap.size/\iB 92 #[O p,O q] (w2.setCell (U q 4) (I u)) λF w'=>F=iw/\(w'.cell? (U q 1)=some (I X.c.length)/\q<w'.heap.size)/\CS w gH t p (pq qb X.c.length q) (X.T u) w'):=λw1 w2 q L hb hq ht hc Z=>by
  let⟨V2,hk⟩:=hc;have hm:X.iP 5∈(X.je (X.iP 5)).a:=by simp[Cx.je]
  have a0:pq qb X.c.length q (X.iP 5).gU=q:=oE _ _ _;obtain⟨cv,kk⟩:=hk.r.d _ hm;rw[a0]at kk;let⟨a1,oA⟩:=hk.Xr hm u;rw[a0,Cx.pK X h.r.a.lt rfl rfl]at a1;rw[a0]at oA;refine⟨⟨_,kk.cellAt 4 rfl⟩,kk.M 4,kk.lt,?_⟩;have a8:X.R u∈(X.je (X.R u)).a:=by simp[Cx.je]
  have a9:pq qb X.c.length q (X.R u).gU=q:=oE _ _ _;have:=zI (c:=X.R u) a1 ⟨hx.nB,hx.ll,hx.ne,hx.a0,hx.a1⟩ a8 hu;unfold ptr at this;rw[a9]at this;obtain⟨b5,k3⟩:=a1.r.d _ a8;rw[a9]at k3;refine this.L ?_;rintro F w'⟨rfl,hs,A⟩;refine⟨rfl,⟨?_,af k3.lt A.size⟩,CS.yK hb hU (CS.uV Z ht (CS.iW oA hs))⟩;rw[A.cell k3.lt (λe=>by have:=k3.tq;omega)];exact k3.cellAt 1 rfl
 have HT:Hid (∀q w4,CS w gH t p (pq qb X.c.length q) (X.T u) w4->(iB 91 #[O p] w4 λF w'=>F=gX (.bool (X.T u).jn)/\Bl w4 w')/\(∀P,Bl w4 P->X.jn=false->(X.T u).jn=true->iB 93 #[O p] P λF w'=>F=iw/\(w'.cell? (U q 1)=some (I X.c.length)/\q<w'.heap.size)/\CS w gH t p (pq qb X.c.length q) (X.T u).jH w')):=λq w4 hs=>by obtain⟨aa,av,⟨V4,ab⟩,aw⟩:=hs;let⟨l1,l2⟩:=Cx.Ww u h8 hr;refine⟨mE ab l1 l2,λP i e0 e1=>?_⟩;refine gT (pg (ab.bl i (gI:=aa) hU) a6 (Cx.Uu hx u) (Cx.WK hn u)) λw' ac=>?_;refine⟨rfl,?_,CS.uV aw av (CS.yK i hU ac)⟩;let⟨b4,_,aY,_⟩:=ac;have:=aY.SM (c:=X.R u) (Cx.Ux h.r.a.lt u e0 e1);rwa[show pq qb X.c.length q (X.R u).gU=q from oE _ _ _]at this
 have HE:=gP j;clear h j;go_enter func49,ntmps49;go_wp2_with fail;refine gT (HL _) λw1 Q=>?_;have b0:=gP Q;have b6:=af lp Q.lt;have a2:=gP (a7 w1 Q);unfold ptr at a2;clear Q c0 c1 c2 c3 HL a7;go_wp2_with fail;refine gT a2 λw2 ad=>?_;have T:=gP (b0.H ad);have b1:=af lp T.lt;have HG:=gP (HB w2 T);clear ad a2 HB;go_wp2_with fail;refine HG.L ?_;rintro F w3⟨q,rfl,a3,tag3,ag,ai,A⟩;obtain⟨⟨v4,e4⟩,g4,lq,hS⟩:=HS w2 w3 q tag3 T a3 ag ai A;let⟨ak,a4⟩:=gO hS (aF T.lt a3);have b7:=af b1 A.size;clear hS HS HG ai A ag a3;go_wp2_with fail;refine ak.L ?_;rintro F w4⟨rfl,⟨e1,al⟩,a5⟩;let⟨am,an⟩:=HT q w4 a5;let⟨ap,y,Y⟩:=iz a5 am an;clear a5 ak am an HT
 cases Z:X.jn with
 |true=>have j:=HE.o;rw[Z]at j;simp only[Bool.not_true,Bool.false_and,fg,if_false]at j;have M:=gP j;clear Z j HE Y y;go_wp2;go_ret2;exact⟨rfl,q,a4,jk M.o ap⟩
 |false=>
  have j:=HE.o;rw[Z]at j
  cases hy:(X.T u).jn with
  |false=>rw[hy]at j y;simp only[Bool.not_false,Bool.true_and,fg,if_false]at j;have M:=gP j;clear Z hy j HE Y;go_wp2_with fail;refine gT y λP i=>?_;have b2:=gP i;have b8:=(i.cell al).H e1;have b9:=af al i.lt;clear i y;go_wp2;go_ret2;exact⟨rfl,q,a4,by rw[M.o];exact ap.post b2⟩
  |true=>rw[hy]at j y;simp only[Bool.not_false,Bool.true_and,if_true]at j;have M:=gP j;have aq:Hid (∀P,Bl w4 P->_):=λP i=>Y.o P i Z hy;clear Z hy j HE Y;go_wp2_with fail;refine gT y λP i=>?_;have ar:=gP (aq P i);clear i y aq;go_wp2_with fail;refine ar.L ?_;rintro F w6⟨rfl,⟨ba,bb⟩,au⟩;have b3:=gP au;clear au ar;go_wp2;go_ret2;exact⟨rfl,q,a4,jk M.o b3⟩
theorem MW(h:jf w gH t p qb X V)(H:nf X)(L:X.a.length=8)(a)(M:X.D a):iB 46 #[O p,I a] w λA w'=>A=gX (.tuple #[I 0,I 7])/\Bl w w':=by
 have j:=gP λw=>lI X.n X.m X.vo X.ce a w;rw[H.oT M]at j;unfold KL at j;let⟨c0,c1,c2,P⟩:=h.T 0 1 2 3 rfl;have Y:=h.A;have F:Hid (∀W,Bl w W->_):=λW Q=>qR (h.bl Q (gI:=gH) hU) 2 L;clear h;go_enter func46,ntmps46;go_wp2_with fail;refine gT (j _) λw1 i=>?_;let⟨y,T⟩:=gO i (F w1 i);clear i c0 c1 c2 P j F;go_wp2_with fail;refine T.L ?_;rintro A w2⟨rfl,rfl⟩;go_wp2;go_ret2;exact⟨rfl,y⟩
theorem Ma(h:jf w gH t p qb X V)(H:nf X)(L:X.a.length=8)(a)(M:X.D a):iB 47 #[O p,I a] w λA w'=>A=gX (.tuple #[I 0,I 7])/\Bl w w':=by
 have j:=gP λw=>lI X.n X.m X.vo X.ce a w;rw[H.oT M]at j;unfold KL at j;let⟨c0,c1,c2,P⟩:=h.T 0 1 2 3 rfl;have Y:=h.A;have F:Hid (∀W,Bl w W->_):=λW Q=>qR (h.bl Q (gI:=gH) hU) 3 L;clear h;go_enter func47,ntmps47;go_wp2_with fail;refine gT (j _) λw1 i=>?_;let⟨y,T⟩:=gO i (F w1 i);clear i c0 c1 c2 P j F;go_wp2_with fail;refine T.L ?_;rintro A w2⟨rfl,rfl⟩;go_wp2;go_ret2;exact⟨rfl,y⟩
theorem Nc(h:jf w gH t p qb X V)(L:nf X)(M:X.a.length=8)(a:Int)(Z:0<=a)(h1:a<=X.n*X.ce):iB 48 #[O p,I a] w λA w'=>A=gX (.tuple #[I 0,I 7])/\Bl w w':=by
 obtain⟨b1,b2,_,_,_,_,b3,b4⟩:=L.A;have F:=tG (a:=X.n) (d:=X.ce) C C C C;have ja:¬a<0:=C;have j:Hid (¬(X.n:Int)*X.ce<a):=lT;let⟨c0,P⟩:=h.R 0 3 rfl;have lp:=h.A;have H:Hid (∀W,Bl w W->_):=λW Q=>qR (h.bl Q (gI:=gH) hU) 4 M;clear h;go_enter func48,ntmps48;go_upto_region 1 with fail;go_cut[24] λy T=>y=.bool false/\Hid (Bl w T)
 case first=>
  go_quiet(fail);all_goals(go_wp2_with fail;go_meet)
  exact⟨by simp;have:=j.o;omega,(Bl.refl w).drewN _⟩
 case rest=>obtain⟨rfl,i⟩:=hcut;have Y:=gP (H wc i);clear c0 P H;go_wp2_with fail;refine Y.L ?_;rintro A w2⟨rfl,rfl⟩;go_wp2;go_ret2;exact⟨rfl,i⟩
theorem Ec(h:jf w gH t p qb X V)(i:X.a.length=8)(ad)(l cc)(y:1<=l)(A:l<=8):iB 45 #[O p,gN ad l cc] w λe w'=>e=gX (.tuple #[I 0,I 7])/\Bl w w':=by
 have j:=gP (qR h 1 i);clear h;go_enter func45,ntmps45;go_wp2_with fail;refine j.L ?_;rintro e w'⟨rfl,rfl⟩;go_wp2;go_ret2;exact⟨rfl,jC⟩
theorem Eh(h:jf w gH t p qb X V)(T:nf X)(Y:X.a.length=8)(Z:X.c.length<=1000000000)(u)(hu:X.T4 u):iB 49 #[O p,I u] w λP w'=>P=gX (.tuple #[I 0,I 7])/\Bl w w':=by
 have H:=gP λw=>ux X.n X.m X.vo X.ce u w;rw[T.Bi hu]at H;unfold QG at H;let⟨c0,c1,c2,c3⟩:=h.T 0 1 2 3 rfl;have lp:=h.A;have y:Hid (∀W,Bl w W->_):=λW L=>mE (h.bl L (gI:=gH) hU) Z C;have Q:Hid (∀W,Bl w W->_):=λW L=>qR (h.bl L (gI:=gH) hU) 5 Y;clear h;go_enter func49,ntmps49;go_wp2_with fail;refine gT (H _) λw1 i=>?_;have M:=gP i;have a0:=af lp i.lt;have j:=gP (y w1 i);unfold ptr at j;clear i c0 c1 c2 c3 H y;go_wp2_with fail;refine gT j λw2 A=>?_;have F:=gP (M.H A);have HG:=gP (Q w2 F);clear A j Q;go_wp2_with fail;refine HG.L ?_;rintro P w3⟨rfl,rfl⟩;go_wp2;go_ret2;exact⟨rfl,F⟩
theorem AH(k a)(r)(Q:World->Prop)(h:iB 52 #[O p,I k,I a] w λi w'=>i=gX (I r)/\Q w'):iB 25 #[O p,I k,I a] w λi w'=>i=gX (I r)/\Q w':=by
 have H:=gP h;go_enter func25,ntmps25;go_wp2_with(refine iO H λw' j=>?_);go_ret;exact⟨rfl,j⟩
theorem Ch(a r e)(Q:World->Prop)(h:iB 46 #[O p,I a] w λi w'=>i=gX (.tuple #[I r,I e])/\Q w'):iB 19 #[O p,I a] w λi w'=>i=gX (.tuple #[I r,I e])/\Q w':=by
 have H:=gP h;clear h;go_enter func19,ntmps19;go_wp2_with(refine iO H λw' j=>?_);go_ret2;exact⟨rfl,j⟩
theorem B4(a r e)(Q:World->Prop)(h:iB 47 #[O p,I a] w λi w'=>i=gX (.tuple #[I r,I e])/\Q w'):iB 20 #[O p,I a] w λi w'=>i=gX (.tuple #[I r,I e])/\Q w':=by
 have H:=gP h;clear h;go_enter func20,ntmps20;go_wp2_with(refine iO H λw' j=>?_);go_ret2;exact⟨rfl,j⟩
theorem Cn(a r e)(Q:World->Prop)(h:iB 48 #[O p,I a] w λi w'=>i=gX (.tuple #[I r,I e])/\Q w'):iB 21 #[O p,I a] w λi w'=>i=gX (.tuple #[I r,I e])/\Q w':=by
 have H:=gP h;clear h;go_enter func21,ntmps21;go_wp2_with(refine iO H λw' j=>?_);go_ret2;exact⟨rfl,j⟩
theorem Cv(a r e)(Q:World->Prop)(h:iB 49 #[O p,I a] w λi w'=>i=gX (.tuple #[I r,I e])/\Q w'):iB 22 #[O p,I a] w λi w'=>i=gX (.tuple #[I r,I e])/\Q w':=by
 have H:=gP h;clear h;go_enter func22,ntmps22;go_wp2_with(refine iO H λw' j=>?_);go_ret2;exact⟨rfl,j⟩
theorem AD(v)(r e)(Q:World->Prop)(j:∃a l c,v=gN a l c)(h:iB 45 #[O p,v] w λi w'=>i=gX (.tuple #[I r,I e])/\Q w'):iB 18 #[O p,v] w λi w'=>i=gX (.tuple #[I r,I e])/\Q w':=by
 obtain⟨a,l,c,rfl⟩:=j;have H:=gP h;clear h;go_enter func18,ntmps18;go_wp2_with(refine iO H λw' y=>?_);go_ret2;exact⟨rfl,y⟩
theorem M1(h:jf w gH t p qb X V)(i:Nat)(r)(hr:X.c[i]?=some r)(_hl:X.c.length<=1000000000)(a7:r.val.length<=1000000000):iB 50 #[O p,I i] w λen w'=>∃j vc,en=gX (.tuple #[.agg #[I r.wh,I r.ad,gN j r.val.length vc],I 0])/\Bl w w'/\w'.ownsRow w.heap.size 5 1 (gN j r.val.length vc) r.val.length (r.val.map B8):=by
 have hi:=(aj.1 hr).1;obtain⟨xs,F,h2,h3⟩:=h.r.c;obtain⟨g,cap,M⟩:∃g cap,V.rv=gN (G g) X.c.length cap:=by
  obtain⟨_,h0⟩|⟨g,cap,a8,e,_⟩:=F.2
  .omega
  exact⟨g,cap,e⟩
 rw[M]at F;let⟨x0,x1,s,x2,hs⟩:=h3 i r hr;obtain⟨P,Q,rfl⟩:=hs.B;rw[ay]at x2 hs;have z0:w.cell? (U g (i*3))=some (I r.wh):=by rw[F.cellAt _ C,cN];exact x0
 have z1:w.cell? (U g (i*3+1))=some (I r.ad):=by rw[F.cellAt _ C,cN];exact x1
 have z2:w.cell? (U g (i*3+2))=some (gN P r.val.length Q):=by rw[F.cellAt _ C,cN];exact x2
 have lg:=(F.lt g rfl).2;have c7:=h.cellAt 7 rfl;rw[M]at c7;have lp:=h.A;have a9:(0:Int)<=(i:Int):=C;have aa:(i:Int)<(X.c.length:Int):=C;have HC:Hid (∀W,Bl w W->_):=λW hW=>oS (gN P r.val.length Q) r.val W (hs.bs.bl hW) C;clear h F h2 h3 M x0 x1 x2 hs hr;go_enter func50,ntmps50;go_wp2_with fail;refine(HC _ (by exact m8)).L ?_;rintro en w2⟨v',rfl,y,A⟩;have a5:=((Bl.refl w).alloc (im #[I 0,I 0,OO] 43)).alloc (im (A6 r P Q) 43);have T:=(cL (w.alloc (im #[I 0,I 0,OO] 43)) (im (A6 r P Q) 43) (r:=w.heap.size) gG).H (ao w _);have Y:((w.alloc (im #[I 0,I 0,OO] 43)).alloc (im (A6 r P Q) 43)).heap[w.heap.size+1]?=some (im (A6 r P Q) 43 (0,0)):=by have:=ao (w.alloc (im #[I 0,I 0,OO] 43)) (im (A6 r P Q) 43);simpa using this
 have a3:=(y.heap (ae.1 T).1).H T;have a4:=(y.heap (ae.1 Y).1).H Y;let⟨a0,a1,a2,la⟩:=AZ a3;let⟨b0,b1,b2,lb⟩:=AZ a4;let⟨ab,ac,ad⟩:=B9 a3 0 1 2;have ag:=aP w2 (w.heap.size+1) 2 _ 43 a4;obtain⟨j,vc,a6⟩:∃j vc,v'=gN j r.val.length vc:=by obtain⟨a,c,e⟩:=(i7 A).len;rw[ay]at e;exact⟨a,c,e⟩
 subst a6;have HB:=gP (a5.H y);have HO:=gP (gZ (base':=w.heap.size+2) A λb hb=>by have:=(A.lt b hb).1;simpa using this);clear T Y a3 a4 y A a5 HC z0 z1 z2;go_wp2;(try simp only[Exit.inBlock,Exit.then])
 refine aG (v:= .tuple #[.agg (A6 r j vc),I 0]) (by simp[results,results50,go_sem,a0,a1,a2]) rfl ⟨j,vc,rfl,?_,?_⟩
 .exact ZY (ZY (ZY (ZY HB oC _) jl _) jl _) jl _
 have Z:=((((gL.refl (λb=>b=w.heap.size\/b=w.heap.size+1) w2).setCell (U (w.heap.size+1) 2) (.inl (.inr rfl)) (gN j r.val.length vc)).setCell (U w.heap.size 0) (.inl (.inl rfl)) (I r.wh)).setCell (U w.heap.size 1) (.inl (.inl rfl)) (I r.ad)).setCell (U w.heap.size 2) (.inl (.inl rfl)) (gN j r.val.length vc);exact gZ (Z.iX HO λb hb e=>by have:=(HO.lt b hb).1;omega) λb hb=>by have:=(HO.lt b hb).1;omega
theorem Im(h:jf w gH t p qb X V)(i:Nat)(r)(Y:X.c[i]?=some r)(hl:X.c.length<=1000000000)(F:r.val.length<=1000000000):iB 23 #[O p,I i] w λQ w'=>∃y A,Q=gX (.tuple #[.agg #[I r.wh,I r.ad,gN y r.val.length A],I 0])/\Bl w w'/\w'.ownsRow w.heap.size 5 1 (gN y r.val.length A) r.val.length (r.val.map B8):=by
 have T:=(Bl.refl w).alloc (im #[I 0,I 0,OO] 43);have W:=gP (M1 (h.bl T (gI:=gH) hU) i r Y hl F);have lp:=h.A;clear h;go_enter func23,ntmps23;go_wp2_with fail;refine W.L ?_;rintro Q w'⟨y,A,rfl,j,L⟩;have M:=(j.heap (b:=w.heap.size) gG).H (ao w _);let⟨n0,n1,n2,ln⟩:=AZ M;let⟨f0,f1,f2⟩:=B9 M 0 1 2;have HB:=gP (T.H j);have P:=gP (gZ (base':=w.heap.size+1) L λb j=>by have:=(L.lt b j).1;simpa using this);clear M j L W;go_wp2;(try simp only[Exit.inBlock,Exit.then])
 refine aG (v:= .tuple #[.agg (A6 r y A),I 0]) (by simp[results,results23,go_sem,n0,n1,n2]) rfl ⟨y,A,rfl,?_,?_⟩
 .exact ZY (ZY (ZY HB jl _) jl _) jl _
 have Z:=(((gL.refl (λb=>b=w.heap.size) w').setCell (U w.heap.size 0) (.inl rfl) (I r.wh)).setCell (U w.heap.size 1) (.inl rfl) (I r.ad)).setCell (U w.heap.size 2) (.inl rfl) (gN y r.val.length A);exact gZ (Z.iX P λb j e=>by have:=(P.lt b j).1;omega) λb j=>by have:=(P.lt b j).1;omega
abbrev cfg(a b c d:Int):Value:= .agg #[I a,I b,I c,I d]
structure r8(base:Nat)(w:World)(g n:Nat)(ms:List Value)(R:List (List Int)):Prop where
 ie:w.ownsRow base 24 1 (.slice (G g) n n) n ms
 len:R.length=n
 row:∀i (h:i<ms.length) (h':i<R.length),w.ownsRow base 3 1 ms[i] R[i].length (R[i].map I)
 mu:∀i j (hi:i<ms.length) (hj:j<ms.length) b,i≠j->ms[i].ownBlock=some b->ms[j].ownBlock≠some b
def r8.yC{base:Nat}{R:List (List Int)}(h:r8 base w g n ms R):ms.length=n:=by have:=h.ie.1;omega
def r8.only{base:Nat}{R:List (List Int)}(h:r8 base w g n ms R)(F:gL S w w')(H:∀b,base<=b->b<w.heap.size->¬S b):r8 base w' g n ms R:=
 ⟨F.iX h.ie λb y=>H b (h.ie.lt b y).1 (h.ie.lt b y).2,h.len,λi A j=>F.iX (h.row i A j) λb y=>H b ((h.row i A j).lt b y).1 ((h.row i A j).lt b y).2,h.mu⟩
def r8.bl{base:Nat}{R:List (List Int)}(h:r8 base w g n ms R)(i:Bl w w'):r8 base w' g n ms R:=
 h.only (gL.B i) λ_ _ _ e=>e
def r8.push{base:Nat}{R:List (List Int)}(h:r8 base w g n ms R)(hk:k<n)(H:k<ms.length)(a2:k<R.length){L c:Nat}(hg:w.grownBy w1 ms[k].ownBlock)(hv:ms[k].ownBlock=some L\/w.heap.size<=L)(ho:w1.ownsRow base 3 1 (gN (G L) (R[k].length+1) c) (R[k].length+1) (R[k].map I++[I x])):r8 base (w1.setCell (U g k) (gN (G L) (R[k].length+1) c)) g n (ms.set k (gN (G L) (R[k].length+1) c)) (R.set k (R[k]++[x])):=by
 have F:=gL.A hg;have A:w1.ownsRow base 24 1 (gN (G g) n n) n ms:=F.iX h.ie λb y e=>kH h.ie (h.row k H a2) gF b y e.symm;obtain⟨a3,a4⟩:=A.stored k (gN (G L) (R[k].length+1) c);have T:=gL.A a4;have Y:∀b,(gN (G L) (R[k].length+1) c).ownBlock=some b->¬some b=some g:=by intro b y e;exact kH ho A gF b y (by simp[Value.ownBlock];simpa using e.symm)
 refine⟨a3,by simpa using h.len,λi Z a0=>?_,λi j Z hj b W y=>?_⟩
 .simp only[bK]at Z a0;by_cases M:i=k
  .subst M;simp only[cA];have:=T.iX ho λb y=>Y b y;simpa using this
  rw[cC C,cC C];have hr:=h.row i Z a0;have a1:=F.iX hr λb y e=>h.mu i k Z H b M y e.symm;exact T.iX a1 λb y e=>kH a1 A gF b y (by simp[Value.ownBlock];simpa using e.symm)
 have P:i<ms.length:=by simpa using Z
 have Q:j<ms.length:=iU hj;by_cases M:i=k
 .subst M;rw[cA]at y;rw[cC C];simp[Value.ownBlock]at y;subst y;intro e;obtain hv|hv:=hv
  .exact h.mu i j H Q L W hv e
  have:=(h.row j Q (by rw[h.len,<-h.yC];exact Q)).lt _ e;omega
 rw[cC C]at y;by_cases a5:j=k
 .subst a5;rw[cA];intro e;simp[Value.ownBlock]at e;subst e;obtain hv|hv:=hv
  .exact h.mu i j P H L W y hv
  have:=(h.row i P (by rw[h.len,<-h.yC];exact P)).lt _ y;omega
 rw[cC C];exact h.mu i j P Q b W y
def r8.DJ{base:Nat}(h:w.ownsRow base 24 1 (gN (G g) n n) n (List.replicate n OO)):r8 base w g n (List.replicate n OO) (List.replicate n []):=
 ⟨h,gG,λi y A=>by simpa using mT,λi j y H b _ F=>ny F⟩
def r8.DU{wr:World}{R:List (List Int)}(h:r8 w.heap.size wr g n ms R)(Q:Bl w wr)(Z:k<n)(y:k<ms.length)(F:k<R.length){mk:Value}(T:ms[k]=mk)(W:R[k]=rr){H c:Nat}{o:Obj}(Y:(wr.alloc o).grownBy w1 mk.ownBlock)(hv:mk.ownBlock=some H\/H=wr.heap.size+1)(ho:w1.ownsRow w.heap.size 3 1 (gN (G H) (rr.length+1) c) (rr.length+1) (rr.map I++[I x])):w1.cell? (U g k)=some mk/\w1.frozen? (U g k)=false/\r8 w.heap.size (w1.setCell (U g k) (gN (G H) (rr.length+1) c)) g n (ms.set k (gN (G H) (rr.length+1) c)) (R.set k (rr++[x]))/\Bl w (w1.setCell (U g k) (gN (G H) (rr.length+1) c)):=by
 subst T W;have P:r8 w.heap.size (wr.alloc o) g n ms R:=h.bl (jC.alloc _);have i:=gL.A Y;have j:w1.ownsRow w.heap.size 24 1 (gN (G g) n n) n ms:=i.iX P.ie λb L e=>kH P.ie (P.row k y F) gF b L e.symm;have ja:=h.ie.lt g rfl;have M:∀b,ms[k].ownBlock=some b->w.heap.size<=b:=λb L=>((h.row k y F).lt b L).1;refine⟨?_,j.frozenAt k,P.push Z y F Y (hv.imp id λe=>ig) ho,?_⟩
 .rw[j.cellAt k C,ah y]
 have b1:Bl w w1:=(Q.alloc o).A i λb L=>M b L.symm;exact ZY b1 ja.1 _
def S9(j:1<=m)(y:m<=3)(h:(k:Int)<n*m):Int.tdiv (k:Int) (m:Int)=((k/m:Nat):Int)/\k/m<n:=by
 refine⟨by rw[eF C];rfl,?_⟩;have i:k<n*m:=by exact_mod_cast h
 exact(Nat.div_lt_iff_lt_mul C).2 i
def sB(m k i:Nat):List Int:=((List.range k).filter λj=>j/m==i).map λ(j:Nat)=>(j:Int)
def Bz(m k i)(h:k/m=i):sB m (k+1) i=sB m k i++[(k:Int)]:=by unfold sB;rw[dp];simp[h]
def zM(m k i)(h:k/m≠i):sB m (k+1) i=sB m k i:=by unfold sB;rw[dp];simp[h]
def yf(m i):sB m 0 i=[]:=rfl
theorem yx(m)(y:0<m)(i):∀k,sB m k i=(List.range (min (k-i*m) m)).map λ(j:Nat)=>((i*m+j:Nat):Int)
 |0=>by simp[yf]
 |k+1=>by
  have A:=yx m y i k;by_cases h:k/m=i
  .rw[Bz m k i h,A];have F:i*m<=k:=by rw[<-h];exact Nat.div_mul_le_self k m
   have H:k<i*m+m:=by have:=Nat.lt_div_mul_add (a:=k) y;rwa[h]at this
   rw[show min (k+1-i*m) m=min (k-i*m) m+1 by omega,dp,aZ];congr 1;simp;omega
  rw[zM m k i h,A];have L:min (k+1-i*m) m=min (k-i*m) m:=by
   by_cases F:i*m<=k
   .have H:i*m+m<=k:=by apply bk;intro M;exact h ((Nat.div_eq_iff y).2 ⟨C,C⟩)
    omega
   omega
  rw[L]
theorem GV(n m:Nat)(c d)(w)(h1:1<=n)(h2:n<=3)(h3:1<=m)(h4:m<=3):iB 81 #[cfg n m c d] w λe w'=>∃g,e=gX (gN (G g) n n)/\Bl w w'/\∀(gH:Nat->Nat) (tc:Nat),(∀b,w.heap.size<=b->b<w'.heap.size->gH b=tc)->pV w' gH tc (gN (G g) n n) (jD n m):=by
 obtain⟨aa,hi,b0,b2,b3⟩:=fx il.I6;obtain⟨i3,ji,b4,b5,b6⟩:=fx il.tY;have b7:Hid (aa.bytes*n<=281474976710656):=by rw[b3];unfold Hid;omega
 have ab:Hid (n<=maxLen):=mV;have bd:(1:Int)<=(n:Int)*(m:Int)/\(n:Int)*(m:Int)<=48:=tG C C C C;have bi:((m:Int)==0)=false:=ig;obtain⟨W0,L⟩:∃W,W=w.alloc (rz n m c d):=⟨_,rfl⟩;have a4:Bl w W0:=by rw[L];exact jC.alloc _
 have Y:W0.heap[w.heap.size]?=some (im #[I n,I m,I c,I d] 27 (0,0)):=by rw[L];exact ao w _
 have Z:W0.heap.size=w.heap.size+1:=nG L;go_enter func81,ntmps81;go_wp2_with(at_make;refine wpList_make_full _ rfl _ _ 89 rfl W0.heap.size 24 aa _ 1 underlying89 hi b0 b2 _ _ _ _ n rfl rfl rfl rfl b7 ab (nG L) ?_);intro w1 P y;rw[<-L]at y;rw[<-Z]at P;have F:Bl W0 w1:=(gL.A y).te gG;have R0:r8 W0.heap.size w1 W0.heap.size n _ _:=r8.DJ (by simpa [toList_madeCells_one]using P);rw[<-Z];clear P y L;have a0:=gP Z;clear Z;have c0:w1.cell? (U w.heap.size 0)=some (I n):=(F.cell (b:=w.heap.size) (o:=0) (gS a0.o)).H (ax W0 w.heap.size 0 _ 27 (0,0) Y);have c1:w1.cell? (U w.heap.size 1)=some (I m):=(F.cell (b:=w.heap.size) (o:=1) (gS a0.o)).H (ax W0 w.heap.size 1 _ 27 (0,0) Y);go_wp2;go_loopw[14](λi wr=>∃(k:Nat) (ms:List Value) (R:List (List Int)),(k:Int)<=n*m/\i=I k/\Bl W0 wr/\r8 W0.heap.size wr W0.heap.size n ms R/\(∀r∈R,r.length<=k)/\∀i,(h:i<R.length)->R[i]=sB m k i) λi _=>(n*m:Nat)-(intOf i).toNat
 case atStart=>exact⟨0,_,_,C,rfl,F,R0,gG,λi h=>by simp[yf]⟩
 clear F R0 c0 c1;obtain⟨k,ms,R,hk,rfl,F,M,a5,hC⟩:=hrel;have HC:=gP hC;clear hC;have c0:wr.cell? (U w.heap.size 0)=some (I n):=(F.cell (b:=w.heap.size) (o:=0) (gS a0.o)).H (ax W0 w.heap.size 0 _ 27 (0,0) Y);have c1:wr.cell? (U w.heap.size 1)=some (I m):=(F.cell (b:=w.heap.size) (o:=1) (gS a0.o)).H (ax W0 w.heap.size 1 _ 27 (0,0) Y);by_cases ja:(k:Int)<n*m
 .let⟨hq,a1⟩:=S9 h3 h4 ja;have b8:Hid (k<n*m):=by unfold Hid;exact_mod_cast ja
  let⟨q,a6⟩:=gJ (k/m);rw[a6]at hq a1;have ac:=gP a6;clear a6;have a7:q<ms.length:=by rw[M.yC];exact a1
  have a8:q<R.length:=by rw[M.len];exact a1
  have ad:=M.ie.cellAt q C;rw[ah a7]at ad;have A:=M.row q a7 a8;have bl:=a5 _ (aL a8);generalize ag:ms[q]=mk at*;have ai:=gP ag;clear ag;have M:=gP M;generalize ak:R[q]=rr at*;have al:=gP ak;clear ak;have a2:=gP A;clear A;have b9:=gP a5;clear a5;have bm:(k:Int)<=48:=C;have am:Hid ((rr.length+1)*8<=140737488355328):=lT;have an:Hid (rr.length+1<=maxLen):=mV;have be:=F.lt;have bn:(0:Int)<=(q:Int):=C;have bo:(q:Int)<n:=C;go_wp2_with(at_builtin;refine fm _ rfl _ _ 24 rfl W0.heap.size 3 i3 (I 0) 1 8 underlying24 ji b4 b5 b6 rfl gF mk rr.length _ rfl (a2.alloc _) (U wr.heap.size 0) 1 1 [I k] rfl rfl (ZV _ _ _) rS gF an am ig (wr.heap.size+1) gG ?_);intro g' cap w1 Q y ap bg;have HP:=M.DU F a1 a7 a8 ai al y ap Q;let⟨bp,bq,R1,b1⟩:=HP;let⟨ba,bb⟩:=gO R1 b1;clear Q y ap a2 R1 b1 ai ad;go_wp2;go_roundw
  case rel=>exact⟨k+1,_,_,C,iD,bb,ba,λr hr=>by
   obtain h|h:=fN hr
   .exact Nat.le_succ_of_le (b9 r h)
   .rw[h];simp;omega,λi hi=>by
   have aq:i<R.length:=iU hi
   by_cases e:i=q
   .subst e
    rw[cA,Bz m k i ac.o,<-HC.o i aq,al.o]
   .rw[cC (Ne.symm e),zM m k i λe'=>e (e'.symm.H ac.o),<-HC.o i aq]⟩
  have:=b8.o;simp[intOf];omega
 go_wp2;go_ret;refine⟨W0.heap.size,rfl,a4.H F,λgH tc a3=>?_⟩;have bc:k=n*m:=by
  have:(k:Int)=((n*m:Nat):Int):=by rw[Int.natCast_mul];omega
  exact_mod_cast this
 have ar:(jD n m).length=n:=by simp[jD]
 refine⟨W0.heap.size,ms.toArray,n,(0,0),mf ar,by rw[ar];exact jl,ab,a3 _ a4.lt (M.ie.lt _ rfl).2,DX M.ie,λj ch T=>?_⟩;have hj:j<n:=by have:=(aj.1 T).1;omega
 have au:ch=(List.range m).map λi=>((j*m+i:Nat):Int):=by unfold jD at T;rw[aK,cD hj]at T;simp at T;rw[<-T];simp
 have av:j<ms.length:=by rw[M.yC];exact hj
 have aw:j<R.length:=by rw[M.len];exact hj
 refine⟨ms[j],nN av,?_⟩;have A:=M.row j av aw;have aY:min (n*m-j*m) m=m:=by have h1:(j+1)*m<=n*m:=gy m hj;rw[Nat.add_mul]at h1;omega
 have a9:R[j].map I=ch.map I:=by rw[HC.o j aw,bc,yx m C j,aY,au]
 rw[a9]at A;exact Rd.qj A λb hb=>a3 b (aF a4.lt (A.lt b hb).1) (A.lt b hb).2
def VF(w):(Instr.makeMap 98 none).run prog w=.ok (.map (some w.heap.size)) (w.alloc (.map #[] 0)):=rfl
def LN(g n bm:Nat):CV:={lv:= .slice (G g) n n,rv:= OO,bm:=bm,bo:=λ_=>0,clk:=0,pr:=QV.zero,bg:= .map none,b:= OO,sl:=QV.zero,vt:=QV.zero}
def Q8(B:Nat)(w:World)(t:TypeId)(p:Nat)(n m vo ce:Nat)(id:Int):Prop:=
 ∃g bm,B<=bm/\B<=p/\w.heap[p]?=some (.cells (qW (Cx.new n m vo ce id) (LN g n bm)).toArray t (0,0))/\w.heap[bm]?=some (.map #[] 0)/\bm≠p/\∀(gH:Nat->Nat) (tc:Nat),(∀b,B<=b->b≠bm->b<p->gH b=tc)->pV w gH tc (.slice (G g) n n) (jD n m)
def ND(B)(W)(t)(arr)(g bm)(n m vo ce)(id)(y:arr=(qW (Cx.new n m vo ce id) (LN g n bm)).toArray)(j:W.heap[bm]?=some (.map #[] 0))(p)(A:p=W.heap.size)(F:B<=bm)(i:B<=W.heap.size)(L:∀(gH:Nat->Nat) (h:Nat),(∀b,B<=b->b≠bm->b<W.heap.size->gH b=h)->pV W gH h (gN (G g) n n) (jD n m)):Q8 B (W.alloc (im arr t)) t p n m vo ce id:=by
 subst A;subst y;have M:bm<W.heap.size:=(ae.1 j).1;exact⟨g,bm,F,i,ao W _,(cL W _ M).H j,C,λgH h P=>(L gH h P).only (iT (jC.alloc _)) (λ_ _ e=>e.elim) λ_ _ e=>e⟩
theorem Qs(n m c d:Nat)(x)(w)(M:nB n m c d=true)(h0:1000<=x)(W:x<=1099):iB 43 #[cfg n m c d,I x] w λe w'=>(∃p,e=gX (.tuple #[O p,I 0])/\Q8 w.heap.size w' 112 p n m c d x)/\Bl w w':=by
 have Y:=gP (mO n m c d);rw[M]at Y;let⟨f1,f2,f3,f4⟩:=vN M;let⟨f5,f6⟩:=Ku M;have HF:=gP λw=>GV n m c d w C C C C;have Z:=(Bl.refl w).alloc (rz n m c d);have hN:(w.alloc (rz n m c d)).heap[w.heap.size]?=some (im #[I n,I m,I c,I d] 27 (0,0)):=ao w _;clear M;go_enter func43,ntmps43;go_wp2_with fail;refine gT (Y _) λw' P=>?_;have y:=(P.heap (b:=w.heap.size) gG).H hN;let⟨c0,c1,c2,c3⟩:=lV y 0 1 2 3 rfl;have h:=Z.H P;have ja:w.heap.size<w'.heap.size:=(ae.1 y).1;clear hN y Z P;have a1:=VF;go_upto_region 3 with fail;go_cut[4,5] λr e wx=>∃p,r= O p/\e=I 0/\Q8 w.heap.size wx 112 p n m c d x/\Bl w wx
 case first=>
  go_region_with(go_at_call 81;refine(HF _).L ?_;rintro e w2⟨g,rfl,j,A⟩;have i:Bl w' w2:=Bl.H (by exact m8) j;let⟨e0,e1,e2,e3⟩:=i.M ja c0 c1 c2 c3;have a0:w.heap.size<w2.heap.size:=af ja i.lt;have Q:=gP A;have a2:w.heap.size<=w'.heap.size:=h.lt;have T:=j.lt;clear A);all_goals
   go_wp2_with fail;go_meet;refine⟨_,rfl,rfl,ND _ _ 112 _ g _ _ _ _ _ _ rfl ?_ _ (by first|rfl|simp) ?_ ?_ ?_,?_⟩
   .first
     |exact ao _ _
     |exact(j.heap (b:=w'.heap.size) gG).H (ao _ _)
     |exact(j.heap (b:=w'.heap.size) gG).H (ao w'.drew _)
     |exact(j.heap (b:=w'.heap.size) gG).H (ao w' _)
   .first
     |exact aF h.lt i.lt
     |exact h.lt
   .first
     |exact aF h.lt (aF i.lt gG)
     |exact aF h.lt i.lt
   .intro gH tc ht;have F:=Q gH tc (λb W h2=>by
     refine ht b ?_ ?_ ?_
     all_goals(simp at W T|-;omega))
    first
     |exact F
     |exact F.only (iT (jC.alloc _)) (λ_ _ e=>e.elim) λ_ _ e=>e
   first
    |exact((h.H i).alloc _).alloc _
    |exact(h.H i).alloc _
 case rest=>obtain⟨p,rfl,rfl,hM,hB⟩:=hcut;go_wp2;go_ret2;exact⟨⟨p,rfl,hM⟩,hB⟩
theorem BG:∀(l:List Value) (k:Nat) (A:Array Value),(List.foldl (λcs x=>cs.setIfInBounds x.snd x.fst) A (l.zipIdx k)).size=A.size
 |[],_,_=>rfl
 |v::l,k,A=>by rw[eO,dF,BG l];simp
theorem Kd:∀(l:List Value) (k:Nat) (A:Array Value) (i:Nat),i<l.length->k+i<A.size->(List.foldl (λcs x=>cs.setIfInBounds x.snd x.fst) A (l.zipIdx k))[k+i]?=l[i]?
 |[],_,_,_,h,_=>mi h
 |v::l,k,A,0,_,F=>by
  rw[eO,dF];have H:∀(l:List Value) (y:Nat) (A:Array Value) (j:Nat),j<y->(List.foldl (λcs x=>cs.setIfInBounds x.snd x.fst) A (l.zipIdx y))[j]?=A[j]?:=by
   intro l;induction l with
   |nil=>intros;rfl
   |cons u l L=>intro y A j M;rw[eO,dF,L _ _ _ C,cO ig]
  simp_all
 |v::l,k,A,i+1,h,F=>by rw[eO,dF,show k+(i+1)=(k+1)+i by omega,Kd l (k+1) _ i (iU h) ig];simp
def Ow(l:List Value)(A)(h:A.size=l.length):List.foldl (λcs x=>cs.setIfInBounds x.snd x.fst) A l.zipIdx=l.toArray:=by
 apply Array.ext_getElem?;intro i;by_cases j:i<l.length
 .have:=Kd l 0 A i j C;simp_all
 rw[gh (by rw[BG];omega),gh ig]
def zp(gH:Nat->Nat)(N p bm tc:Nat):Nat->Nat:=λb=>if b<N then gH b else if b=p then tc else if b=bm then tc+1 else tc+3
def Su(gH)(N p bm tc):∀b,N<=b->tc<=zp gH N p bm tc b/\zp gH N p bm tc b<tc+32:=λb h=>by
 unfold zp;rw[az C];split
 .simp
 split<;>omega
def Rh{B c d:Nat}{bm:Nat}{j:Nat}(Q:B<=bm)(A:B<=p)(y:bm≠p)(F:w1.heap[p]?=some (im (qW (Cx.new n m c d x) (LN g n bm)).toArray 114 (0,0)))(H:w1.heap[bm]?=some (.map #[] 0))(L:pV w1 (zp gH B p bm j) (j+3) (gN (G g) n n) (jD n m))(qb):Cl w1 (zp gH B p bm j) j p qb (Cx.new n m c d x):=
 ⟨LN g n bm,F,by unfold zp;rw[az C,aE rfl],L,⟨[],mT,λb M=>by simp[LN,Value.ownBlock]at M,λi r P=>by simp[Cx.new]at P⟩,by show zp gH B p bm j bm=j+1;unfold zp;rw[az C,az y,aE rfl],H,λc h=>by simp[Cx.new]at h,by simp[Cx.new],QR.zero,QR.zero,QR.zero,.inl ⟨rfl,rfl⟩,Rd.nil,λc h=>by simp[Cx.new]at h,⟨by simp[Cx.new],λc h=>by simp[Cx.new]at h,by simp[Cx.new],λc h=>by simp[Cx.new]at h⟩⟩
theorem DQ(n m c d:Nat)(x)(w)(hf:nB n m c d=true)(h0:1000<=x)(P:x<=1099)(gH:Nat->Nat)(tc):iB 16 #[cfg n m c d,I x] w λe w'=>∃p,e=gX (.tuple #[O p,I 0])/\w.heap.size<=p/\Bl w w'/\∃gI,(∀b,b<w.heap.size->gI b=gH b)/\(∀b,w.heap.size<=b->tc<=gI b/\gI b<tc+32)/\∀qb,Cl w' gI tc p qb (Cx.new n m c d x):=by
 have HN:=gP λw=>Qs n m c d x w hf h0 P;have Q:=(Bl.refl w).alloc (rz n m c d);clear hf;go_enter func16,ntmps16;go_wp2_with fail;refine(HN _).L ?_;rintro e w1⟨⟨p,rfl,g,bm,T,a4,M,W,a5,hL⟩,i⟩;obtain⟨cs,h⟩:∃cs,cs=qW (Cx.new n m c d x) (LN g n bm):=⟨_,rfl⟩;have y:cs.length=55:=by rw[h];rfl
 rw[<-h]at M;have Y:Hid (w1.rangeAt p 0 cs):=λj v hv=>by rw[bP,ax w1 p j _ 112 (0,0) M];simpa using hv
 have a0:Hid ((prog.info? 112).map (·.size)=some cs.length):=by unfold Hid;rw[y];kernel_rfl
 let⟨HC,HM⟩:=gO h (And.intro T (And.intro W hL));have A:w.heap.size<=w1.heap.size:=(Q.H i).lt;have F:=Q.lt;have HB:=gP (Q.H i);have a1:Hid (p<w1.heap.size):=(ae.1 M).1;have a2:bm<w1.heap.size:=(ae.1 W).1;clear M W hL h HN i;go_wp2_with(refine wpList_load_mid rfl 112 (.tmp 18) rfl p 0 rfl cs _ Y underlying112 rfl a0 ?_);go_ret2;have fin:∀Z:Array Value,Z.size=55->List.foldl (λcs x=>cs.setIfInBounds x.snd x.fst) Z cs.zipIdx=cs.toArray:=λZ hZ=>Ow cs Z C;obtain⟨k1,k2,k3⟩:=HM.o;have a3:bm≠w1.heap.size:=C;refine⟨w1.heap.size,rfl,A,HB.alloc _,zp gH w.heap.size w1.heap.size bm tc,λb i=>aE i,Su gH w.heap.size w1.heap.size bm tc,λqb=>Rh (B:=w.heap.size) (g:=g) (bm:=bm) (aF F k1) A a3 ?_ ((cL w1 _ a2).H k2) ?_ qb⟩
 .rw[<-HC.o,fin _ rfl];exact ao w1 _
 refine(k3 (zp gH w.heap.size w1.heap.size bm tc) (tc+3) λb i P h2=>?_).only (iT (jC.alloc _)) (λ_ _ e=>e.elim) λ_ _ e=>e;unfold zp;rw[az (gS (aF F i)),az (gS a1.o),az P]
theorem Cr(ad)(b o c n bs os cs)(rs)(lG)(w)(hn:n<=(iE rs).length)(T:n<=c)(a3:n<=3)(W:c<=9223372036854775807)(Q:0<n->ad=some (U b o)/\b<w.heap.size)(hc:∀j d,j<n->(iE rs)[j]?=some d->w.cell? (U b (o+j))=some (B8 d))(y:mn w bs os lG)(hs:lG.length<=1000)(Y:∀r∈rs,r.Ok lG):iB 246 #[gN ad n c,gN (some (U bs os)) lG.length cs] w λe w'=>e=gX (.tuple #[.agg #[I 0,OO,OO],.bool false])/\Bl w w':=by
 have F:=(Bl.refl w).alloc wO;have HS:=gP (xD ad b o c n bs os cs rs lG _ hn T C W (λh=>⟨(Q h).1,af (Q h).2 F.lt⟩) (λj d hj hd=>by rw[F.cell (Q C).2];exact hc j d hj hd) ⟨af y.1 F.lt,λj h=>by rw[F.cell y.1,F.cell y.1,F.cell y.1];exact y.2 j h⟩ hs Y);let⟨HA,hX,a1⟩:=iz F (ao w wO) Y;clear hc y Q Y F;go_enter func246,ntmps246;go_wp2_with fail;refine HS.L ?_;rintro e w2⟨k,rv,xs,rfl,k1,k2,k3,k4,L⟩;have hk:k=0:=by
  apply bk;intro a4;have h1:off rs 1<=off rs k:=by
   have:∀i,1<=i->i<=rs.length->off rs 1<=off rs i:=by
    intro i hi;induction i with
    |zero=>omega
    |succ i ih=>
     intro hl;by_cases h0:i=0
     .subst h0;exact jl
     have:=ih C C;rw[si rs i C];omega
   exact this k C k1
  have h2:off rs 1=rs[0].bytes.length:=by rw[si rs 0 C,tX,bP]
  have h3:=(a1 rs[0] (aL _)).n0;have h4:=rs[0].len;omega
 subst hk;let⟨a0,c0,M⟩:=jw k4.ie;have P:(List.take 0 rs).length=0:=gG;rw[P]at M;subst M;have A:=(L.heap gG).H hX;let⟨y0,y1,y2⟩:=oR A 0 1 2 rfl;let⟨f0,f1,f2⟩:=B9 A 0 1 2;have a5:w.heap.size<w2.heap.size:=(ae.1 A).1;have a2:=gP (HA.H L);clear HS L hX A HA k1 k2 k3 k4 P;go_wp2;have Z:=(((gL.refl (λb=>b=w.heap.size) w2).setCell (U w.heap.size 0) (.inl rfl) (I 0)).setCell (U w.heap.size 1) (.inl rfl) OO).setCell (U w.heap.size 2) (.inl rfl) OO;have hB:=a2.A Z λn e=>C;exact aG (v:= .tuple #[.agg #[I 0,OO,OO],.bool false]) (by simp[results,results246,go_sem,y0,y1,y2]) rfl ⟨rfl,hB⟩
structure Nz(w:World)(v:Value)(ds:List Int):Prop where
 l:ds.length<=3
 nil:ds=[]->∃ad c,v=.slice ad 0 c/\c<=9223372036854775807
 pk:0<ds.length->sP w v ds
 UZ:∀d∈ds,0<=d/\d<=255
def Nz.bl(h:Nz w v ds)(i:Bl w w'):Nz w' v ds:=⟨h.l,h.nil,λe=>(h.pk e).bl i,h.UZ⟩
def Xc(lG:List (Int×Int×Int)):Prop:=∀s∈lG,0<=s.1/\s.1<=255/\1<=s.2.1/\s.2.1<=255/\0<=s.2.2/\s.2.2<=255
theorem tL(v)(ds)(bs os cs)(lG)(w)(L:Nz w v ds)(y:mn w bs os lG)(T:lG.length<=1000)(hS:Xc lG):iB 246 #[v,gN (some (U bs os)) lG.length cs] w λe w'=>e=gX (.tuple #[.agg #[I 0,OO,OO],.bool false])/\Bl w w':=by
 by_cases h0:ds=[]
 .obtain⟨ad,c,rfl,hc⟩:=L.nil h0;exact Cr ad 0 0 c 0 bs os cs [] lG w gG C C hc (λh=>C) (λj d P=>C) y T λr hr=>mi hr
 have ja:0<ds.length:=cU.2 h0;have hp:=L.pk ja;have hl:=L.l
 cases hf:lG.any λs=>qp s.1 s.2.1 s.2.2 ds with
 |false=>exact zX v ds bs os cs lG w hp ja C L.UZ y T hf
 |true=>
  obtain⟨s,M,A⟩:=cK.1 hf;let⟨a1,a2,a3,a4,a5,a6⟩:=hS s M;obtain⟨b,o,c,rfl,e1,e2,e3,e4⟩:=hp;unfold qp at A;simp only[bL,eV,ZX,ZT]at A;obtain⟨⟨f1,f2⟩,f3⟩:=A;obtain⟨F,a0,W⟩:∃F:Nat,(F:Int)<=s.2.2/\(3<=ds.length->ds.getD 2 0=F):=by
   by_cases h3:3<=ds.length
   .have:0<=ds.getD 2 0:=by rw[aS,ah C];exact(L.UZ _ (aL _)).1
    exact⟨(ds.getD 2 0).toNat,by obtain f3|f3:=f3<;>omega,λ_=>C⟩
   exact⟨0,C,λh=>C⟩
  have ok:Rc.Ok lG ⟨s.1,List.replicate s.2.1.toNat 0,List.replicate F 0⟩:=⟨a1,a2,ig,ig,ig,λn hn=>by rw[fT hn];decide,λd Q=>by rw[fT Q];omega,s,M,rfl,ig,ig⟩;have Y:∀j,j<ds.length->(iE [(⟨s.1,List.replicate s.2.1.toNat 0,List.replicate F 0⟩:Rc)])[j]?=ds[j]?:=λj P=>by
   have H:j=0\/j=1\/j=2:=C;have hg:∀i,i<ds.length->ds[i]?=some (ds.getD i 0):=λi hi=>by rw[aS,ah hi];rfl
   rw[hg j P];obtain rfl|rfl|rfl:=H
   .rw[f1];simp[iE,Rc.bytes,iV]
   .have Z:ds.getD 1 0=s.2.1:=by
     obtain f2|f2:=f2
     .omega
     exact f2
    rw[Z];simp[iE,Rc.bytes,iV];omega
   rw[W C];simp[iE,Rc.bytes,iV]
  refine Cr (some (U b o)) b o c ds.length bs os cs [⟨s.1,List.replicate s.2.1.toNat 0,List.replicate F 0⟩] lG w ?_ e2 hl e3 (λ_=>⟨rfl,e1⟩) (λj d P Q=>?_) y T (iU ok)
  .have:=KS ⟨s.1,List.replicate s.2.1.toNat 0,List.replicate F 0⟩;simp only[iE,dP,List.flatMap_nil,cF];omega
  rw[Y j P]at Q;exact e4 j d Q
def zt(v)(ds)(w)(i:Nz w v ds):iB 215 #[v] w λe w'=>e=gX (.tuple #[I 0,I 0,.agg #[I 0,I 0,I 0,OO],.bool false])/\Bl w w':=
 tS v w λW b j h=>tL v ds b 0 1 _ W (i.bl j) h gF (by intro s h;simp at h;subst h;simp)
def yB(v)(ds)(w)(i:Nz w v ds):iB 213 #[v] w λe w'=>e=gX (.tuple #[I 0,.agg #[I 0,I 0,I 0,I 0,I 0,I 0,OO],.bool false])/\Bl w w':=
 ts v w λW b j h=>tL v ds b 0 1 _ W (i.bl j) h gF (by intro s h;simp at h;subst h;simp)
theorem Ji(fr)(v)(ds)(i:Nz w v ds):iB 162 #[O p,I fr,v] w λY w'=>Y=iw/\Bl w w':=by
 have L:=gP (yB v ds w i);have M:Hid (∀W,Bl w W->_):=λW Z=>zt v ds W (i.bl Z);obtain⟨P,Q,vc,A⟩:∃P Q vc,v=gN P Q vc:=by
  by_cases T:ds=[]
  .obtain⟨ad,c,e,_⟩:=i.nil T;exact⟨_,_,_,e⟩
  obtain⟨b,o,c,e,_⟩:=i.pk (cU.2 T);exact⟨_,_,_,e⟩
 subst A;clear i;go_enter func162,ntmps162;go_wp2_with fail;refine gT L λw1 h=>?_;obtain⟨j,F⟩:=gO (M _ (h.alloc GH)) (h.alloc GH);clear h M L;go_wp2_with fail;refine gT j λw2 y=>?_;have H:=gP y;clear y j;go_wp2;go_end0;exact⟨rfl,F.H (H.alloc _)⟩
def LK:Xc nV:=by intro s h;simp only[nV,bh,dB,or_false]at h;obtain rfl|rfl|rfl|rfl|rfl|rfl|rfl:=h<;>simp
theorem wS(v)(ds)(w)(M:Nz w v ds):iB 211 #[v] w λe w'=>e=gX (.tuple #[.agg #[I 0,I 0,I 0,I 0,I 0,I 0,I 0,I 0,OO],.bool false])/\Bl w w':=by
 have bA:=(Bl.refl w).alloc (im TC 100);let⟨hX,HS,P,Hv⟩:=jR (ao w (im TC 100)) (rB (w.alloc (im TC 100))) bA M;obtain⟨Q,T,vc,W⟩:∃Q T vc,v=gN Q T vc:=by
  by_cases h0:ds=[]
  .obtain⟨ad,c,e,_⟩:=M.nil h0;exact⟨_,_,_,e⟩
  obtain⟨b,o,c,e,_⟩:=M.pk (cU.2 h0);exact⟨_,_,_,e⟩
 subst W;clear M bA;go_enter func211,ntmps211;go_wp2_with fail;refine HS.L ?_;rintro e w1⟨bs,rfl,h,A⟩;let⟨HW,F,i⟩:=iz (tL (gN Q T vc) ds bs 0 7 nV w1 (Hv.bl (P.H h)) A gF LK) (P.H h) ((h.heap gG).H hX);clear HS h A hX P;go_wp2_with fail;refine gT HW λw2 j=>?_;have y:=(j.heap (ae.1 i).1).H i;obtain⟨⟨x0,x1,x2,x3,x4,x5,x6,x7,x8⟩,gg,lX⟩:=uf y;have f0:=gg 0;have f1:=gg 1;have f2:=gg 2;have f3:=gg 3;have f4:=gg 4;have f5:=gg 5;have f6:=gg 6;have f7:=gg 7;have f8:=gg 8;let⟨Y,Z⟩:=gO (F.H j) y;clear HW j y i F gg;go_wp2;have L:=kA [I 0,I 0,I 0,I 0,I 0,I 0,I 0,I 0,OO] 0 w2 [I 0,I 0,I 0,I 0,I 0,I 0,I 0,I 0,OO] Z;have hO:=jO (S:=λb=>b=w.heap.size) (p:=w.heap.size) (.inl rfl) [I 0,I 0,I 0,I 0,I 0,I 0,I 0,I 0,OO] 0 w2 (gL.refl _ w2);have hB:=Y.A hO λn e=>C;have bD:=(Bl.refl (ku w2 w.heap.size 0 [I 0,I 0,I 0,I 0,I 0,I 0,I 0,I 0,OO])).alloc wO;obtain⟨⟨y0,y1,y2,y3,y4,y5,y6,y7,y8⟩,_,_⟩:=uf ((bD.heap (ae.1 L).1).H L);simp only[ku]at y0 y1 y2 y3 y4 y5 y6 y7 y8;exact aG (v:= .tuple #[.agg TC,.bool false]) (by simp only[results,results211];simp[go_sem,y0,y1,y2,y3,y4,y5,y6,y7,y8]) rfl ⟨rfl,hB.H bD⟩
theorem EL(g)(fr)(v)(ds)(w)(i:Nz w v ds):iB 161 #[O g,I fr,v] w λM w'=>M=iw/\Bl w w':=by
 have A:=gP (wS v ds w i);obtain⟨F,H,vc,j⟩:∃F H vc,v=gN F H vc:=by
  by_cases L:ds=[]
  .obtain⟨P,c,e,_⟩:=i.nil L;exact⟨_,_,_,e⟩
  obtain⟨b,o,c,e,_⟩:=i.pk (cU.2 L);exact⟨_,_,_,e⟩
 subst j;clear i;go_enter func161,ntmps161;go_wp2_with fail;refine gT A λw1 h=>?_;have y:=gP h;clear h A;go_wp2;refine aG (v:= .tuple #[]) (by simp[results,results161,go_sem]) rfl ?_;exact⟨rfl,y.alloc _⟩
theorem DE(g)(fr)(v)(ds)(w)(h:Nz w v ds):iB 101 #[O g,I fr,v] w λj w'=>j=iw/\Bl w w':=by
 have H:=gP (EL g fr v ds w h);clear h;go_enter func101,ntmps101;go_wp2_with fail;refine gT H λw' i=>?_;have y:=gP i;clear H i;go_wp2;go_end0;exact⟨rfl,y⟩
def pk(c n:Int):Int:=(if c<0 then-(c+1)else c)%n
def lZ(c n)(h:0<n):0<=pk c n/\pk c n<n:=⟨dq _ C,de _ h⟩
theorem j5(c n)(w)(H:-9223372036854775808<=c)(L:c<=9223372036854775807)(i:0<n)(y:n<=9223372036854775807):iB 15 #[I c,I n] w λe w'=>e=gX (I (pk c n))/\w'=w:=by
 unfold pk;have h:n≠0:=C;by_cases j:c<0
 .rw[aE j];have A:Int.tmod (-(c+1)) n=(-(c+1))%n:=fL C;have r:=dq (-(c+1)) h;have F:=de (-(c+1)) i;go_enter func15,ntmps15;go_wp2;go_ret;exact⟨rfl,rfl⟩
 rw[az j];have A:Int.tmod c n=c%n:=fL C;have r:=dq c h;have F:=de c i;go_enter func15,ntmps15;go_wp2;go_ret;exact⟨rfl,rfl⟩
abbrev nO(x:Int):Prop:=-9223372036854775808<=x/\x<=9223372036854775807
theorem DZ(c u v s)(w)(h:nO c)(i:nO u)(j:nO v)(y:nO s):iB 14 #[I c,I u,I v,I s] w λe w'=>e=gX (cfg (1+pk c 3) (1+pk u 3) (1+2*pk v 3) (1+pk s 5))/\Bl w w':=by
 let⟨P1,A,F,H⟩:=jR (λw=>j5 c 3 w h.1 h.2 gF gF) (λw=>j5 u 3 w i.1 i.2 gF gF) (λw=>j5 v 3 w j.1 j.2 gF gF) λw=>j5 s 5 w y.1 y.2 gF gF;have M:=lZ c 3 gF;have P:=lZ u 3 gF;have Q:=lZ v 3 gF;have T:=lZ s 5 gF;go_enter func14,ntmps14;go_wp2_with fail;refine(P1 _).L ?_;rintro e w'⟨rfl,rfl⟩;go_wp2_with fail;refine(A _).L ?_;rintro e w'⟨rfl,rfl⟩;go_wp2_with fail;refine(F _).L ?_;rintro e w'⟨rfl,rfl⟩;go_wp2_with fail;refine(H _).L ?_;rintro e w'⟨rfl,rfl⟩;go_wp2;(try simp only[Exit.inBlock,Exit.then])
 exact aG (v:=cfg (1+pk c 3) (1+pk u 3) (1+2*pk v 3) (1+pk s 5)) (by simp[results,results14,go_sem,cfg]) rfl ⟨rfl,jC.alloc _⟩
inductive Pk
 |req (r:Rq)
 |rep (nr:Int) (A:An)
 |vot (nr lt:Int) (v:Vo)
 |noi (ds:List Int)
def XE(nr:Int)(A:An):List Int:=iV 101 [nr,A.wh,A.ep,A.mark,A.ct.kd,A.ct.cl,A.ct.ca] A.ct.val
def XA(nr lt:Int)(v:Vo):List Int:=iV 102 [nr,lt,v.wh,v.pr,v.ba] v.val
def Pk.bytes:Pk->List Int
 | .req r=>Vz r
 | .rep nr A=>XE nr A
 | .vot nr lt v=>XA nr lt v
 | .noi ds=>ds
structure Le where
 fr:Int
 tt:Int
 pk:Pk
structure Qe where
 cl:Int
 ln:Int
 nr:Int
 pk:Pk
def Qe.z(e:Qe):Qz:=⟨e.cl,e.ln,e.nr,e.pk.bytes⟩
def Qe.is(e:Qe)(cl ln:Int):Bool:=e.cl==cl&&e.ln==ln
def xL(q:List Qe)(a:Qe):List Qe:=match q.find? λb=>b.is a.cl a.ln with
 |none=>q++[a]
 |some b=>if a.nr<=b.nr then q else q.map λb=>if b.is a.cl a.ln then a else b
theorem QQ(q)(a):Br (q.map Qe.z) a.z=(xL q a).map Qe.z:=by
 unfold Br xL;rw[List.find?_map];have h:((λb:Qz=>b.is a.z.cl a.z.ln)∘Qe.z)=λb:Qe=>b.is a.cl a.ln:=rfl;rw[h]
 cases q.find? λb=>b.is a.cl a.ln with
 |none=>simp
 |some b=>
  simp only[bG];show(if a.nr<=b.nr then _ else _)=_;split
  .rfl
  rw[br,br];refine bf λx _=>?_;show(if x.is a.cl a.ln then a.z else x.z)=Qe.z (if x.is a.cl a.ln then a else x);split<;>rfl
structure VS where
 E:Int->Ep
 lt:Int
def VS.first:VS:=⟨λ_=>UE,0⟩
inductive vC
 |unit (ch:Int) (s:St) (h:List St)
 |voter (s:VS) (h:List VS)
structure Pl where
 part:vC
 q:List Qe
 up:Bool
 oB:Bool
structure Ac where
 X:Cx
 up:Bool
structure Kl where
 a:Nat
 b:Nat
 kind:Int
 pos:Int
 value:List Int
 c:List Int
 d:Int
 fin:Int
 r:Rz
structure Wd where
 n:Nat
 m:Nat
 v:Nat
 ce:Nat
 pl:List Pl
 ac:List Ac
 iA:List Le
 gK:List Kl
 a:Int
 mw:List Int
 jT:List Int
 iN:Nat
def jZ(n m i:Nat):Int:=if i<n*m then i else 100+i-(n*m:Nat)
def kg(i:Nat):Int:=1000+7*i
def lK(n m v ce:Nat)(ch:Int)(s:St)(r:Rq):An×St:=uT n m v ce ch s r.kd r.ep r.pl r.ct.kd r.ct.cl r.ct.ca r.ct.val
def rj(s:VS)(r:Rq):Vo×VS:=
 let R:=oD s.E r.kd r.ep r.pl r.ct.val
 (R.1,⟨R.2,if R.1.wh=1/\r.kd≠7 then max s.lt r.ep else s.lt⟩)
def Pl.recv(n m v ce:Nat)(P:Pl)(fr:Int)(p:Pk):Pl:=match p with
 | .req r=>match P.part with
  | .unit ch s h=>{P with part:= .unit ch (lK n m v ce ch s r).2 (h++[(lK n m v ce ch s r).2]),q:=xL P.q ⟨fr,r.ln,r.nr,.rep r.nr (lK n m v ce ch s r).1⟩}
  | .voter s h=>{P with part:= .voter (rj s r).2 (h++[(rj s r).2]),q:=xL P.q ⟨fr,r.ln,r.nr,.vot r.nr (rj s r).2.lt (rj s r).1⟩}
 |_=>P
def vC.mF:vC->vC
 | .unit ch s _=>.unit ch s [s]
 | .voter s _=>.voter s [s]
def Pl.mF(P:Pl):Pl:={P with part:=P.part.mF,q:=[]}
def vC.px(j:Nat):vC->vC
 | .unit ch _ h=>.unit ch (h.getD j St.first) (h.take (j+1))
 | .voter _ h=>.voter (h.getD j VS.first) (h.take (j+1))
def vC.hl:vC->Nat
 | .unit _ _ h=>h.length
 | .voter _ h=>h.length
def Pl.px(P:Pl)(j:Nat):Pl:={P with part:=P.part.px j,q:=[]}
def Cx.recv(X:Cx)(fr:Int)(p:Pk):Cx:=match p with
 | .rep nr A=>X.kI fr nr A
 | .vot nr lt v=>X.sg fr nr lt v
 |_=>X
def Kl.B(t:Int)(c:Kl)(a:Option Ac):Kl:=match a with
 |none=>c
 |some a=>if a.up then(match a.X.c[c.b]? with
  |none=>c
  |some r=>if c.fin=0/\r.wh≠0 then{c with fin:=t,r:=r}else c)else c
def Wz(fr tt id mk:Int):Bool:=
 let v:=if tt=id then fr-100 else if fr=id then tt-100 else-1
 decide (0<=v)&&decide (v<5)&&decide ((mk>>>v.toNat)%2=0)
namespace Wd
def lM(W:Wd):Nat:=W.n*W.ce
def js(W:Wd):Wd:={W with a:=W.a+1,gK:=W.gK.map λc=>c.B (W.a+1) W.ac[c.a]?}
def nQ(W:Wd)(a:Nat):Nat:=(W.gK.filter λc=>c.a==a).length
def uB(W:Wd)(a:Nat):Nat:=(W.gK.filter λc=>c.a==a&&decide (c.fin=0)).length
def rR(W:Wd)(fr tt:Int):Bool:=(List.range (min W.jT.length W.ac.length)).any λi=>Wz fr tt (kg i) (W.jT.getD i 0)
def qS(W:Wd)(l:Le)(k:Nat):List Pl:=W.pl.mapIdx λi P=>if i<k/\jZ W.n W.m i=l.tt/\P.up=true then P.recv W.n W.m W.v W.ce l.fr l.pk else P
def sr(W:Wd)(l:Le)(k:Nat):List Ac:=W.ac.mapIdx λi A=>if i<k/\kg i=l.tt/\A.up=true then{A with X:=A.X.recv l.fr l.pk}else A
def ox(W:Wd)(l:Le):Wd:={W with a:=W.a+1,iN:=W.iN+1,pl:=W.qS l W.pl.length,ac:=W.sr l W.ac.length}
def lS(W:Wd)(l:Le):Wd:=if W.rR l.fr l.tt then{W with a:=W.a+1,iN:=W.iN+1}else(W.ox l).js
def qi(W:Wd)(i:Nat)(X:Cx):Wd:={W with iN:=W.iN+1,ac:=W.ac.modify i λA=>{A with X:=X}}
def kU(W:Wd)(k:Nat):Wd:=
 if k<W.pl.length then(match W.pl[k]? with
  |none=>W
  |some P=>if P.up then{W with iN:=W.iN+1,pl:=W.pl.set k P.mF,iA:=W.iA++P.q.map λe=>⟨jZ W.n W.m k,e.cl,e.pk⟩}else W)
 else match W.ac[k-W.pl.length]? with
  |none=>W
  |some A=>if A.up then{W with iN:=W.iN+1,ac:=W.ac.set (k-W.pl.length) {A with X:=A.X.mF},iA:=W.iA++A.X.jL.map λz=>⟨kg (k-W.pl.length),z.1,.req z.2⟩}else W
def jL(W:Wd):Wd:=(List.range (W.pl.length+W.ac.length)).foldl kU {W with iA:=[]}
def mJ(W:Wd)(ls:List Le):Wd:=ls.foldl lS W
def step(W:Wd):Wd:=({W.jL with iA:=W.iA}:Wd).mJ W.jL.iA
def qz(W:Wd):Nat->Wd×Bool
 |0=>(W,false)
 |k+1=>if W.jL.iA.length=0 then(W.step,true)else W.step.qz k
def kO(W:Wd)(i:Nat):Wd:=match W.ac[i]? with
 |none=>W
 |some A=>if A.up then W.qi i A.X.nM else W
def Ur(W:Wd):Wd:=(List.range W.ac.length).foldl kO W
def sE(W:Wd):Wd×Bool:=W.Ur.qz 300
end Wd
def iL(x:Int)(n:Nat):Nat:=(pk x n).toNat
def j4(n:Nat):List Int:=[n%256,n/256%256,n/65536%256,n/16777216%256,118]
def Cx.nT(X:Cx)(kind pos:Int)(value:List Int):Cx:=
 if kind=1 then X.append value else if kind=2 then X.D2 pos else if kind=3 then X.fill pos else if kind=4 then X.uU pos else X.change pos
namespace Wd
def Cg(W:Wd)(i n:Nat)(t:Int):Wd:={W with gK:=W.gK.map λc=>if c.a=i/\c.b=n then{c with c:=c.c++[t]}else c,mw:=W.mw++[t]}
def oy(W:Wd)(i:Nat)(A:Ac)(n:Nat)(t:Int):Wd:=(({W with iN:=W.iN+1}:Wd).Cg i n t).qi i (A.X.ld n t)
def ld(W:Wd)(a which t:Int):Wd:=match W.ac[iL a W.ac.length]? with
 |none=>W
 |some A=>if A.up=true/\A.X.jA≠[]then(W.oy (iL a W.ac.length) A (A.X.jA.getD (iL which A.X.jA.length) 0) t).js else W
def j6(W:Wd)(kind b:Int):Int:=if kind=1 then 0 else if kind=2\/kind=3 then iL b W.lM else if kind=4 then iL b (W.lM+1)else iL b (W.n*W.m)
def mx(W:Wd)(kind:Int):List Int:=if kind=1 then j4 W.gK.length else []
def nF(W:Wd)(kind b:Int)(i:Nat)(A:Ac):Wd:=
 ({W with gK:=W.gK++[⟨i,W.nQ i,kind,W.j6 kind b,W.mx kind,[],W.a,0,Rz.zero⟩]}:Wd).qi i (A.X.nT kind (W.j6 kind b) (W.mx kind))
def call(W:Wd)(kind a b:Int):Wd:=match W.ac[iL a W.ac.length]? with
 |none=>W
 |some A=>if A.up then(if A.X.a.length=8 then({W with iN:=W.iN+1}:Wd).js else((({W with iN:=W.iN+1}:Wd).js).nF kind b (iL a W.ac.length) A).js)else W
def kS(W:Wd):Wd:=if W.ac.length≥8 then W else{W with iN:=W.iN+1,ac:=W.ac++[⟨Cx.new W.n W.m W.v W.ce (kg W.ac.length),true⟩]}
end Wd
structure Gh where
 R:List Rz
 n:Nat
 m:Nat
 v:Nat
 c:Nat
 id:Int
 J:Nat->Int->Ct->Int->Int->Prop
structure Gh.le(g g':Gh):Prop where
 R:g'.R=g.R
 s:(g'.n=g.n/\g'.m=g.m)/\g'.v=g.v/\g'.c=g.c/\g'.id=g.id
 J:∀a b c d e,g.J a b c d e->g'.J a b c d e
def Gh.le.refl(g):Gh.le g g:=⟨rfl,⟨⟨rfl,rfl⟩,rfl,rfl,rfl⟩,λ_ _ _ _ _ e=>e⟩
structure Bd where
 E:Int
 B:Int
 K:Int
 N:Int
 g:Gh
structure Bd.ln(b b':Bd):Prop where
 e:b.E<=b'.E
 k:b.K<=b'.K
 n:b.N<=b'.N
 ba:b.B<=b'.B
structure Bd.le(b b':Bd):Prop extends Bd.ln b b' where
 g:Gh.le b.g b'.g
structure IK(b:Bd)(t:Ct):Prop where
 kd:0<=t.kd/\t.kd<=9
 cl:0<=t.cl/\t.cl<=1099
 ca:0<=t.ca/\t.ca<=b.N
 vl:t.val.length<=8
 a:mR t.val
structure DC(b:Bd)(A:An):Prop where
 wh:0<=A.wh/\A.wh<=10
 ep:0<=A.ep/\A.ep<=b.E+1
 NC:0<=A.mark/\A.mark<=48
 ct:IK b A.ct
 tk:A.wh=2->sy A.ct.kd A.ct.val.length=true
structure Bg(b:Bd)(v:Vo):Prop where
 wh:0<=v.wh/\v.wh<=10
 pr:0<=v.pr/\v.pr<=b.B
 ba:0<=v.ba/\v.ba<=b.B
 vl:v.val.length<=255
 a:mR v.val
structure Wl(b:Bd)(r:Rq):Prop where
 ln:0<=r.ln/\r.ln<10
 nr:0<=r.nr/\r.nr<=b.K
 ep:0<=r.ep/\r.ep<=b.E+1
structure PX(b:Bd)(r:Rq):Prop extends Wl b r where
 kd:r.kd=1\/r.kd=2\/r.kd=3\/r.kd=4
 pl:0<=r.pl/\r.pl<=48
 ct:IK b r.ct
 c2:r.kd=2->sy r.ct.kd r.ct.val.length=true
 c0:r.kd≠2->r.ct.val=[]
structure PA(b:Bd)(r:Rq):Prop extends Wl b r where
 kd:r.kd=5\/r.kd=6\/r.kd=7
 pl:0<=r.pl/\r.pl<=b.B
 c0:r.ct.kd=0/\r.ct.cl=0/\r.ct.ca=0
 vl:r.ct.val.length<=255
 a:mR r.ct.val
 v0:r.kd≠6->r.ct.val=[]
structure QK{α:Type}(R:Rq->Prop)(AK:α->Prop)(I:Int->Prop)(q:Qn α):Prop where
 A:q.nodes≠[]->R q.A
 nl:q.nodes.length<=14
 nd:q.nodes.Nodup
 id:∀x∈q.nodes,I x
 ak:∀z∈q.B,AK z.2
 ai:∀z∈q.B,z.1∈q.nodes
 an:(q.B.map (·.1)).Nodup
 k0:0<=q.A.kd/\q.A.kd<=7
 v0:q.A.ct.val.length<=255
def nL(n m:Nat)(u:Int):Prop:=0<=u/\u<n*m
def oj(v:Nat)(u:Int):Prop:=100<=u/\u<100+v
abbrev QU(b:Bd)(n m:Nat)(q:Qn An):Prop:=QK (PX b) (DC b) (nL n m) q
abbrev QW(b:Bd)(v:Nat)(q:Qn Vo):Prop:=QK (PA b) (Bg b) (oj v) q
structure Tn(r:Rz):Prop where
 wh:0<=r.wh/\r.wh<=10
 ad:0<=r.ad/\r.ad<=48
 vl:r.val.length<=8
 a:mR r.val
structure rQ(b:Bd)(n m ce:Nat)(c:jz):Prop where
 kd:c.kind=1\/c.kind=2\/c.kind=3\/c.kind=4\/c.kind=5
 ad:0<=c.ij/\c.ij<=n*ce
 un:c.kind=5->nL n m c.unit
 ie:IK b c.ie
 o1:c.kind=1\/c.kind=3->sy c.ie.kd c.ie.val.length=true
 jb:IK b c.jb
 pl:c.c<=3
 e:Tn c.e
 ln:c.a<8
 st:b.g.J c.gU c.kind c.ie c.unit c.ij
structure OV(b:Bd)(n m ce:Nat)(ib:Int)(c:jz):Prop extends rQ b n m ce c where
 a1:c.kind≠4->c.kind≠5->c.q.nodes≠[]\/c.kind≠1->c.ij<n*ce
 u0:c.kind=5->c.q.nodes=[]
 c2:c.q.A.kd=2->sy c.jb.kd c.jb.val.length=true/\(c.kind=1\/c.kind=3)
 q:QU b n m c.q
 nr:c.q.nodes≠[]->c.q.A.nr<=ib
 e1:c.q.A.kd=4->c.e.wh≠0
def Xz(n m:Nat)(lay:List (List Int)):Prop:=nS lay (jD n m)
structure Xk(b:Bd)(X:Cx):Prop where
 n1:1<=X.n/\X.n<=3
 m1:1<=X.m/\X.m<=3
 v1:1<=X.vo/\X.vo<=5
 v2:X.vo%2=1
 c1:1<=X.ce/\X.ce<=16
 id:1000<=X.id/\X.id<=1099
 lay:Xz X.n X.m X.lay
 e:0<=X.b/\X.b<=b.E
 t:0<=X.e/\X.e<=b.E+1
 me:0<=X.mv.b/\X.mv.b<=b.E+1
 ba:0<=X.B/\X.B<=b.B
 mb:0<=X.mv.B/\X.mv.B<=b.B
 pJ:0<=X.ib/\X.ib<=b.K
 g:(X.c.length:Int)<=b.N
 rv:∀r∈X.c,Tn r
 pl:X.a.length<=8
 d:∀c∈X.a,OV b X.n X.m X.ce X.ib c
 pr:QU b X.n X.m X.d
 sl:QU b X.n X.m X.mv.a
 vt:QW b X.vo X.mv.A
 bg:∀z∈X.mv.D,Bg b z.2
 bl:X.mv.D.length<=14
 mv:X.mv.value.length<=255/\mR X.mv.value
 nk:PY X
 a:tP X
 f:∀k r,X.c[k]?=some r->(r.wh=0↔∃c∈X.a,c.gU=k)
 oL:∀(k:Nat) (r:Rz),b.g.R[k]?=some r->r.wh≠0->X.c[k]?=some r
 c:(X.n=b.g.n/\X.m=b.g.m)/\X.vo=b.g.v/\X.ce=b.g.c/\X.id=b.g.id
section
variable{b b':Bd}
def IK.L{t:Ct}(h:IK b t)(k:b.ln b'):IK b' t:=⟨h.kd,h.cl,⟨h.ca.1,bt h.ca.2 k.n⟩,h.vl,h.a⟩
def DC.L{t:An}(h:DC b t)(k:b.ln b'):DC b' t:=⟨h.wh,⟨h.ep.1,by have:=h.ep.2;have:=k.e;omega⟩,h.NC,h.ct.L k,h.tk⟩
def Bg.L{t:Vo}(h:Bg b t)(k:b.ln b'):Bg b' t:=⟨h.wh,⟨h.pr.1,bt h.pr.2 k.ba⟩,⟨h.ba.1,bt h.ba.2 k.ba⟩,h.vl,h.a⟩
def Wl.L{t:Rq}(h:Wl b t)(k:b.ln b'):Wl b' t:=⟨h.ln,⟨h.nr.1,bt h.nr.2 k.k⟩,⟨h.ep.1,by have:=h.ep.2;have:=k.e;omega⟩⟩
def PX.L{t:Rq}(h:PX b t)(k:b.ln b'):PX b' t:=⟨h.toWl.L k,h.kd,h.pl,h.ct.L k,h.c2,h.c0⟩
def PA.L{t:Rq}(h:PA b t)(k:b.ln b'):PA b' t:=⟨h.toWl.L k,h.kd,⟨h.pl.1,bt h.pl.2 k.ba⟩,h.c0,h.vl,h.a,h.v0⟩
def QK.L{α:Type}{R j:Rq->Prop}{y i:α->Prop}{q:Qn α}(h:QK R y iQ q)(A:∀r,R r->j r)(F:∀a,y a->i a):QK j i iQ q:=⟨λe=>A _ (h.A e),h.nl,h.nd,h.id,λz H=>F _ (h.ak z H),h.ai,h.an,h.k0,h.v0⟩
def QK.zero{α:Type}{R:Rq->Prop}{h:α->Prop}:QK R h iQ (Qn.zero:Qn α):=⟨λe=>absurd rfl e,by simp[Qn.zero],by simp[Qn.zero],by simp[Qn.zero],by simp[Qn.zero],by simp[Qn.zero],by simp[Qn.zero],by simp[Qn.zero,Rq.zero],by simp[Qn.zero,Rq.zero,no]⟩
def QK.qU{α:Type}{R:Rq->Prop}{i:α->Prop}{q:Qn α}(h:QK R i iQ q)(d):QK R i iQ {q with qU:=d}:=⟨h.A,h.nl,h.nd,h.id,h.ak,h.ai,h.an,h.k0,h.v0⟩
def Qn.oO{α:Type}{q:Qn α}:q.D nr fr=true↔q.A.nr=nr/\fr∈q.nodes/\∀z∈q.B,z.1≠fr:=by unfold Qn.D Qn.R;constructor;all_goals simp_all
def QK.add{α:Type}{R:Rq->Prop}{i:α->Prop}{q:Qn α}(h:QK R i iQ q)(A:q.D nr fr=true){a:α}(M:i a):QK R i iQ (q.add fr a):=by
 obtain⟨P,F,H⟩:=Qn.oO.1 A;refine⟨h.A,h.nl,h.nd,h.id,λz hz=>?_,λz hz=>?_,?_,h.k0,h.v0⟩
 .obtain hz|hz:=aT.1 hz
  .exact h.ak z hz
  simp_all
 .obtain hz|hz:=aT.1 hz
  .exact h.ai z hz
  simp at hz;subst hz;exact F
 show((q.B++[(fr,a)]).map _).Nodup;rw[aZ,cX];refine⟨h.an,gG,λx L y j=>?_⟩;simp at j;subst j;obtain⟨z,hz,rfl⟩:=aD.1 L;exact H z hz
def rQ.L(h:rQ b n m ce c)(k:b.ln b')(i:∀a b1 c d e,b.g.J a b1 c d e->b'.g.J a b1 c d e):rQ b' n m ce c:=⟨h.kd,h.ad,h.un,h.ie.L k,h.o1,h.jb.L k,h.pl,h.e,h.ln,i _ _ _ _ _ h.st⟩
def OV.L{i:Int}(h:OV b n m ce a c)(k:b.ln b')(j:∀a b1 c d e,b.g.J a b1 c d e->b'.g.J a b1 c d e)(y:a<=i):OV b' n m ce i c:=
 ⟨h.torQ.L k j,h.a1,h.u0,h.c2,h.q.L (λ_ e=>e.L k) λ_ e=>e.L k,λe=>bt (h.nr e) y,h.e1⟩
def Xk.L(h:Xk b X)(k:b.le b'):Xk b' X:=by have P:=k.e;have Q:=k.ba;have T:=k.k;have W:=k.n;exact⟨h.n1,h.m1,h.v1,h.v2,h.c1,h.id,h.lay,⟨h.e.1,gS h.e.2⟩,⟨h.t.1,gS h.t.2⟩,⟨h.me.1,gS h.me.2⟩,⟨h.ba.1,gS h.ba.2⟩,⟨h.mb.1,gS h.mb.2⟩,⟨h.pJ.1,gS h.pJ.2⟩,gS h.g,h.rv,h.pl,λc i=>(h.d c i).L k.toln k.g.J iK,h.pr.L (λ_ e=>e.L k.toln) λ_ e=>e.L k.toln,h.sl.L (λ_ e=>e.L k.toln) λ_ e=>e.L k.toln,h.vt.L (λ_ e=>e.L k.toln) λ_ e=>e.L k.toln,λz j=>(h.bg z j).L k.toln,h.bl,h.mv,h.nk,h.a,h.f,by rw[k.g.R];exact h.oL,by obtain⟨⟨y,A⟩,F,H,M⟩:=k.g.s;rw[y,A,F,H,M];exact h.c⟩
end
section
variable{b b':Bd}
def Bd.up(b:Bd)(k:Int):Bd:={b with K:=b.K+k}
def Bd.A(b:Bd){k:Int}(h:0<=k):b.le (b.up k):=⟨⟨iK,by show b.K<=b.K+k;omega,iK,iK⟩,Gh.le.refl _⟩
def Bd.QA{b:Bd}{k j:Int}(h:k<=j):(b.up k).le (b.up j):=⟨⟨iK,by show b.K+k<=b.K+j;omega,iK,iK⟩,Gh.le.refl _⟩
def Bd.le.refl(b:Bd):b.le b:=⟨⟨iK,iK,iK,iK⟩,Gh.le.refl _⟩
def tN:∀n∈[1,2,3],∀m∈[1,2,3],(jW (jD n m)).Nodup/\(jW (jD n m)).length=n*m/\(∀u∈jW (jD n m),0<=u/\u<n*m)/\(jD n m).length=n/\(∀ch∈jD n m,ch.length=m):=gF
theorem nS.all{R L:List (List Int)}(h:nS R L):(jW R).Sublist (jW L):=by
 induction L generalizing R with
 |nil=>have:=h.1;simp_all
 |cons ch L j=>
  cases R with
  |nil=>exact fp _
  |cons r R=>have y:nS R L:=⟨by have:=h.1;simpa using this,λi A c' F H=>h.2 (i+1) A c' (iU F) (iU H)⟩;exact ((h.2 0 r ch rfl rfl).1).append (j y)
def nS.H{R L M:List (List Int)}(h:nS R L)(k:nS L M):nS R M:=by refine⟨h.1.H k.1,λi r ch j y=>?_⟩;have A:=(aj.1 j).1;have F:=h.1;have e:L[i]?=some L[i]:=ah C;exact⟨(h.2 i r _ j e).1.H (k.2 i _ ch e y).1,(h.2 i r _ j e).2⟩
def BC(h:1<=k/\k<=3):k∈[1,2,3]:=by have:k=1\/k=2\/k=3:=C;simp_all
def Xk.first(h:Xk b X):(jW (jD X.n X.m)).Nodup/\(jW (jD X.n X.m)).length=X.n*X.m/\(∀u∈jW (jD X.n X.m),0<=u/\u<X.n*X.m)/\(jD X.n X.m).length=X.n/\(∀ch∈jD X.n X.m,ch.length=X.m):=by exact_mod_cast tN X.n (BC h.n1) X.m (BC h.m1)
def uP(h:n<=3)(i:m<=3):n*m<=9:=fF h i
def Fm(h:n<=3)(i:m<=16):n*m<=48:=fF h i
def Xk.all(h:Xk b X):(jW X.lay).Nodup/\(jW X.lay).length<=9/\∀u∈jW X.lay,nL X.n X.m u:=by let⟨j,F,y,_⟩:=h.first;have i:=h.lay.all;have:=uP h.n1.2 h.m1.2;exact⟨j.sublist i,gS i.length_le,λu A=>by have:=y u (i.subset A);unfold nL;exact_mod_cast this⟩
def Xk.sD(h:Xk b X)(i:ch∈X.lay):ch.Nodup/\1<=ch.length/\ch.length<=3/\∀u∈ch,nL X.n X.m u:=by obtain⟨r,j,y,A⟩:=h.lay.mem i;let⟨L,_,_,_,F⟩:=h.first;have M:=h.m1;have P:=F r j;have Q:=y.length_le;have T:0<ch.length:=cU.2 A;refine⟨h.all.1.sublist (fE i),C,C,λu H=>h.all.2.2 u (fq.2 ⟨ch,i,H⟩)⟩
def Xk.uD(h:Xk b X)(_ha:0<=a):X.chain a∈X.lay:=by unfold Cx.chain;have i:=h.n1.1;have j:X.lay.length=X.n:=h.lay.1.H h.first.2.2.2.1;have y:=dq a (show(X.n:Int)≠0 by omega);have A:=de a (show(0:Int)<X.n by omega);simp_all
def jV{d:jz}(h:d∈(X.put c').a):d=c'\/(d∈X.a/\d.gU≠c'.gU):=by obtain⟨e,i,rfl⟩:=aD.1 h;by_cases j:e.gU=c'.gU;all_goals simp_all
def Gf(k):(∃c∈X.a,c.gU=k)↔∃c∈(X.put c').a,c.gU=k:=by
 have i:∀d:jz,(if d.gU=c'.gU then c' else d).gU=d.gU:=λd=>by split<;>simp_all
 constructor
 .rintro⟨c,h,e⟩;exact⟨_,aD.2 ⟨c,h,rfl⟩,jk i e⟩
 rintro⟨c,h,e⟩;obtain⟨d,j,rfl⟩:=aD.1 h;exact⟨d,j,by rwa[i]at e⟩
def tP.eq(h:tP X)(H:c∈X.a)(L:c'∈X.a)(M:c.gU=c'.gU):c=c':=by
 obtain⟨i,A,rfl⟩:=aV.1 H;obtain⟨j,F,rfl⟩:=aV.1 L;have y:=dE.1 h.gU;obtain e|e|e:=fh i j
 .have:=y i j A F e;omega
 .simp_all
 have:=y j i F A e;omega
def tP.Xp(h:tP X)(y:c0∈X.a)(A:c'.gU=c0.gU)(F:c'.a=c0.a):tP (X.put c'):=by
 have H:∀d:jz,(if d.gU=c'.gU then c' else d).gU=d.gU:=λd=>by split<;>simp_all
 have L:∀d∈X.a,(if d.gU=c'.gU then c' else d).a=d.a:=λd i=>by
  split
  .rename_i e;rw[F,h.eq y i (by rw[<-A,e])]
  rfl
 refine⟨cj.2 (h.gU.imp λe=>by rw[H,H];exact e),λd i=>?_,cj.2 (List.Pairwise.imp_of_mem (λj M e=>by rw[L _ j,L _ M];exact e) h.a),λd i=>?_⟩
 .obtain rfl|⟨j,_⟩:=jV i
  .show d.gU<X.c.length;rw[A];exact h.lt c0 y
  exact h.lt d j
 obtain rfl|⟨j,_⟩:=jV i
 .rw[F];exact h.b c0 y
 exact h.b d j
def Xk.put(h:Xk b X)(M:c0∈X.a)(P:c'.gU=c0.gU)(Q:c'.a=c0.a)(T:OV b X.n X.m X.ce X.ib c')(j:c'.q.nodes≠[]->∀d∈X.a,d.gU≠c'.gU->d.q.nodes≠[]->d.q.A.nr≠c'.q.A.nr):Xk b (X.put c'):=by
 refine⟨h.n1,h.m1,h.v1,h.v2,h.c1,h.id,h.lay,h.e,h.t,h.me,h.ba,h.mb,h.pJ,h.g,h.rv,by show(X.a.map _).length<=8;rw[ay];exact h.pl,λd y=>?_,h.pr,h.sl,h.vt,h.bg,h.bl,h.mv,λd y e W i A F=>?_,h.a.Xp M P Q,λk r j=>(h.f k r j).H (Gf k),h.oL,h.c⟩
 .obtain rfl|⟨i,_⟩:=jV y
  .exact T
  exact h.d d i
 obtain rfl|⟨Y,g2⟩:=jV y<;>obtain rfl|⟨L,Z⟩:=jV W
 .rfl
 .exact absurd F.symm (j i e L Z A)
 .simp_all
 exact h.nk d Y e L i A F
def Xk.T(h:Xk b X):Xk (b.up 1) {X with ib:=X.ib+1}:=by have i:=h.L (b.A (k:=1) gF);exact⟨h.n1,h.m1,h.v1,h.v2,h.c1,h.id,h.lay,i.e,i.t,i.me,i.ba,i.mb,⟨by have:=h.pJ.1;show 0<=X.ib+1;omega,by have:=h.pJ.2;show X.ib+1<=b.K+1;omega⟩,i.g,h.rv,h.pl,λc j=>(i.d c j).L (Bd.le.refl _).toln (λ_ _ _ _ _ e=>e) (by show X.ib<=X.ib+1;omega),i.pr,i.sl,i.vt,i.bg,h.bl,h.mv,h.nk,⟨h.a.gU,h.a.lt,h.a.a,h.a.b⟩,h.f,h.oL,h.c⟩
structure XL(b:Bd)(X:Cx)(c:jz)(nodes:List Int)(kd pl:Int)(t:Ct):Prop where
 k5:c.kind≠5
 a1:c.kind≠4->c.ij<X.n*X.ce
 nl:nodes.length<=14
 nd:nodes.Nodup
 id:∀u∈nodes,nL X.n X.m u
 k3:kd=2\/kd=3\/kd=4
 p1:0<=pl/\pl<=48
 ct:IK b t
 c2:kd=2->sy t.kd t.val.length=true/\sy c.jb.kd c.jb.val.length=true/\(c.kind=1\/c.kind=3)
 c0:kd≠2->t.val=[]
 e1:kd=4->c.e.wh≠0
def J0(h:Xk b X):IK b no:=⟨gF,gF,⟨gF,by have:=h.g;show 0<=b.N;omega⟩,gF,by simp[no,mR]⟩
def Xk.tR(h:Xk b X)(F:c0∈X.a)(H:c'.gU=c0.gU)(L:c'.a=c0.a)(j:rQ b X.n X.m X.ce c'){nodes:List Int}{kd pl:Int}{t:Ct}(i:XL b X c' nodes kd pl t):Xk (b.up 1) (X.tR c' nodes kd pl t):=by
 have y:=(b.A (k:=1) gF).toln;refine h.T.put F H L ?_ λ_ d M _ P e=>?_
 .refine⟨⟨j.kd,j.ad,j.un,j.ie.L y,j.o1,j.jb.L y,j.pl,j.e,j.ln,j.st⟩,λQ _ _=>i.a1 Q,λT=>absurd T i.k5,λe=>⟨(i.c2 e).2.1,(i.c2 e).2.2⟩,⟨λ_=>⟨⟨⟨eG _,by have:=j.ln;show(c'.a:Int)<10;omega⟩,⟨by have:=h.pJ.1;show 0<=X.ib+1;omega,by have:=h.pJ.2;show X.ib+1<=b.K+1;omega⟩,h.e.1,by have:=h.e.2;show X.b<=b.E+1;omega⟩,.inr i.k3,i.p1,i.ct.L y,λe=>(i.c2 e).1,i.c0⟩,i.nl,i.nd,i.id,λz A=>by simp[Qn.new]at A,λz A=>by simp[Qn.new]at A,by simp[Qn.new],?_,?_⟩,λ_=>iK,i.e1⟩
  .obtain e|e|e:=i.k3<;>(show 0<=kd/\kd<=7;omega)
  have:=i.ct.vl;show t.val.length<=255;omega
 have:=(h.d d M).nr P;change d.q.A.nr=X.ib+1 at e;omega
end
section
variable{b b':Bd}
def Xk.NR(h:Xk b X):((X.n:Int)*X.ce)<=48:=by have:=Fm h.n1.2 h.c1.2;omega
def Xk.qq(h:Xk b X)(j:c0∈X.a)(y:c'.gU=c0.gU)(A:c'.a=c0.a)(i:rQ b X.n X.m X.ce c')(M:c'.kind=2)(F:c'.ij<X.n*X.ce):Xk (b.up 1) (X.qq c'):=by let⟨H,P,Q,L⟩:=h.sD (h.uD i.ad.1);have:=h.NR;have:=i.ad.1;exact h.tR j y A i ⟨C,λ_=>F,C,H,L,.inr (.inl rfl),C,J0 h,λe=>absurd e gF,λ_=>rfl,λe=>absurd e gF⟩
def Xk.kL(h:Xk b X)(y:c0∈X.a)(A:c'.gU=c0.gU)(F:c'.a=c0.a)(i:rQ b X.n X.m X.ce c')(H:c'.kind=1\/c'.kind=3)(L:c'.ij<X.n*X.ce)(M:c'.c<(X.chain c'.ij).length)(j:sy c'.jb.kd c'.jb.val.length=true):Xk (b.up 1) (X.kL c'):=by let⟨P,Q,T,W⟩:=h.sD (h.uD i.ad.1);have:=h.NR;have:=i.ad.1;refine h.tR y A F i ⟨C,λ_=>L,gG,gG,λu Y=>?_,.inl rfl,C,i.jb,λ_=>⟨j,j,H⟩,λe=>absurd rfl e,λe=>absurd e gF⟩;simp_all
def rQ.ends(h:rQ b n m ce c)(i:Tn r):rQ b n m ce {c with e:=r}:=⟨h.kd,h.ad,h.un,h.ie,h.o1,h.jb,h.pl,i,h.ln,h.st⟩
def Xk.pW(h:Xk b X)(y:c0∈X.a)(A:c'.gU=c0.gU)(F:c'.a=c0.a)(H:rQ b X.n X.m X.ce c')(L:c'.kind≠5)(M:c'.kind≠4->c'.ij<X.n*X.ce){i:Int}(P:0<=i/\i<=48)(Q:Tn r)(j:r.wh≠0):Xk (b.up 1) (X.pW c' i r):=by obtain⟨T,Y,W⟩:=h.all;exact h.tR (c':={c' with e:=r}) y A F (H.ends Q) ⟨L,M,C,T,W,.inr (.inr rfl),P,J0 h,λe=>absurd e gF,λ_=>rfl,λ_=>j⟩
def Xk.fin(h:Xk b X)(L:c0∈X.a)(M:c.gU=c0.gU)(Q:Tn r)(H:r.wh≠0):Xk b (X.fin c r):=by
 have y:(X.fin c r).a.Sublist X.a:=cE;refine⟨h.n1,h.m1,h.v1,h.v2,h.c1,h.id,h.lay,h.e,h.t,h.me,h.ba,h.mb,h.pJ,by show((X.c.set c.gU r).length:Int)<=_;rw[bK];exact h.g,λx A=>?_,aF y.length_le h.pl,λd j=>h.d d (y.subset j),h.pr,h.sl,h.vt,h.bg,h.bl,h.mv,λd j e T=>h.nk d (y.subset j) e (y.subset T),⟨h.a.gU.sublist y,λd j=>by show d.gU<(X.c.set c.gU r).length;rw[bK];exact h.a.lt d (y.subset j),h.a.a.sublist y,λd j=>h.a.b d (y.subset j)⟩,λk x A=>?_,λk x A P=>?_,h.c⟩
 rotate_left
 .have i:(X.c.set c.gU r)[k]?=some x:=A;by_cases F:c.gU=k
  .subst F;rw[aQ (by rw[M];exact h.a.lt c0 L)]at i;simp only[aJ]at i;subst i;refine⟨λe=>absurd e H,λ⟨d,j,e⟩=>?_⟩;have:=(aU.1 j).2;simp[e]at this
  rw[aH F]at i;rw[h.f k x i];exact⟨λ⟨d,j,e⟩=>⟨d,aU.2 ⟨j,ig⟩,e⟩,λ⟨d,j,e⟩=>⟨d,y.subset j,e⟩⟩
 .have i:=h.oL k x A P;show(X.c.set c.gU r)[k]?=some x;by_cases F:c.gU=k
  .exact absurd ((h.f k x i).2 ⟨c0,L,jJ M F⟩) P
  rw[aH F];exact i
 obtain W|rfl:=fN A
 .exact h.rv x W
 exact Q
def qL(wh)(h:0<=wh/\wh<=10):Tn ⟨wh,0,[]⟩:=⟨h,⟨aA 0,by show(0:Int)<=48;omega⟩,ju,by simp[mR]⟩
def TZ(a)(h:0<=a/\a<=48):Tn ⟨1,a,[]⟩:=⟨⟨by show(0:Int)<=1;omega,by show(1:Int)<=10;omega⟩,h,ju,by simp[mR]⟩
def Kk{t:Ct}(h:IK b t):Tn (Cx.py t):=⟨⟨h.kd.1,by have:=h.kd.2;show t.kd<=10;omega⟩,⟨aA 0,by show(0:Int)<=48;omega⟩,h.vl,h.a⟩
def zc{k:Int}(h:sy k n=true):k≠0:=by intro e;subst e;contradiction
theorem oq{m:List Int}(A:l.Nodup)(h:∀x∈l,x∈m):l.length<=m.length:=by
 induction l generalizing m with
 |nil=>simp
 |cons x l F=>have i:=h x (aN ..);obtain⟨H,L⟩:=bY.1 A;have:=F (m:=m.erase x) L λy j=>(List.mem_erase_of_ne λe=>H (jJ e j)).2 (h y (aX _ j));rw[List.length_erase_of_mem i]at this;have:=cJ i;simp;omega
def xb{m:List Int}(i:l.Nodup)(h:∀x∈l,x∈m)(F:m.length<=l.length){y:Int}(j:y∈m):y∈l:=by
 by_cases A:y∈l
 .omega
 have:=oq (bY.2 ⟨A,i⟩) λx hx=>by
  obtain rfl|hx:=bh.1 hx
  .exact j
  simp_all
 simp at this;omega
theorem F0{q:Qn An}(h:QU b n m q)(H:q.nodes≠[])(A:q.nodes.length<=q.B.length)(i:q.count (λa=>a.wh==2)=q.nodes.length):∃z∈q.B,(((q.B.find? λz=>z.1==q.nodes.headD 0).map λz=>z.2.ct).getD no)=z.2.ct/\z.2.wh=2:=by
 have F:∀z∈q.B,z.2.wh=2:=by
  have Q:(q.B.filter λz=>z.2.wh==2).length=q.B.length:=by
   have T:=oq h.an (λx L=>by
    obtain⟨z,j,rfl⟩:=aD.1 L
    exact h.ai z j)
   rw[ay]at T;unfold Qn.count at i;dsimp only at i;omega
  intro z j;have:=eh.1 Q z j;simpa using this
 let⟨y,ys,W⟩:=bQ H;have M:=xb h.an (λx L=>by
  obtain⟨z,j,rfl⟩:=aD.1 L
  exact h.ai z j) (by rw[ay];exact A) (show y∈q.nodes by rw[W];exact aN ..)
 let⟨z,j,Y⟩:=aD.1 M
 cases e:q.B.find? _ with
 |none=>have:=bU.1 e z j;simp_all
 |some P=>exact⟨P,bu e,rfl,F P (bu e)⟩
def Xk.dO(h:Xk b X)(j:c0∈X.a)(y:c'.gU=c0.gU)(A:c'.a=c0.a)(i:rQ b X.n X.m X.ce c')(H:c'.kind≠4->c'.kind≠5->c'.ij<X.n*X.ce):Xk (b.up 1) (X.dO c'):=by
 unfold Cx.dO;split
 .rename_i L;have F:rQ b X.n X.m X.ce {c' with jb:=c'.ie,c:=0}:=⟨i.kd,i.ad,i.un,i.ie,i.o1,i.ie,ju,i.e,i.ln,i.st⟩;exact h.kL j y A F L (H C C) (h.sD (h.uD i.ad.1)).2.1 (i.o1 L)
 split
 .exact h.qq j y A i (by assumption) (H C C)
 split
 .have:=h.NR;have:=i.ad;exact h.pW j y A i C (λe=>absurd (by assumption) e) C (qL 1 gF) gF
 exact h.L (b.A gF)
def Xk.kW(h:Xk b X)(j:c0∈X.a)(y:c'.gU=c0.gU)(F:c'.a=c0.a)(i:rQ b X.n X.m X.ce c')(H:c'.kind=1\/c'.kind=3)(M:c'.ij<X.n*X.ce)(A:sy c'.jb.kd c'.jb.val.length=true):Xk (b.up 1) (X.kW c'):=by
 let⟨P,Q,T,W⟩:=h.sD (h.uD i.ad.1);have:=h.NR;have:=i.ad.1;unfold Cx.kW;split
 .exact h.kL j y F ⟨i.kd,i.ad,i.un,i.ie,i.o1,i.jb,by show c'.c+1<=3;omega,i.e,i.ln,i.st⟩ H M (by assumption) A
 split
 .exact(h.fin j y (TZ c'.ij C) (show(1:Int)≠0 by decide)).L (b.A gF)
 exact(h.fin j y (Kk i.jb) (zc A)).L (b.A gF)
def Xk.drop(h:Xk b X)(j:c0∈X.a)(y:c'.gU=c0.gU)(A:c'.a=c0.a)(i:rQ b X.n X.m X.ce c')(F:c'.kind=1):Xk b (X.put {c' with q:=Qn.zero}):=
 h.put j y A ⟨⟨i.kd,i.ad,i.un,i.ie,i.o1,i.jb,i.pl,i.e,i.ln,i.st⟩,λ_ _ e=>by obtain e|e:=e<;>(first|exact absurd rfl e|exact absurd F e),λ_=>rfl,λe=>absurd (show(0:Int)=2 from e) gF,QK.zero,λe=>absurd rfl e,λe=>absurd (show(0:Int)=4 from e) gF⟩ λe=>absurd rfl e
def Xk.rT(h:Xk b X)(H:c∈X.a){A:An}(T:DC b A)(P:c.q.nodes≠[]):Xk (b.up 1) (X.rT c A):=by
 have M:=h.d c H;have y:=M.torQ;have i:=b.A (k:=1) gF;have j:Xk b (X.put c):=h.put H rfl rfl M λe d hd h1 h2 h3=>h1 (by rw[h.nk d hd c H h2 e h3]);have W:c.kind≠5:=λe=>P (M.u0 e);have F:c.kind≠4->c.ij<X.n*X.ce:=λe=>M.a1 e W (.inl P);unfold Cx.rT;split
 .unfold Cx.oe;split
  .exact h.pW H rfl rfl y W F T.NC (qL 4 gF) gF
  split
  .exact j.L i
  split
  .rename_i a2 Y;let⟨z,hz,e,Q⟩:=F0 M.q P C Y;rw[e];have Z:=M.q.ak z hz;exact(h.fin H rfl (Kk (b:=b) Z.ct) (zc (Z.tk Q))).L i
  exact(h.fin H rfl (qL 3 gF) gF).L i
 split
 .rename_i a0;obtain⟨g1,g2⟩:=M.c2 a0;unfold Cx.ou;split
  .exact h.kW H rfl rfl y g2 (F C) g1
  split
  .rename_i Q;unfold Cx.kY;split
   .rename_i hq;exact(h.drop H rfl rfl y hq.1).L i
   exact h.kW (c':={c with jb:=A.ct}) H rfl rfl ⟨y.kd,y.ad,y.un,y.ie,y.o1,T.ct,y.pl,y.e,y.ln,y.st⟩ g2 (F C) (T.tk Q)
  split
  .unfold Cx.kV;have:=h.NR;have:=y.ad.1;have:=F C;split
   .split
    .exact h.pW H rfl rfl y W F T.NC (TZ c.ij C) (show(1:Int)≠0 by decide)
    exact h.pW H rfl rfl y W F T.NC (qL 9 gF) gF
   split
   .rename_i hq;exact(h.drop H rfl rfl y hq).L i
   exact h.pW H rfl rfl y W F T.NC (qL 4 gF) gF
  exact j.L i
 split
 .split
  .rename_i a1 _;exact(h.fin H rfl y.e (M.e1 a1)).L i
  exact j.L i
 exact j.L i
def Xk.Wr(h:Xk b X)(y:c∈X.a)(F:c.q.D nr fr=true){A:An}(H:DC b A):Xk b (X.put {c with q:=c.q.add fr A}):=by have j:=h.d c y;have i:=j.torQ;exact h.put y rfl rfl ⟨⟨i.kd,i.ad,i.un,i.ie,i.o1,i.jb,i.pl,i.e,i.ln,i.st⟩,j.a1,j.u0,j.c2,j.q.add F H,j.nr,j.e1⟩ λe d L M P Q=>M (by rw[h.nk d L c y P e Q])
def DY(h:c∈X.a)(i:c'.gU=c.gU):c'∈(X.put c').a:=aD.2 ⟨c,h,by rw[aE i.symm]⟩
end
end Go.Proofs.YtbghhbpacijmmaaGreat
