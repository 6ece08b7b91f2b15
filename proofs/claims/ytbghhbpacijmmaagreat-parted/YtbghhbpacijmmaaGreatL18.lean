import Derived.Test.YtbghhbpacijmmaaGreatL17
open Go.Proofs.Tryz
namespace Go.Proofs.YtbghhbpacijmmaaGreat
set_option maxRecDepth 99999
set_option maxHeartbeats 0
set_option linter.defProp false
open Go.RowKit Go.Maps
attribute [local go_sem ↓] Go.wp_at_zero Go.wp_at_succ
section
variable{S:Cf}{w wr:World}{g q:Nat}{cP:Nat->Nat}{B:List (Nat×Obj)}{W:Wd}
def Pd.Vf(h:Pd S w wr g q cP B W){k:Nat}{c:Kl}(Z:W.gF[k]?=some c):∃(cb cc l:Nat) (x0 x1 x2 x3 x6 x7 x9:Int) (x4:ByteArray) (F:Option Addr) (tn L:Nat) (M:Option Addr) (rn P:Nat),(k<l/\g<wr.heap.size/\cb<wr.heap.size)/\wr.cell? (U g 7)=some (gK (G cb) l cc)/\wr.cell? (U cb (k*11))=some (I x0)/\wr.cell? (U cb (k*11+1))=some (I x1)/\wr.cell? (U cb (k*11+2))=some (I x2)/\wr.cell? (U cb (k*11+3))=some (I x3)/\wr.cell? (U cb (k*11+4))=some (.string x4)/\wr.cell? (U cb (k*11+5))=some (gK F tn L)/\wr.cell? (U cb (k*11+6))=some (I x6)/\wr.cell? (U cb (k*11+7))=some (I x7)/\wr.cell? (U cb (k*11+8))=some (I c.r.wh)/\wr.cell? (U cb (k*11+9))=some (I x9)/\wr.cell? (U cb (k*11+10))=some (gK M rn P):=by
 obtain⟨V,y⟩:=h.x;have hk:=(aj.1 Z).1;obtain⟨ca,cc,A⟩:=y.ca.row.D;have hr:=y.ca.row;rw[A]at hr;obtain⟨cb,rfl,_,Q,j,_⟩:=hr.cells C;obtain⟨tv,rv,f0,f1,f2,f3,f4,f5,f6,f7,f8,f9,fa,T,Y⟩:=y.ca.c k c Z;obtain⟨F,L,rfl⟩:=T.D;obtain⟨M,P,er⟩:=Y.sl.len;subst er;exact⟨cb,cc,_,_,_,_,_,_,_,_,_,F,_,L,M,_,P,⟨hk,y.lt,Q⟩,by rw[<-A];exact y.cellAt 7 rfl,(j _ C).H f0,(j _ C).H f1,(j _ C).H f2,(j _ C).H f3,(j _ C).H f4,(j _ C).H f5,(j _ C).H f6,(j _ C).H f7,(j _ C).H f8,(j _ C).H f9,(j _ C).H fa⟩
end
theorem Mn(c vv s f sc:Int)(oa:Option Addr)(oc:Nat)(bs:List Bool)(w:World)(h1:vZ c)(h2:vZ vv)(h3:vZ s)(h4:vZ f)(h5:vZ sc)(ho:Sl w (gK oa bs.length oc) (bs.map Value.bool)):iU 12 #[I c,I vv,I s,I f,I sc,gK oa bs.length oc] w λe w'=>e=gU (.bool true)/\Bl w w':=by
 have r1:=mO c 3 bT;have r3:=mO vv 3 bT;have r4:=mO s 5 bT;obtain⟨n,hn⟩:∃n:Nat,1+pk c 3=n:=⟨(1+pk c 3).toNat,C⟩;obtain⟨v,hv⟩:∃n:Nat,1+2*pk vv 3=n:=⟨(1+2*pk vv 3).toNat,C⟩;obtain⟨ce,aY⟩:∃n:Nat,1+pk s 5=n:=⟨(1+pk s 5).toNat,C⟩;have hf:oE n 2 v ce=true:=by simp[oE];omega
 obtain⟨S,hS⟩:∃S:Cf,S=⟨n,2,v,ce,hf⟩:=⟨_,rfl⟩;have hm:1+pk 1 3=((2:Nat):Int):=bT;have ac:=gN λw=>DY c 1 vv s w h1 (by unfold vZ;omega) h2 h3;rw[hn,hm,hv,aY,show n=S.n by rw[hS],show(2:Nat)=S.m by rw[hS],show v=S.v by rw[hS],show ce=S.ce by rw[hS]]at ac;have sm:S.m=2:=mT hS;have hb:=S.A;obtain⟨b0,b1⟩:=U9 S sm (by rw[hS];show v=1\/v=3\/v=5;omega) (by rw[hS];show ce<=5;omega);have b2:Hid (∀(w1:World) (B:List (Nat×Obj)),Bl w w1->(∀z∈B,w1.heap[z.1]?=some z.2)->_):=λw1 B h hB=>Pd.start S h hB;obtain⟨a2,a1,b3⟩:=iI (λWm=>nT f 32 Wm h4.1 h4.2 C C) (λWm=>nT sc 32 Wm h5.1 h5.2 C C) b0;obtain⟨b4,Ho,bV⟩:=iI b1 ho sm;clear h1 h2 h3 h4 h5 r1 r3 r4 hn hv aY hm hf hS b0 b1 ho sm hb;go_enter func12,ntmps12;go_wp2_with fail;refine gS (ac _) λw1 h=>?_;go_wp2_with fail;refine(b2 _ [] h λz hz=>mR hz).L ?_;rintro en w2⟨g,rfl,c6,b5⟩;have HL:=gN (b5.sG b3);clear b5 b2 ac h;go_wp2_with fail;refine HL.L ?_;rintro en w3⟨rfl,tag3,b6⟩;have b7:=gN b6.ks;clear b6 HL b3;go_wp2_with fail;refine b7.L ?_;rintro en w4⟨rfl,c8,b8⟩;have ad:=gN b8;clear b8 b7;have a8:=ad.x;go_wp2_with fail;refine gS (a2 _) λw5 Q=>?_;have Q:=Q.symm;subst Q;go_wp2_with fail;refine gS (a1 _) λw6 Q=>?_;have Q:=Q.symm;subst Q;have r1:=mO f 32 bT;have r2:=mO sc 32 bT;generalize pk f 32=fm at r1|-;generalize pk sc 32=sm at r2|-;have HR:=nI r1 r2;have HM:Hid (∃aa,Pd S w ((w4.setCell (U g 10) (gK (G w4.heap.size) 2 2)).alloc (ig #[I fm,I sm] 3)) g 11 aa [] {(Wd.start S.n S.m S.v S.ce).Oo.ks with iP:=[fm,sm]}):=by
  have hs:(w4.alloc (ig #[I fm,I sm] 3)).setCell (U g 10) (gK (G w4.heap.size) 2 2)=(w4.setCell (U g 10) (gK (G w4.heap.size) 2 2)).alloc (ig #[I fm,I sm] 3):=by obtain⟨V4,j⟩:=a8;have:=j.lt;exact World.setCell_alloc_past _ _ _ _ this
  rw[<-hs];exact ad.iP (jZ.alloc _) jr (ao w4 _) ⟨C,C⟩ (TI ⟨Nat.le_refl 2,λx hx=>by simp at hx;omega⟩)
 obtain⟨V4,j⟩:=a8;have ag:=j.cellAt 10 rfl;have ai:=j.N 10;have lg:=j.lt;clear j a2 a1 r1 r2;go_upto_region 6 with fail;generalize (w4.setCell (U g 10) (gK (G w4.heap.size) 2 2)).alloc (ig #[I fm,I sm] 3)=W5 at HM|-;clear ag ai lg ad;obtain⟨aa,h5⟩:=HM.o;have ak:=gN (b4.qa (ms:=[fm,sm]) ⟨Nat.le_refl 2,λx hx=>by simp at hx;have:=HR.o;omega⟩);have H5:=gN h5;have b9:Hid (∀F,Bl w F->∀(k:Nat) (b:Bool),bs[k]?=some b->∃ob oo,oa=some (U ob oo)/\ob<F.heap.size/\F.cell? (U ob (oo+k))=some (.bool b)):=λF hb k b hk=>by
  have a3:=(aj.1 hk).1;obtain⟨a,c,e1,e2⟩|⟨ob,oo,cn,e1,lt,e2⟩:=Ho.o
  .rw[List.map_eq_nil_iff.1 e2]at hk;simp at hk
  injection e1 with e3
  refine⟨ob,oo,e3,af lt hb.lt,?_⟩;rw[hb.cell lt,e2 k (by rw[ay];exact a3),dC];rw[(aj.1 hk).2]
 clear HM Ho b4 h5;obtain⟨sw,ba⟩:=gG (bs.getD 0 false:Bool);have al:=gN ba;clear ba;go_cut[15]from 15 to 181 λy F=>y=.bool sw/\F=W5
 case first=>
  by_cases hl:0<bs.length
  .have am:(0:Int)<(bs.length:Int):=C;have a4:bs[0]?=some sw:=by rw[<-al.o,aS,ah hl];rfl
   obtain⟨ob,oo,rfl,lo,co⟩:=b9 W5 H5.bl 0 sw a4;rw[fj]at co;clear a4;go_wp2_with fail;go_meet;exact⟨rfl,rfl⟩
  have am:¬(0:Int)<(bs.length:Int):=C;have e:false=sw:=by rw[<-al.o,aW.1 (Nat.eq_zero_of_not_pos hl)];rfl
  have He:=gN e;clear e;go_wp2_with fail;go_meet;exact⟨mT He.o,rfl⟩
 obtain⟨rfl,rfl⟩:=hcut;generalize ({(Wd.start S.n S.m S.v S.ce).Oo.ks with iP:=[fm,sm]}:Wd)=M0 at ak H5;have T:=gN (H5.call C 5 0 0 C (by unfold vZ;omega) (by unfold vZ;omega));clear HR;go_wp2_with fail;refine T.L ?_;rintro en w7⟨rfl,c9,h7⟩;have H7:Hid (∃q cP W,q<=20/\Pd S w w7 g q cP [] W/\B1 S W):=⟨_,_,_,C,h7,ak.change⟩;clear h7 T H5 ak;go_upto_if 61 with fail;go_cut[15,16]from 15 to 181 λx y F=>y=.bool true/\Hid (∃q cP W,q<=21/\Pd S w F g q cP [] W/\B1 S W)
 case first=>
  obtain⟨q,cP,M1,hq,hp,h⟩:=H7.o;obtain⟨V,a5,Hq⟩:=iI (hp.lf C h.lf.1) h.lf.2 hq;have bW:Hid (∃q cP W,q<=21/\Pd S w w7 g q cP [] W/\B1 S W):=⟨q,cP,M1,C,hp,h⟩;clear hp h hq H7
  cases sw with
  |false=>go_wp2_with fail;go_meet;exact⟨rfl,bW⟩
  |true=>go_wp2_with fail;refine V.L ?_;rintro en w8⟨rfl,ca,h8⟩;have H8:Hid (∃q cP W,q<=21/\Pd S w w8 g q cP [] W/\B1 S W):=⟨_,_,_,Nat.succ_le_succ Hq,h8,a5⟩;clear h8 V a5;go_wp2_with fail;go_meet;exact⟨rfl,H8⟩
 obtain⟨rfl,HI⟩:=hcut;clear H7 al;obtain⟨q,cP,M1,hq,hp,h⟩:=HI.o;have T:=gN (hp.call C 5 1 1 C (by unfold vZ;omega) (by unfold vZ;omega));obtain⟨HP,Hq⟩:=gO h.change hq;clear hp h HI hq;go_wp2_with fail;refine T.L ?_;rintro en w9⟨rfl,cd,h9⟩;have H9:Hid (∃q cP W,q<=22/\Pd S w w9 g q cP [] W/\Pt S W):=⟨_,_,_,Nat.succ_le_succ Hq,h9,HP⟩;clear h9 T HP Hq;go_wp2_with fail;go_loopw[14,18](λok iv wr=>∃k:Nat,ok=.bool true/\iv=I k/\k<=6/\Hid (∃q cP W,q<=22+k/\Pd S w wr g q cP [] W/\Pt S W)) λ_ iv _=>6-(Go.RowKit.intOf iv).toNat
 case atStart=>exact⟨0,rfl,rfl,jR,H9⟩
 clear H9;obtain⟨k,rfl,rfl,hk,HI⟩:=hrel;by_cases jt:k<6
 .have a0:(k:Int)<6:=C;obtain⟨q,cP,M,hq,hp,A⟩:=HI.o;obtain⟨V,a5,Hq⟩:=iI (hp.lf C A.lf.1) A.lf.2 hq;clear hp A HI hq;go_wp2_with fail;refine V.L ?_;rintro en bX⟨rfl,c0,bb⟩;have c1:Hid (∃q cP W,q<=22+(k+1)/\Pd S w bX g q cP [] W/\Pt S W):=⟨_,_,_,Nat.succ_le_succ Hq,bb,a5⟩;clear bb V a5;go_wp2_with fail;exact⟨⟨k+1,rfl,iq,C,c1⟩,iD⟩
 have a0:¬(k:Int)<6:=C;have bc:Hid (∃q cP W,q<=28/\Pd S w wr g q cP [] W/\Pt S W):=by obtain⟨q,cP,M,hq,hp,A⟩:=HI.o;exact⟨q,cP,M,C,hp,A⟩
 clear HI;go_upto_region 19 with fail;clear a0 jt hk;go_wp2_with fail;go_loopw[12,14,16,17,19](λ_ ok av bv iv F=>∃k:Nat,iv=I k/\k<=4/\Hid (∃q cP W,q<=28+6*k/\Pd S w F g q cP [] W/\Pt S W)) λ_ _ _ _ iv _=>4-(Go.RowKit.intOf iv).toNat
 case atStart=>exact⟨0,rfl,jR,bc⟩
 clear bc;obtain⟨k,rfl,hk,HI⟩:=hrel;have c2:(0:Int)<=(k:Int):=C;by_cases jt:k<4
 .have a0:(k:Int)<4:=C;obtain⟨p,c3⟩:=gG (k%2:Nat);have hp:p<2:=C;go_upto_region 23 with fail;rw[show(k:Int)%2=(p:Int) by omega];obtain⟨q,cP,M,hq,Z,A⟩:=HI.o;obtain⟨bd,be,Hq,ab⟩:=kN Z A hq Z.bl;clear Z A hq HI;go_cut[102]from 93 to 102 λy F=>∃b:Bool,y=.bool b/\F=wr
  case first=>
   by_cases hl:k<bs.length
   .have am:(k:Int)<(bs.length:Int):=C;obtain⟨b,a4⟩:=nS hl;obtain⟨ob,oo,rfl,lo,co⟩:=b9 wr ab k b a4;clear a4;go_wp2_with fail;go_meet;exact⟨b,rfl,rfl⟩
   have am:¬(k:Int)<(bs.length:Int):=C;go_wp2_with fail;go_meet;exact⟨false,rfl,rfl⟩
  obtain⟨b,rfl,rfl⟩:=hcut;clear c3 ab;go_upto_if 102 with fail;go_cut[20]from 103 to 104 λy F=>∃wh:Nat,wh<2/\y=I wh/\F=wc
  case first=>
   cases b with
   |false=>go_wp2_with fail;go_meet;exact⟨p,hp,rfl,rfl⟩
   |true=>have e1:IntKind.i64.wrap (1-(p:Int))=((1-p:Nat):Int):=zI;obtain⟨p',bg⟩:=gG (1-p);rw[bg]at e1;have:p'<2:=C;clear bg;go_wp2_with fail;go_meet;exact⟨p',by assumption,rfl,rfl⟩
  obtain⟨wh,c4,rfl,Q⟩:=hcut;subst Q;obtain⟨d,hd⟩:=gG (k/2);obtain⟨t,ht⟩:=gG (1+d);have e0:(k:Int)/2=(d:Int):=C;have e4:IntKind.i64.wrap (d:Int)=(d:Int):=zI;have e2:IntKind.i64.wrap (1+(d:Int))=(t:Int):=zI;have bi:q<=100:=gM Hq.o;have a6:=gN bi;have iw:vZ (wh:Int):=by unfold vZ;omega
  have it:vZ (t:Int):=by unfold vZ;omega
  have i0:vZ 0:=by unfold vZ;omega
  obtain⟨a9,T,a2⟩:=iI (And.intro iw (And.intro it i0)) (bd.call C 1 (wh:Nat) 0 (.inl rfl) iw i0) (be.call (.inl rfl) (wh:Nat) 0);clear hd ht bi iw it i0 c4 bd be;go_wp2_with fail;refine T.L ?_;rintro en wa⟨rfl,cf,ha⟩;have bl:=gN (ha.jK (gM a6.o) (wh:Nat) 0 (t:Nat) a9.1 a9.2.2);have a1:=gN (a2.jK (wh:Nat) 0 (t:Nat));clear ha T a2;go_wp2_with fail;refine bl.L ?_;rintro en wb⟨rfl,cg,hb⟩;have V:=gN (hb.lf (gM a6.o) a1.lf.1);have an:=gN a1.lf.2;clear hb bl a1;go_wp2_with fail;refine V.L ?_;rintro en wd⟨rfl,ch,hd⟩;have bm:=gN (hd.lf (gM a6.o) an.lf.1);have bn:=gN an.lf.2;clear hd V an;go_wp2_with fail;refine bm.L ?_;rintro en we⟨rfl,ci,he⟩;have bo:=gN (he.call (gM a6.o) 2 (wh:Nat) (t:Nat) (.inr (.inl rfl)) a9.1 a9.2.1);have ap:=gN (bn.call (.inr rfl) (wh:Nat) (t:Nat));clear he bm bn;go_wp2_with fail;refine bo.L ?_;rintro en wf⟨rfl,ck,hf⟩;have bp:=gN (hf.lf (gM a6.o) ap.lf.1);have bq:=gN ap.lf.2;clear hf bo ap;go_wp2_with fail;refine bp.L ?_;rintro en wg⟨rfl,cl,hg⟩;have HL:Hid (∃q cP W,q<=28+6*(k+1)/\Pd S w wg g q cP [] W/\Pt S W):=⟨_,_,_,gM Hq.o,hg,bq⟩;clear hg bp bq e0 e2 e4;go_wp2_with fail;exact⟨⟨k+1,iq,C,HL⟩,iD⟩
 have a0:¬(k:Int)<4:=C;obtain⟨q,cP,M,hq,Z,A⟩:=HI.o;obtain⟨V9,bw,bx,aq,bA,bB,bC⟩:=A.calm;have ar:=gN Z.Wl;rw[<-bw]at ar;have Hq:Hid (q<=100):=by exact gN C
 obtain⟨Hr,He,HO⟩:=iI bx aq (G2 bA bB bV bC aq);have a8:=Z.x;obtain⟨V4,j⟩:=a8;have ag:=j.cellAt 10 rfl;have ai:=j.N 10;have lg:=j.lt;clear Z A hq HI bw bx aq bA bB bC hk c2 j;have bD:=gN (ar.calm (gM Hq.o) Hr He);go_upto_region 34 with fail;clear ag ai lg ar Hr He;go_wp2_with fail;refine bD.L ?_;rintro en w8⟨rfl,t8,h8⟩;have H8:=gN h8;clear h8 bD;obtain⟨x,y,hx,hy,bE⟩:=HO.o;obtain⟨Hy,a7⟩:=gO hy bE;clear hy bE HO;generalize V9.nA 80=V8 at H8 hx Hy;go_upto_region 35 with fail;obtain⟨cb,cc,l,x0,x1,x2,x3,x6,x7,x9,x4,ta,tn,tc,ra,rn,rc,⟨a3,lg,au⟩,c7,d0,d1,d2,d3,d4,d5,d6,d7,d8,d9,da⟩:=H8.Vf hx;generalize x.r.wh=xw at d8 a7;simp only[Nat.reduceMul,Nat.reduceAdd]at d0 d1 d2 d3 d4 d5 d6 d7 d8 d9 da;have aw:(2:Int)<(l:Int):=C;go_cut[24]from 24 to 181 λy F=>∃gb,y= O gb/\Hid (Bl w8 F/\F.cell? (U gb 8)=some (I xw)/\gb<F.heap.size)
 case first=>go_wp2_with fail;go_meet;exact⟨_,rfl,jZ.alloc _,ax _ _ 8 _ 60 (0,0) (ao _ _),(ae.1 (ao w8 _)).1⟩
 obtain⟨gb,rfl,HG⟩:=hcut;have H9:=gN (H8.bl' HG.1);obtain⟨wz,c5⟩:∃wz,wz=wc:=⟨_,rfl⟩;subst c5;clear H8 a3 lg au c7 d0 d1 d2 d3 d4 d5 d6 d7 d8 d9 da aw hx;go_upto_region 36 with fail;obtain⟨cb,cc,l,x0,x1,x2,x3,x6,x7,x9,x4,ta,tn,tc,ra,rn,rc,⟨a3,lg,au⟩,c7,d0,d1,d2,d3,d4,d5,d6,d7,d8,d9,da⟩:=H9.Vf Hy;generalize y.r.wh=yw at d8 a7;simp only[Nat.reduceMul,Nat.reduceAdd]at d0 d1 d2 d3 d4 d5 d6 d7 d8 d9 da;have aw:(3:Int)<(l:Int):=C;go_cut[25]from 25 to 181 λy F=>∃gc,y= O gc/\Hid (Bl wz F/\F.cell? (U gc 8)=some (I yw)/\gc<F.heap.size)
 case first=>go_wp2_with fail;go_meet;exact⟨_,rfl,jZ.alloc _,ax _ _ 8 _ 60 (0,0) (ao _ _),(ae.1 (ao wz _)).1⟩
 obtain⟨gc,rfl,Y⟩:=hcut;have bR:=gN ((H9.bl' Y.1).one (gM Hq.o));have HF:Hid (∀w2,Bl wc w2->Bl w w2):=λw2 hb=>(H9.bl.H Y.1).H hb;clear H9 a3 lg au c7 d0 d1 d2 d3 d4 d5 d6 d7 d8 d9 da aw Hy;go_wp2_with fail;refine gS bR λcp P=>?_;have HB:=gN P;have e1:=((Y.1.H P).cell HG.2.2).H HG.2.1;have e2:=(P.cell Y.2.2).H Y.2.1;have l1:=af HG.2.2 (Y.1.H P).lt;have l2:=af Y.2.2 P.lt;clear P bR HG Y;obtain⟨z1,z2⟩|⟨z1,z2⟩:=a7.o
 .subst z1;have z3:(yw==6)=false:=mZ z2;clear a7;go_wp2;go_ret;exact⟨rfl,HF _ HB⟩
 subst z2;have z3:(xw==6)=false:=mZ z1;clear a7;go_wp2;go_ret;exact⟨rfl,HF _ HB⟩
end Go.Proofs.YtbghhbpacijmmaaGreat
