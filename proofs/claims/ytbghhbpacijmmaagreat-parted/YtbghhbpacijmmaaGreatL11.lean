import Derived.Test.YtbghhbpacijmmaaGreatL10
open Go.Proofs.Tryz
namespace Go.Proofs.YtbghhbpacijmmaaGreat
set_option maxRecDepth 99999
set_option maxHeartbeats 0
set_option linter.defProp false
open Go.RowKit Go.Maps
attribute [local go_sem ↓] Go.wp_at_zero Go.wp_at_succ
variable {W W' W2:Wd} {cP qb fz:Nat->Nat} {w w' W1 w5:World} {g i n p ce k m v:Nat} {V:WV} {A:Ac} {X X':Cx} {ch a t:Int} {s:St} {r:Rq} {ta ha:Option Addr} {d:Kl} {l:List Int}
theorem RG(h:kM w cP g W V)(hW:Wk W)(hS:Sw W)(c0:KZ W.iP)(l)(dv)(hd:Rd w cP 98 5 dv (l.pk.bytes.map B8))(hl:ui (W.A 0) W.n W.m W.v l):iU 66 #[O g,.agg #[I l.fr,I l.tt,dv]] w λen w'=>en=gU (.bool true)/\∃fz,j4 Ph w cP w' fz/\Wx w' fz g (W.mQ l):=by
 obtain⟨i5,ji,dg,dl,dn⟩:=fx Tryz.Dl;obtain⟨pa,pc,c1⟩:=h.b.row.D;obtain⟨aa,ac,c2⟩:=h.D.row.D;obtain⟨pv,av,lv,cv,hv,mv,ps,aw,ls,cs,tp⟩:=V;simp only at c1 c2;subst c1 c2;obtain⟨dt,c3,_⟩:=hl.len (hS.sm 0);obtain⟨da,dc,c6⟩:=hd.D;rw[ay]at c6;subst c6;have bc:=h.a;have er:=h.an;have ep:=hS.a;have es:=hW.nw;obtain⟨D,hD⟩:=gG l.pk.bytes;obtain⟨fr,an⟩:=gG l.fr;obtain⟨tt,ap⟩:=gG l.tt;obtain⟨NP,c7⟩:=gG W.pl.length;obtain⟨NA,c9⟩:=gG W.ac.length;have ca:Hid (∀(k gu mk:Nat) (P:Pl) (Wm:World) (Z:Nat->Nat) (dw:Value),W.pl[k]?=some P->jP W.n W.m k=tt->Bv Wm Z W.n W.m W.v W.ce k gu W.jl mk P->sJ Wm dw l.pk.bytes->iU 101 #[O gu,I fr,dw] Wm λen w'=>en=iF/\∃fz,j4 (λt=>t=10+3*k\/t=11+3*k) Wm Z w' fz/\Bv w' fz W.n W.m W.v W.ce k gu (W.jl+1) mk (P.recv W.n W.m W.v W.ce fr l.pk)):=by intro k gu mk P Wm Z dw hP b5 hN b6;have hk:=(aj.1 hP).1;rw[<-an];exact hN.recv (hW.pk k P hP) (hS.sm 0) ⟨hW.n1.2,hW.m1.2⟩ C (fr:=l.fr) (tt:=l.tt) (p:=l.pk) hl (jf ap b5) C dw b6
 have dO:Hid (∀(k p:Nat) (A:Ac) (qb:Nat->Nat) (Wm:World) (Z:Nat->Nat) (dw:Value),W.ac[k]?=some A->ja k=tt->Cl Wm Z (100+32*k) p qb A.X->sJ Wm dw l.pk.bytes->(∀b,dw.ownBlock=some b->Z b=9)->iU 102 #[O p,I fr,dw] Wm λen w'=>en=iF/\∃fz,j4 (Mc (100+32*k)) Wm Z w' fz/\Cl w' fz (100+32*k) p qb (A.X.recv fr l.pk)):=by intro k p A qb Wm Z dw hA b5 hC b6 e5;rw[<-an];have hx:=(hW.ac k A hA).x;refine Cl.recv (n:=W.n) (m:=W.m) (v:=W.v) hC C hx (hS.sm k) (hS.k1 k) (fr:=l.fr) (tt:=l.tt) (pk:=l.pk) (hl.L (sD W W 0 k jr jr)) (by rw[ap,<-b5];unfold ja;omega) (by exact_mod_cast rj hW.n1.2 hW.m1.2) hW.v1.2 dw b6 λb hb=>by rw[e5 b hb];unfold Mc;omega
 have bm:Hid (∀(wr:World) (fz:Nat->Nat) (gl:Nat) (bq:Value),HF w cP wr fz gl bq fr tt (gK da D.length dc) D->sJ wr bq l.pk.bytes):=by intro wr fz gl bq hF;subst hD;exact hF.dat hl (hS.sm 0)
 have e6:=gN (hW.oz hl);rw[hD]at dt c3 hd|-;rw[an,ap];obtain⟨Y,b2⟩:=gG (({W with a:=W.a+1,jl:=W.jl+1}:Wd):Wd);have cb:Hid (∀k,∃Wk:Wd,({Y with pl:=W.qp l k}:Wd)=Wk):=λk=>⟨_,rfl⟩;obtain⟨W1,bv⟩:=gG (w.alloc (ig #[I fr,I tt,gK da D.length dc] 138));have b1:=(Bl.refl w).alloc (ig #[I fr,I tt,gK da D.length dc] 138);have b7:=ao w (ig #[I fr,I tt,gK da D.length dc] 138);rw[bv]at b1 b7;have h1:=h.bl (fz:=ir cP w.heap.size 9) b1 λb hb=>gV _ _ _ _ hb;have k1:j4 Ph w cP W1 (ir cP w.heap.size 9):=j4.D b1 9;have d1:Rd W1 (ir cP w.heap.size 9) 98 5 (gK da D.length dc) (D.map B8):=hd.bl b1 (λb hb e=>by rw[gV _ _ _ _ hb];exact e);have t1:ir cP w.heap.size 9 w.heap.size=9:=jc _ _ _ _ jr;have c8:=h1.cellAt 8 rfl;have f8:=h1.N 8;have eu:=h1.lt;have o1:Old W ps 0 W1 (ir cP w.heap.size 9):=λi P _ hP=>h1.b.pl i P hP;have h2:=(h1.PL (W.a+1)).uS (a:=W.jl+1) rE;have k2:j4 (λs=>s=1) W1 (ir cP w.heap.size 9) (W1.setCell (U g 8) (I (W.a+1))) (ir cP w.heap.size 9):=mo h1.tg 8 _;obtain⟨W2,bw⟩:=gG (W1.setCell (U g 8) (I (W.a+1)));rw[bw]at h2 k2;rw[b2]at h2;have ar:=k2.heap b7 t1 C;have o2:=o1.A k2 jr (λi t _ _ e=>C) bc;have d2:=d1.A k2 C;have K2:=k1.H (k2.L (Q:=Ph) λt e=>.inl e);have e7:IntKind.i64.wrap (W.a+1)=W.a+1:=zI;have bx:=gN (c0.c h2 (by rw[<-b2]) fr tt da D.length dc);have bn:Y.j6 fr tt=W.j6 fr tt:=by rw[<-b2];rfl
 rw[bn]at bx;have e8:=h2.lt;have au:w.heap.size<W2.heap.size:=(ae.1 ar.1).1;obtain⟨x0,x1,x2⟩:=sy ar.1 0 1 2 rfl;obtain⟨T,cc,cd,ev⟩:=kN (And.intro ar (And.intro o2 (And.intro d2 (And.intro K2 h2)))) bv bw hW;obtain⟨e9,cf,ew⟩:=iI hS b2 (And.intro c7 c9);have cg:Hid (W.j6 fr tt=false->W.mQ l=(W.oz l).jx):=λe=>by unfold Wd.mQ;rw[an,ap,az (mZ e)]
 have bA:Hid (W.j6 fr tt=true->W.mQ l=Y):=λe=>by unfold Wd.mQ;rw[an,ap,aE e,b2]
 have b3:=nI an ap;clear b1 b7 h1 k1 d1 o1 h2 k2 ar o2 d2 K2 bv bw h hd c3 bn c0 hl cb hD an ap c7 c9 hW hS b2;generalize W.j6 fr tt=pt at*;go_enter func66,ntmps66;go_upto_region 1 with fail;rw[cc.o];go_upto_region 2 with fail;rw[cd.o];clear cc cd c8 f8;go_upto_region 3 with(go_at_call 100;refine gS bx λw3 bd=>?_;have b8:=gN bd;have ci:=af au bd.lt;have z2:=(bd.cell au).H x2;clear bd)
 cases pt with
 |true=>go_wp2;go_ret;refine⟨rfl,ir cP w.heap.size 9,T.2.2.2.1.H (j4.A b8 λ_ _=>rfl),?_⟩;rw[bA.o (by first|rfl|trivial)];exact⟨_,T.2.2.2.2.bl (fz:=ir cP w.heap.size 9) b8 λ_ _=>rfl⟩
 |false=>
 go_upto_region 6 with fail;have HN:Hid (w3.ownsRow w3.heap.size 5 1 OO 0 []):=m7;have ck:=gN ((T.2.2.1.bl b8 λ_ _ e=>e).bs);have cl:Hid (0+(D.map B8).length<=maxLen):=by unfold Hid maxLen;rw[ay];omega
 have bo:Hid ((0+(D.map B8).length)*1<=140737488355328):=by unfold Hid;rw[ay];omega
 go_wp2_with(at_builtin;refine m8 _ rfl _ _ 40 rfl w3.heap.size 5 i5 (.int .u8 0) 1 underlying40 ji dg dl dn rfl _ 0 [] rfl HN _ _ rfl ck (DO D) cl bo bz ?_);intro v' w4 hG;obtain⟨gd,cap,ea⟩:∃gd cap,v'=gK gd D.length cap:=by
  obtain⟨e1,e⟩|⟨g,cap,ex,e,_⟩:=hG.ij.2
  .exact⟨none,0,by rw[e1];congr 1;omega⟩
  exact⟨_,cap,e⟩
 subst ea;have b4:Bl W2 w4:=b8.H (hG.only.u9 λk _ e=>pV e);have cn:∀b,(gK gd D.length cap).ownBlock=some b->ir cP w.heap.size 9 b=9:=λb hb=>jc _ _ _ _ (gM ((hG.ij.lt b hb).1));have co:Hid (HF w cP w4 (ir cP w.heap.size 9) w.heap.size (gK gd D.length cap) fr tt (gK da D.length dc) D):=⟨T.2.2.2.1.H (j4.A b4 λ_ _=>rfl),(b4.heap au).H T.1.1,T.1.2,⟨iE hG.ij λ_ _=>jR,cn⟩,T.2.2.1.bl b4 λ_ _ e=>e⟩;have cp:=gN (T.2.2.2.2.bl (fz:=ir cP w.heap.size 9) b4 λ_ _=>rfl);have cq:Hid (Old W ps 0 w4 (ir cP w.heap.size 9)):=T.2.1.A (P:=λ_=>False) (j4.A b4 λ_ _=>rfl) jr (λ_ _ _ _ _ e=>e) bc;clear hG b4 T b8 HN ck cl bo bx x0 x1 x2 z2 ci au e8 cn;have b9:Hid (Y.n=W.n/\Y.m=W.m/\Y.v=W.v/\Y.ce=W.ce/\Y.pl=W.pl/\Y.ac=W.ac/\Y.jl=W.jl+1):=by rw[<-cf.o];exact⟨rfl,rfl,rfl,rfl,rfl,rfl,rfl⟩
 have cr:Hid (kM w4 (ir cP w.heap.size 9) g {Y with pl:=W.qp l 0} ⟨gK pa W.pl.length pc,gK aa W.ac.length ac,lv,cv,hv,mv,ps,aw,ls,cs,tp⟩):=by have:=cp.o;rw[show W.qp l 0=Y.pl from Mf.H b9.2.2.2.2.1.symm];exact this
 have eb:Hid (({Y with pl:=W.qp l W.pl.length,ac:=W.sA l W.ac.length}:Wd)=W.oz l):=by unfold Hid Wd.oz;rw[<-cf.o]
 clear cp;go_wp2;go_loopw[7](λi wr=>∃(k:Nat) (fz:Nat->Nat),k<=W.pl.length/\i=I k/\Hid (HF w cP wr fz w.heap.size (gK gd D.length cap) fr tt (gK da D.length dc) D)/\Hid (kM wr fz g {Y with pl:=W.qp l k} ⟨gK pa W.pl.length pc,gK aa W.ac.length ac,lv,cv,hv,mv,ps,aw,ls,cs,tp⟩)/\Hid (Old W ps k wr fz)) λi _=>W.pl.length-(Go.RowKit.intOf i).toNat
 case atStart=>exact⟨0,_,jR,rfl,co,cr,cq⟩
 clear co cr cq;obtain⟨k,fz,hk,rfl,F,HX,be⟩:=hrel;have c4:=HX.cellAt 4 rfl;have bB:=HX.lt;by_cases jt:k<W.pl.length
 .have ct:(k:Int)<(W.pl.length:Int):=C;obtain⟨Q,hQ⟩:=nS jt;have a0:=HX.b.row;simp only[GB]at a0;obtain⟨pb,rfl,_,ez,aY,_⟩:=a0.cells C;obtain⟨gu,mk,ba,cx⟩:=be k Q jr hQ;obtain⟨bC,ec⟩:=gO ba cx;obtain⟨e0,e1,e2,e3,e4⟩:=ba;have d0:=(aY (k*5) C).H e0;have d1:=(aY (k*5+1) C).H e1;have d3:=(aY (k*5+3) C).H e3;have bD:w.heap.size<wr.heap.size:=(ae.1 F.box).1;obtain⟨x0,x1⟩:=vg F.box 0 1 rfl;have HQ:=gN hQ;obtain⟨ak,a8⟩:=gG (jP W.n W.m k);obtain⟨aq,a9⟩:=gG Q.up;rw[a8]at d0;rw[a9]at d3;obtain⟨M,am⟩:=gO a8 a9;have ad:Hid (¬(ak=tt/\aq=true)->∀nq,∃(k':Nat) (y:Nat->Nat),k'=k+1/\y=fz/\HF w cP (wr.drewN nq) y w.heap.size (gK gd D.length cap) fr tt (gK da D.length dc) D/\kM (wr.drewN nq) y g {Y with pl:=W.qp l k'} ⟨gK (G pb) W.pl.length pc,gK aa W.ac.length ac,lv,cv,hv,mv,ps,aw,ls,cs,tp⟩/\Old W ps k' (wr.drewN nq) y):=by
   intro bE nq;have hb:=(Bl.refl wr).drewN nq;have bR:¬(jP W.n W.m k=l.tt/\Q.up=true):=by rw[M.o,am.o,b3.2];exact bE
   refine⟨k+1,fz,rfl,rfl,F.step (j4.A hb λ_ _=>rfl),?_,be.A (P:=λ_=>False) (j4.A hb λ_ _=>rfl) rE (λ_ _ _ _ _ e=>e) bc⟩;rw[S8 hQ bR];exact HX.bl hb λ_ _=>rfl
  have al:Hid (ak=tt->aq=true->∀Wm,Bl wr Wm->iU 101 #[O gu,I fr,gK gd D.length cap] Wm λen w'=>en=iF/\∃y,j4 (λt=>t=10+3*k\/t=11+3*k) wr fz w' y/\kM w' y g {Y with pl:=W.qp l (k+1)} ⟨gK (G pb) W.pl.length pc,gK aa W.ac.length ac,lv,cv,hv,mv,ps,aw,ls,cs,tp⟩):=by
   intro h1 h2 Wm ai;have kb:j4 (λ_=>False) wr fz Wm fz:=j4.A ai λ_ _=>rfl;refine(ca k gu mk Q Wm fz _ HQ (M.H h1) (ec.A kb bz bz bz) ((bm wr fz _ _ F).bl ai)).L ?_;rintro en w'⟨rfl,y,k2,ee⟩;refine⟨rfl,y,(j4.A ai λ_ _=>rfl).H k2,?_⟩;have bV:=HX.bl (fz:=fz) ai λ_ _=>rfl;obtain⟨a1,a2,a3,a4,a5,a6,a7⟩:=b9.o;have:=bV.X8 (u:=k) (k2.L λt e=>by obtain e|e:=e;exact .inl e;exact .inr (.inl e)) (P0:=Q) (P1:=Q.recv W.n W.m W.v W.ce fr l.pk) (by show(W.qp l k)[k]?=_;rw[Uy];exact HQ) (gu:=gu) (mk:=mk) (by
    have hu:(Q.recv W.n W.m W.v W.ce fr l.pk).up=Q.up/\(Q.recv W.n W.m W.v W.ce fr l.pk).nf=Q.nf:=by
     unfold Pl.recv
     split
     .split<;>exact⟨rfl,rfl⟩
     .exact⟨rfl,rfl⟩
    rw[hu.1,hu.2]
    show Rs ps Y.n Y.m _ _ _ _ _
    rw[a1,a2]
    exact bC) (by
    show Bv w' y Y.n Y.m Y.v Y.ce k gu Y.jl mk _
    rw[a1,a2,a3,a4,a7]
    exact ee)
   rw[RS HQ.o (by rw[M.o,b3.2];exact h1) (am.H h2),b3.1];exact this
  clear aY e0 e1 e2 e3 e4 a0 a8 a9 hQ cx;by_cases S:ak=tt
  .cases aq with
   |true=>
    have bb:=gN (al S rfl);rw[S]at d0;clear S ad al M;go_upto_region 10 with fail;go_quiet(fail);go_upto_region 11 with fail;go_region_with(go_at_call 101;refine(bb _ ?hb).L ?_;(case hb=>repeat(first|exact jZ|refine Bl.drew ?_|refine Bl.drewN ?_ _));rintro en w5⟨rfl,y,k2,hX⟩;obtain⟨bg,T⟩:=gO k2 hX;clear k2 hX);all_goals(go_wp2)
    all_goals(refine⟨⟨k+1,y,C,iq,F.step (bg.L λt e=>.inl C),T,be.A bg rE (λi t _ _ e=>C) bc⟩,iD⟩)
   |false=>have ag:=gN (ad λe=>absurd e.2 bz);rw[S]at d0;clear S ad al M;go_upto_region 10 with fail;go_quiet(fail);go_wp2;obtain⟨k',y,rfl,rfl,f1,f2,f3⟩:=ag nq;exact⟨⟨k+1,y,C,iq,f1,f2,f3⟩,iD⟩
  have ef:decide (ak=tt)=false:=by simpa using S
  have ag:=gN (ad λe=>S e.1);clear ad al M;go_upto_region 10 with fail;go_quiet(fail);go_wp2;obtain⟨k',y,rfl,rfl,f1,f2,f3⟩:=ag nq;exact⟨⟨k+1,y,C,iq,f1,f2,f3⟩,iD⟩
 have cS:¬((k:Int)<(W.pl.length:Int)):=C;have bi:k=W.pl.length:=C;have cV:Hid (kM wr fz g {Y with pl:=W.qp l W.pl.length,ac:=W.sA l 0} ⟨gK pa W.pl.length pc,gK aa W.ac.length ac,lv,cv,hv,mv,ps,aw,ls,cs,tp⟩):=by have:=HX.o;rw[bi]at this;rw[show W.sA l 0=Y.ac from Oa.H b9.2.2.2.2.2.1.symm];exact this
 clear HX be ca;go_wp2;clear c4 bB hk cS bi;go_loopw[8](λi wx=>∃(k:Nat) (y:Nat->Nat),k<=W.ac.length/\i=I k/\Hid (HF w cP wx y w.heap.size (gK gd D.length cap) fr tt (gK da D.length dc) D)/\Hid (kM wx y g {Y with pl:=W.qp l W.pl.length,ac:=W.sA l k} ⟨gK pa W.pl.length pc,gK aa W.ac.length ac,lv,cv,hv,mv,ps,aw,ls,cs,tp⟩)) λi _=>W.ac.length-(Go.RowKit.intOf i).toNat
 case atStart=>exact⟨0,fz,jR,rfl,F,cV⟩
 clear F cV fz;obtain⟨k,fz,hk,rfl,F,HX⟩:=hrel;have c5:=HX.cellAt 5 rfl;have bB:=HX.lt;by_cases jt:k<W.ac.length
 .have ct:(k:Int)<(W.ac.length:Int):=C;obtain⟨Q,hQ⟩:=nS jt;have a0:=HX.D.row;simp only[PE]at a0;obtain⟨ab,rfl,_,f0,b0,_⟩:=a0.cells C;obtain⟨p,qb,ba,d4⟩:=HX.D.ac k Q (by show(W.sA l k)[k]?=_;rw[D3];exact hQ);obtain⟨bC,eg⟩:=gO ba d4;obtain⟨e0,e1,e2⟩:=ba;have d0:=(b0 (k*3) C).H e0;have d1:=(b0 (k*3+1) C).H e1;have d2:=(b0 (k*3+2) C).H e2;have bD:w.heap.size<wr.heap.size:=(ae.1 F.box).1;obtain⟨x0,x1⟩:=vg F.box 0 1 rfl;have HQ:=gN hQ;obtain⟨ak,a8⟩:=gG (ja k);obtain⟨aq,a9⟩:=gG Q.up;rw[a8]at d0;rw[a9]at d2;obtain⟨M,am⟩:=gO a8 a9;have ad:Hid (¬(ak=tt/\aq=true)->∀nq,∃(k':Nat) (y:Nat->Nat),k'=k+1/\y=fz/\HF w cP (wr.drewN nq) y w.heap.size (gK gd D.length cap) fr tt (gK da D.length dc) D/\kM (wr.drewN nq) y g {Y with pl:=W.qp l W.pl.length,ac:=W.sA l k'} ⟨gK pa W.pl.length pc,gK (G ab) W.ac.length ac,lv,cv,hv,mv,ps,aw,ls,cs,tp⟩):=by
   intro bE nq;have hb:=(Bl.refl wr).drewN nq;have bR:¬(ja k=l.tt/\Q.up=true):=by rw[M.o,am.o,b3.2];exact bE
   refine⟨k+1,fz,rfl,rfl,F.step (j4.A hb λ_ _=>rfl),?_⟩;rw[Uw hQ bR];exact HX.bl hb λ_ _=>rfl
  have al:Hid (ak=tt->aq=true->∀Wm,Bl wr Wm->iU 102 #[O p,I fr,gK gd D.length cap] Wm λen w'=>en=iF/\∃y,j4 (λt=>100<=t/\t<356) wr fz w' y/\kM w' y g {Y with pl:=W.qp l W.pl.length,ac:=W.sA l (k+1)} ⟨gK pa W.pl.length pc,gK (G ab) W.ac.length ac,lv,cv,hv,mv,ps,aw,ls,cs,tp⟩):=by
   intro h1 h2 Wm ai;have kb:j4 (λ_=>False) wr fz Wm fz:=j4.A ai λ_ _=>rfl;refine(dO k p Q qb Wm fz _ HQ (M.H h1) (eg.bl ai λ_ _=>rfl) ((bm wr fz _ _ F).bl ai) F.data.cP).L ?_;rintro en w'⟨rfl,y,k2,ei⟩;have k3:=k2.L (Q:=λt=>100<=t/\t<356) λt e=>by unfold Mc at e;omega
   refine⟨rfl,y,(j4.A ai λ_ _=>rfl).H k3,?_⟩;have bV:=HX.bl (fz:=fz) ai λ_ _=>rfl;have:=bV.Tj (u:=k) k2 (λt e=>.inl (by unfold Mc at e;omega)) (A:=Q) (by show(W.sA l k)[k]?=_;rw[D3];exact HQ) bC ei;rw[Q3 HQ.o (by rw[M.o,b3.2];exact h1) (am.H h2),b3.1];exact this
  clear b0 e0 e1 e2 a0 a8 a9 hQ d4;by_cases S:ak=tt
  .cases aq with
   |true=>
    have bb:=gN (al S rfl);rw[S]at d0;clear S ad al M;go_upto_region 15 with fail;go_quiet(fail);go_upto_region 16 with fail;go_region_with(go_at_call 102;refine(bb _ ?hb).L ?_;(case hb=>repeat(first|exact jZ|refine Bl.drew ?_|refine Bl.drewN ?_ _));rintro en w5⟨rfl,y,k2,hX⟩;obtain⟨bg,T⟩:=gO k2 hX;clear k2 hX);all_goals(go_wp2)
    all_goals(refine⟨⟨k+1,y,C,iq,F.step (bg.L λt e=>.inr e),T⟩,iD⟩)
   |false=>have ag:=gN (ad λe=>absurd e.2 bz);rw[S]at d0;clear S ad al M;go_upto_region 15 with fail;go_quiet(fail);go_wp2;obtain⟨k',y,rfl,rfl,f1,f2⟩:=ag nq;exact⟨⟨k+1,y,C,iq,f1,f2⟩,iD⟩
  have ef:decide (ak=tt)=false:=by simpa using S
  have ag:=gN (ad λe=>S e.1);clear ad al M;go_upto_region 15 with fail;go_quiet(fail);go_wp2;obtain⟨k',y,rfl,rfl,f1,f2⟩:=ag nq;exact⟨⟨k+1,y,C,iq,f1,f2⟩,iD⟩
 have cS:¬((k:Int)<(W.ac.length:Int)):=C;have bi:k=W.ac.length:=C;have d5:Hid (kM wr fz g (W.oz l) ⟨gK pa W.pl.length pc,gK aa W.ac.length ac,lv,cv,hv,mv,ps,aw,ls,cs,tp⟩):=by have:=HX.o;rwa[bi,eb.o]at this
 have bD:w.heap.size<wr.heap.size:=(ae.1 F.box).1;have x2:wr.cell? (U w.heap.size 2)=some (gK da D.length dc):=ax wr _ 2 _ 138 (0,0) F.box;have v1:=mm _ D wr F.src.bs.sl;have v2:=mm _ D wr (jD F.data.ij);have bW:=nI F.k F.data;clear F HX;go_wp2;go_loopw[10](λi wx=>∃(j:Nat) (ds:List Value),j<=D.length/\i=I j/\ds.length=D.length/\Hid (j4 Ph w cP wx fz)/\Hid (nh wx fz 9 5 1 (gK gd D.length cap) D.length ds)/\Hid (kM wx fz g (W.oz l) ⟨gK pa W.pl.length pc,gK aa W.ac.length ac,lv,cv,hv,mv,ps,aw,ls,cs,tp⟩)) λi _=>D.length-(Go.RowKit.intOf i).toNat
 case atStart=>exact⟨0,D.map B8,jR,rfl,bz,bW.1,bW.2,d5⟩
 clear bW d5 v1 v2 x2 bD c5 bB;obtain⟨j,ds,hj,rfl,ej,d6,bX,d7⟩:=hrel;by_cases f4:j<D.length
 .have f5:(j:Int)<(D.length:Int):=C;obtain⟨ek,rfl,el,f6,d8,d9⟩:=bX.cells C;have y0:=(d8 j C).H (ah C);have y1:=d9 j;generalize ds[j]=dj at*;clear d8 d9;go_wp2;have bp:j4 (λs=>s=9) wr fz (wr.setCell (U ek j) (.int .u8 88)) fz:=mo el j _;exact⟨⟨j+1,ds.set j (.int .u8 88),C,iq,je ej,d6.H (bp.L λt e=>.inr (.inr (.inl e))),⟨wW bX.ij j _,bX.cP⟩,d7.A bp λt e=>.inr (.inr (.inl e))⟩,iD⟩
 have eq:¬((j:Int)<(D.length:Int)):=C;have db:=gN (uB d7 e6 (by show W.jl+1<=_;omega) (by have:=e9.c;show W.gF.length<=_;omega));go_wp2_with(go_at_call 53;refine db.L ?_;rintro en w9⟨rfl,dd,k9,h9⟩;obtain⟨em,H9⟩:=gO k9 h9;clear k9 h9);go_ret;exact⟨rfl,dd,d6.H (em.L λt e=>by unfold T8 at e;unfold Ph;omega),by rw[cg.o (by first|rfl|trivial)];exact H9⟩
def Pw(t:Nat):Prop:=t=1\/t=2\/t=4\/t=5\/t=8\/t=9\/t=97\/(10<=t/\t<52)\/(100<=t/\t<356)
theorem yK(h:Wk W)(k):∀d,(W.T k).jl<=(W.T (k+d)).jl
 |0=>jr
 |d+1=>by rw[<-cG,qt];exact aF (yK h k d) (zR _ _).1.jl
def KA(W:Wd)(y:List Le)(j)(x)(h:y[j]?=some x):W.lU (y.take (j+1))=(W.lU (y.take j)).mQ x:=by unfold Wd.lU;rw[cW,h,dN];rfl
theorem Ry(h:kM w cP g W V)(hW:Wk W)(hS:Sw W.step)(au:KZ W.iP)(bW:0<W.ac.length):iU 68 #[O g] w λen w'=>en=gU (.tuple #[I W.iH.iN.length,.bool true])/\∃fz,j4 Pw w cP w' fz/\Wx w' fz g W.step:=by
 have av:=h.ht;obtain⟨tp,Z⟩:=gG V.tp;obtain⟨tq,aw⟩:=gG (105-tp);rw[Z]at av;have bi:tq=8\/tq=97:=C;have bX:tp≠tq:=C;obtain⟨la,lc,ai⟩:=h.po.row.D;have a0:=h.po;rw[ai,Z]at a0;have c0:=h.a;have c1:=h.an;obtain⟨NN,bm⟩:=gG (W.pl.length+W.ac.length);obtain⟨o1,o2,o3,o4⟩:=DC hW;obtain⟨s1,s2,s3,s4,s5⟩:=mN hW;obtain⟨g1,g2,g3⟩:=qQ hW;have bn:Hid (∀k,k<NN->Wk (W.T k)/\Sw (W.T k)/\(W.T k).pl.length=W.pl.length/\(W.T k).ac.length=W.ac.length):=λk hk=>by
  obtain⟨a1,a2,a3,a4⟩:=uM hW k;have hm:=yK hW k (NN-k);rw[show k+(NN-k)=NN by omega]at hm;have he:(W.T NN).jl=W.iH.jl:=by rw[Ds,bm]
  have hc:=hS.c;rw[s2.ca]at hc;exact⟨a1,⟨gM hS.a,by rw[a2.ca];exact hc⟩,a2.pl,a2.ac⟩
 obtain⟨L,hL⟩:=gG W.iH.iN.length;obtain⟨S,a5⟩:=gG (({W.iH with iN:=W.iN}:Wd):Wd);rw[a5]at g1 g2 g3;have bo:Hid (∀j x,W.iH.iN[j]?=some x->Wk (S.lU (W.iH.iN.take j))/\Sw (S.lU (W.iH.iN.take j))/\(S.lU (W.iH.iN.take j)).iP=W.iP/\ui ((S.lU (W.iH.iN.take j)).A 0) (S.lU (W.iH.iN.take j)).n (S.lU (W.iH.iN.take j)).m (S.lU (W.iH.iN.take j)).v x):=λj x hx=>by
  have ak:∀l∈W.iH.iN,ui (S.A 0) S.n S.m S.v l:=by rw[g2.n,g2.m,g2.v];exact g3
  obtain⟨r1,r2,r3,r4⟩:=wX (W.iH.iN.take j) g1 λl hl=>ak l (ed _ _|>.subset hl);obtain⟨_,_,q3,_⟩:=wX W.iH.iN g1 ak;have c2:W.step.jl=S.jl+W.iH.iN.length:=by rw[<-q3,<-a5];rfl
  have hc:=hS.c;rw[s2.ca]at hc;refine⟨r1,⟨?_,by rw[r2.ca,g2.ca];exact hc⟩,r2.ms.H g2.ms,r2.le (ak x (aR hx))⟩;have:=hS.a;rw[r3];have:(W.iH.iN.take j).length<=W.iH.iN.length:=by rw[bH];omega
  omega
 have a6:W.step=S.lU W.iH.iN:=by rw[<-a5];rfl
 have c6:=h.cellAt 6 rfl;rw[ai]at c6;have f6:=h.N 6;have lg:=h.lt;have h1:=h.Lm (tM.nil (w:=w) (cP:=cP) tq) bi;have k1:j4 (λs=>s=1) w cP (w.setCell (U g 6) OO) cP:=mo h.tg 6 _;have a7:=a0.A k1 C C;obtain⟨W1,al⟩:=gG (w.setCell (U g 6) OO);rw[al]at h1 k1 a7;obtain⟨aY,H1,Hh⟩:=iI al (And.intro h1 (And.intro (k1.L (Q:=Pw) λt e=>.inl e) a7)) (And.intro a5 a6);obtain⟨HL,bp⟩:=gO hL au;have ag:Hid (W.iH.pl.length=W.pl.length/\W.iH.ac.length=W.ac.length):=⟨o2.pl,o2.ac⟩;rw[hL];clear h hW hS h1 k1 a7 al a0 o1 o2 o3 s1 s2 s3 s4 s5 g1 g2 g3 a5 a6 au ai Z aw;generalize V.ls=bq at*;go_enter func68,ntmps68;go_upto_region 3 with fail;rw[aY.o];clear aY c6 f6;go_wp2;go_loopw[5](λi wr=>∃(k:Nat) (fz:Nat->Nat) (V':WV),k<=NN/\i=I k/\V'.tp=tq/\Hid (kM wr fz g (W.T k) V')/\Hid (j4 Pw w cP wr fz)/\Hid (tM wr fz tp W.iN (gK la W.iN.length lc) bq)) λi _=>NN-(Go.RowKit.intOf i).toNat
 case atStart=>exact⟨0,cP,_,jR,rfl,rfl,H1.1,H1.2.1,H1.2.2⟩
 clear H1;obtain⟨k,fz,V',hk,rfl,b0,HX,HK,HP⟩:=hrel;obtain⟨pa,pc,bs⟩:=HX.b.row.D;obtain⟨aa,ac,bv⟩:=HX.D.row.D;obtain⟨c4,c5⟩:=HX.R 4 5 rfl;rw[bs]at c4;rw[bv]at c5;have c3:=HX.lt;by_cases jt:k<NN
 .obtain⟨a1,a2,a3,a4⟩:=bn k jt;rw[a3]at c4;rw[a4]at c5;have bR:(k:Int)<(W.pl.length:Int)+(W.ac.length:Int):=C;have HO:Hid (∀Wm,Bl wr Wm->iU 65 #[O g,I k] Wm λen w'=>en=gU (.bool true)/\∃F,j4 (Po tq) wr fz w' F/\∃V2,V2.tp=tq/\kM w' F g (W.T (k+1)) V2):=by
   intro Wm hb;rw[qt];have bw:pk (k:Int) ((W.T k).pl.length+(W.T k).ac.length)=(k:Int):=by unfold pk;rw[az C];exact Int.emod_eq_of_lt C C
   refine(UE (HX.bl (fz:=fz) hb λ_ _=>rfl) a1 a2 (k:Int) C C k bw C).L ?_;rintro en w'⟨e,F,k2,V2,e2,hX⟩;rw[b0]at k2 e2;exact⟨e,F,(j4.A (fz:=fz) hb λ_ _=>rfl).H k2,V2,e2,hX⟩
  clear a1 a2 a3 a4;go_upto_region 4 with fail;go_quiet(fail);go_wp2_with(go_at_call 65;refine(HO _ (jZ.drewN _)).L ?_;rintro en w2⟨rfl,F,k2,V2,e2,Y⟩;obtain⟨b1,bx,bA⟩:=iI k2 Y e2;clear k2 Y e2);exact⟨⟨k+1,F,V2,C,iq,bA,bx,HK.H (b1.L λt e=>by unfold Po at e;unfold Pw;omega),HP.A b1 (by unfold Po;omega) (by unfold Po;omega)⟩,iD⟩
 have c7:¬((k:Int)<(W.pl.length:Int)+(W.ac.length:Int)):=C;have Y:=HX.o;rw[show k=W.pl.length+W.ac.length by omega]at Y;have y:kM wr fz g W.iH V':=Y;rw[show(W.T k).pl.length=W.pl.length by rw[show k=W.pl.length+W.ac.length by omega];exact ag.1]at c4;rw[show(W.T k).ac.length=W.ac.length by rw[show k=W.pl.length+W.ac.length by omega];exact ag.2]at c5;obtain⟨lb,bB,a8⟩:=y.po.row.D;rw[HL.o]at a8;obtain⟨b3,b4⟩:=gO y a8;clear HX Y y a8;go_upto_region 4 with fail;go_quiet(fail);obtain⟨W2,am⟩:=gG (wr.drewN nq);have b2:Bl wr W2:=by rw[<-am];exact jZ.drewN nq
 rw[am];clear am;have y:=b3.bl (fz:=fz) b2 λ_ _=>rfl;have c6:=y.cellAt 6 rfl;rw[b4.o]at c6;have f6:=y.N 6;have c8:=y.lt;have an:=y.po;rw[b4.o,b0]at an;have b5:=HP.A (P:=λ_=>False) (j4.A (fz:=fz) b2 λ_ _=>rfl) bz bz;have h4:=y.Lm b5 av;have k4:j4 (λs=>s=1) W2 fz (W2.setCell (U g 6) (gK la W.iN.length lc)) fz:=mo y.tg 6 _;have a9:=an.A k4 C C;have ap:=(HK.H (j4.A (fz:=fz) b2 λ_ _=>rfl)).H (k4.L (Q:=Pw) λt e=>.inl e);obtain⟨W3,aq⟩:=gG (W2.setCell (U g 6) (gK la W.iN.length lc));rw[aq]at h4 a9 ap;rw[Hh.1]at h4;obtain⟨b6,b7,b8,b9⟩:=kN h4 a9 ap aq;clear y an h4 k4 a9 ap HK b3 aq b2 b5 HP;go_upto_region 11 with fail;rw[b9.o];clear b9 c6 f6 c4 c5;go_wp2;generalize V'.ls=bC at*;go_loopw[8](λi wx=>∃(j:Nat) (M:Nat->Nat) (Vx:WV),j<=L/\i=I j/\Hid (j4 Pw w cP wx M)/\Hid (kM wx M g (S.lU (W.iH.iN.take j)) Vx)/\Hid (tM wx M tq W.iH.iN (gK lb L bB) bC)) λi _=>L-(Go.RowKit.intOf i).toNat
 case atStart=>exact⟨0,fz,_,jR,rfl,b8,by rw[eE];exact b6,b7⟩
 clear b8 b6 b7;obtain⟨j,M,Vx,hj,rfl,ba,bb,ar⟩:=hrel;by_cases bD:j<L
 .have c9:(j:Int)<(L:Int):=C;have bc:j<W.iH.iN.length:=jf HL.o bD;obtain⟨x,hx⟩:=nS bc;obtain⟨a1,a2,a3,a4⟩:=bo j x hx;obtain⟨e0,e1,dv,e2,e3⟩:=ar.l j x hx;have ab:=ar.row;rw[HL.o]at ab;obtain⟨ca,rfl,_,cb,T,_⟩:=ab.cells C;have d0:=(T (j*3) C).H e0;have d1:=(T (j*3+1) C).H e1;have d2:=(T (j*3+2) C).H e2;have HH:=gN (RG bb a1 a2 (jf a3 bp) x dv e3 a4);rw[<-KA S W.iH.iN j x hx]at HH;obtain⟨da,dc,rfl⟩:=e3.D;generalize x.fr=xf at*;generalize x.tt=xt at*;rw[ay]at d2 HH;generalize x.pk.bytes.length=bl at*;clear T e0 e1 e2 e3 ab a1 a2 a3 a4 hx bc;go_wp2_with(go_at_call 66;refine HH.L ?_;rintro en w5⟨rfl,bd,k5,V5,h5⟩;obtain⟨be,bE⟩:=gO k5 h5;clear k5 h5);exact⟨⟨j+1,bd,V5,C,iq,ba.H (be.L λt e=>by unfold Ph at e;unfold Pw;omega),bE,ar.A be (by unfold Ph;omega) (by unfold Ph;omega)⟩,iD⟩
 have bV:¬((j:Int)<(L:Int)):=C;have ad:=bb.o;rw[bI (qD HL.o),<-Hh.2]at ad;have bg:=gN ad;clear ad;go_wp2;go_ret2;exact⟨rfl,M,ba,_,bg⟩
def Ol(W:Wd)(k):W.lj (k+1)=if W.iH.iN.length=0 then(W.step,true)else W.step.lj k:=rfl
theorem wi(h:kM w cP g W V)(hW:Wk W)(most)(hm:most<=300)(hS:W.jl+2422*most<=3000000000)(hC:W.gF.length<=9999999)(T:KZ W.iP)(a0:0<W.ac.length):iU 58 #[O g,I most] w λen w'=>en=gU (.bool (W.lj most).2)/\∃fz,j4 Pw w cP w' fz/\Wx w' fz g (W.lj most).1:=by
 have H:=nJ h hW T;clear h hW T;go_enter func58,ntmps58;go_wp2_with fail;go_loopw[5](λi wr=>∃(k:Nat) (fz:Nat->Nat) (j:Wd) (Vc:WV),k<=most/\i=I k/\Hid (j4 Pw w cP wr fz)/\Hid (kM wr fz g j Vc)/\Hid (Wk j/\j.lj (most-k)=W.lj most/\j.jl+2422*(most-k)<=3000000000/\j.gF.length<=9999999/\KZ j.iP/\0<j.ac.length)) λi _=>most-(Go.RowKit.intOf i).toNat
 case atStart=>exact⟨0,cP,W,V,C,rfl,j4.refl,H.1,H.2.1,rfl,hS,hC,H.2.2,a0⟩
 clear H;obtain⟨k,fz,j,Vc,hk,rfl,HK,HX,HI⟩:=hrel;by_cases jt:k<most
 .have a3:(k:Int)<(most:Int):=C;obtain⟨i1,F,i3,i4,i5,i6⟩:=HI.o;obtain⟨s1,S,s3,s4,s5⟩:=mN i1;have Y:most-k=(most-(k+1))+1:=C;have M:Sw j.step:=⟨C,by rw[S.ca];exact i4⟩;have HS:=gN (Ry HX i1 M i5 i6);obtain⟨L,hL⟩:=gG j.iH.iN.length;rw[hL]at HS;rw[Y,Ol,hL]at F;by_cases h0:L=0
  .rw[aE h0]at F;have a1:=gN F;subst h0;clear i1 F i3 i4 i5 i6 s1 S s3 s4 s5 M HI;go_wp2_with(go_at_call 68;refine HS.L ?_;rintro en w5⟨rfl,y,Z,h5⟩;obtain⟨P,Q⟩:=gO Z h5;clear Z h5);go_ret;rw[<-a1.o];exact⟨rfl,y,HK.H P,Q⟩
  have a4:¬((L:Int)=0):=C;rw[az h0]at F;have a2:Hid (Wk j.step/\j.step.lj (most-(k+1))=W.lj most/\j.step.jl+2422*(most-(k+1))<=3000000000/\j.step.gF.length<=9999999/\KZ j.step.iP/\0<j.step.ac.length):=⟨s1,F,C,by rw[S.ca];exact i4,by rw[S.ms];exact i5,by rw[S.ac];exact i6⟩;clear i1 F i3 i4 i5 i6 s1 S s3 s4 s5 M HI h0 hL;go_wp2_with(go_at_call 68;refine HS.L ?_;rintro en w5⟨rfl,y,Z,V5,h5⟩;obtain⟨P,Q⟩:=gO Z h5;clear Z h5);exact⟨⟨k+1,y,_,V5,C,iq,HK.H P,Q,a2⟩,iD⟩
 have a5:¬((k:Int)<(most:Int)):=C;have hz:Hid ((j,false)=W.lj most):=by have:=HI.2.1;rwa[show most-k=0 by omega]at this
 go_wp2;go_ret;rw[<-hz.o];exact⟨rfl,fz,HK,_,HX⟩
def qO(x)(h:0<n):ju x n<n:=by have:=mO x n C;unfold ju;omega
def Ci(h:Wk W)(i):Wk (W.jG i)/\oI W (W.jG i)/\(W.jG i).jl<=W.jl+1/\(W.jG i).iN=W.iN/\(W.jG i).a=W.a/\(W.jG i).gF=W.gF:=by
 unfold Wd.jG;split
 .exact⟨h,oI.refl W,rE,rfl,rfl,rfl⟩
 rename_i A j;split
 .exact⟨h.pN j (h.ac i A j).kG,⟨rfl,rfl,rfl,rfl,rfl,cy ..,rfl,rfl,rfl,rE,iG⟩,jr,rfl,rfl,rfl⟩
 exact⟨h,oI.refl W,rE,rfl,rfl,rfl⟩
def Wd.kZ(W:Wd)(k:Nat):Wd:=(List.range k).foldl Wd.jG W
def tf(W:Wd)(k):W.kZ (k+1)=(W.kZ k).jG k:=by unfold Wd.kZ;rw[dp,dN];rfl
theorem rz(h:Wk W):∀k,Wk (W.kZ k)/\oI W (W.kZ k)/\(W.kZ k).jl<=W.jl+k/\(W.kZ k).iN=W.iN/\(W.kZ k).gF=W.gF
 |0=>⟨h,oI.refl W,jr,rfl,rfl⟩
 |k+1=>by obtain⟨j,y,S,F,H⟩:=rz h k;obtain⟨L,M,T,P,Y,Q⟩:=Ci j k;rw[tf];exact⟨L,y.H M,C,P.H F,Q.H H⟩
def zn(h:Wk W)(hA:W.ac[i]?=some A)(hw:n∈A.X.iX)(t):Wk (W.oR i A n t):=by
 have hk:=h.ac i A hA;have Q:∀c:Kl,(if c.a=i/\c.b=n then{c with A:=c.A++[t]}else c:Kl).a=c.a/\(if c.a=i/\c.b=n then{c with A:=c.A++[t]}else c:Kl).b=c.b:=λc=>by split<;>exact⟨rfl,rfl⟩
 obtain⟨Wn,M⟩:=gG ((({W with jl:=W.jl+1}:Wd).CP i n t):Wd);have y:Wn.gF=W.gF.map λc=>if c.a=i/\c.b=n then{c with A:=c.A++[t]}else c:=by rw[<-M];rfl
 have a9:Wn.gF.length=W.gF.length:=by rw[y,ay]
 have aa:Wn.jl=W.jl+1:=by rw[<-M];rfl
 have hJ:∀j a b c d e,W.J j a b c d e->Wn.J j a b c d e:=by
  rintro j a b c d e⟨k,hk,h1,h2,h3,h4,h5,h6,h7⟩;refine⟨_,by rw[y];exact aD.2 ⟨k,hk,rfl⟩,(Q k).1.H h1,(Q k).2.H h2,?_⟩;split
  .exact⟨h3,h4,λe=>(h5 e).imp (λe=>e) λe=>dG _ e,h6,h7⟩
  exact⟨h3,h4,h5,h6,h7⟩
 have T:Wk Wn:=by
  have hn:=h.nw;have Y:=sD W Wn 0 0 C C;have en:Wn.n=W.n/\Wn.m=W.m/\Wn.v=W.v/\Wn.ce=W.ce/\Wn.pl=W.pl/\Wn.ac=W.ac/\Wn.iN=W.iN/\Wn.a=W.a/\Wn.mC=W.mC++[t]/\Wn.iP=W.iP:=by rw[<-M];exact⟨rfl,rfl,rfl,rfl,rfl,rfl,rfl,rfl,rfl,rfl⟩
  obtain⟨Z,e2,S,e4,e5,e6,e7,e8,e9,a5⟩:=en;refine⟨by rw[Z];exact h.n1,by rw[e2];exact h.m1,by rw[S];exact h.v1,by rw[S];exact h.v2,by rw[e4];exact h.c1,by rw[e5,Z,e2,S];exact h.pl,λj P hP=>?_,by rw[e6];exact h.b,λj B hB=>?_,λl hl=>?_,by rw[e7];have:=h.a;omega,qD e8,gM h.cl,λc hc=>?_,by rw[e9];have:=h.hd;simp;omega,by rw[a5];exact h.ms⟩
  .rw[e5]at hP;rw[Z,e2,S];exact(h.pk j P hP).L Y
  .rw[e6]at hB;refine⟨(h.ac j B hB).x.L (FU W Wn j C C Z e2 S e4 (hJ j)),?_⟩;rw[y,dZ,br];have ef:((λc:Kl=>c.a==j)∘λc:Kl=>if c.a=i/\c.b=n then{c with A:=c.A++[t]}else c)=λc:Kl=>c.a==j:=by funext c;simp only[Function.comp];rw[(Q c).1]
   rw[ef,<-(h.ac j B hB).nm];exact bf λc _=>(Q c).2
  .rw[e7]at hl;rw[Z,e2,S];exact(h.po l hl).L Y
  rw[y]at hc;obtain⟨d,hd,rfl⟩:=aD.1 hc;have F:=h.ca d hd;have a0:∀c:Kl,c.a=d.a->c.b=d.b->c.fin=d.fin->c.r=d.r->c.kind=d.kind->c.pos=d.pos->c.value=d.value->c.c=d.c->c.A.length<=d.A.length+1->VO Wn c:=λc q1 q2 q3 q4 q5 q6 q7 q8 q9=>by obtain⟨A',a1,a2,a3⟩:=F.ac;have:=F.tk;exact⟨⟨A',by rw[e6,q1];exact a1,jf q2 a2,λu f=>by rw[q2,q4];exact a3 u (j9 q3 f)⟩,by rw[q5];exact F.kd,by rw[q6];exact F.po,by rw[q7];exact F.vl,C,by rw[q8,e8];exact F.bg,by rw[q3,e8];exact F.fi,by rw[q4];exact F.r,λf=>by rw[q4];exact F.fw (j9 q3 f)⟩
  split
  .exact a0 _ rfl rfl rfl rfl rfl rfl rfl rfl bz
  exact a0 _ rfl rfl rfl rfl rfl rfl rfl rfl C
 have a4:Wn.ac[i]?=some A:=j9 M hA;show Wk (Wd.pN _ i (A.X.jK n t));rw[M];refine T.pN a4 ((T.ac i A a4).jK n t λc hc hn=>?_);obtain⟨k,a6,h1,h2,h3,h4,h5,h6,h7⟩:=((hk.x.f c hc).st:W.J i c.gL c.kind c.ij c.unit c.iA);refine⟨_,by rw[y];exact aD.2 ⟨k,a6,rfl⟩,(Q k).1.H h1,(Q k).2.H h2,?_⟩;rw[aE ⟨h1,h2.H hn⟩];obtain⟨c1,a7,a8⟩:=aD.1 hw;obtain⟨m1,m2⟩:=aU.1 a7;have e:c1=c:=hk.x.a.eq m1 hc (a8.H hn.symm);subst e;have k1:c1.kind=1:=by unfold Cx.lD at m2;simp only[bL,ZT]at m2;exact m2.1
 exact⟨h3,h4,λ_=>.inr (cM _ (cw.2 rfl)),λe=>by rw[k1]at e;obtain e|e|e:=e<;>exact absurd e bT,λe=>absurd (k1.symm.H e) bT⟩
def My(W:Wd)(i n)(A)(t):(W.oR i A n t).n=W.n/\(W.oR i A n t).m=W.m/\(W.oR i A n t).v=W.v/\(W.oR i A n t).ce=W.ce/\(W.oR i A n t).pl=W.pl/\(W.oR i A n t).ac.length=W.ac.length/\(W.oR i A n t).gF.length=W.gF.length/\(W.oR i A n t).iP=W.iP/\(W.oR i A n t).jl=W.jl+2/\(W.oR i A n t).a=W.a/\(W.oR i A n t).iN=W.iN:=by unfold Wd.oR Wd.pN Wd.CP;simp_all
def nG(W:Wd)(a which t):W.jK a which t=W\/∃A n,W.ac[ju a W.ac.length]?=some A/\A.up=true/\n∈A.X.iX/\W.jK a which t=(W.oR (ju a W.ac.length) A n t).jx:=by
 unfold Wd.jK;split
 .simp
 rename_i A j;split
 .rename_i h;refine .inr ⟨A,_,j,h.1,?_,rfl⟩;have y:0<A.X.iX.length:=cU.2 h.2;rw[aS,ah (qO which y)];simp_all
 simp
def wM(h:Wk W)(a which t):Wk (W.jK a which t)/\(W.jK a which t).jl<=W.jl+2/\(W.jK a which t).gF.length=W.gF.length/\(W.jK a which t).iP=W.iP/\(W.jK a which t).ac.length=W.ac.length/\(W.jK a which t).iN=W.iN/\(W.jK a which t).pl=W.pl:=by
 obtain e|⟨A,n,H,Y,L,e⟩:=nG W a which t
 .simp_all
 rw[e];obtain⟨Z,g2,g3,g4,M,P,Q,S,F,T,j⟩:=My W _ n A t;have hn:=h.nw;have y:=Am (W.oR (ju a W.ac.length) A n t);refine⟨(zn h H L t).jx (qD F),by rw[show((W.oR _ A n t).jx).jl=(W.oR (ju a W.ac.length) A n t).jl from rfl,F];omega,by rw[y.ca,Q],by rw[y.ms,S],by rw[y.ac,P],j,M⟩
theorem I2(X:Cx)(kind pos)(value):(X.lV kind pos value).e.length=X.e.length+1:=by
 have j:∀(Y:Cx) c,(Y.dO c).e=Y.e:=λY c=>by
  unfold Cx.dO;repeat' split
  all_goals rfl
 have h:∀(Y:Cx) (c:jn),(Y.ku c).e.length=Y.e.length:=λY c=>by
  unfold Cx.ku;repeat' split
  all_goals first|rfl|exact xq ..
 have y:∀c:jn,(X.jb c).e.length=X.e.length+1:=λc=>by simp[Cx.jb]
 unfold Cx.lV;split
 .exact y _
 split
 .show(Cx.dO _ _).e.length=_;rw[j];exact y _
 unfold Cx.change;dsimp only;split
 .rw[rT,h];exact y _
 grind
def Xk.lV{b:Bd}(h:Xk b X)(j:X.a.length<8){kind pos:Int}{value:List Int}(y:kind=1\/kind=2\/kind=5)(F:kind=1->1<=value.length/\value.length<=8/\nX value)(H:kind=2->X.T pos)(L:kind=5->nN X.n X.m pos)(S:b.g.J X.e.length kind ⟨if kind=1 then 8 else 0,X.id,X.e.length,if kind=1 then value else []⟩ (if kind=5 then pos else 0) (if kind=1\/kind=5 then 0 else pos)):Xk b.nc (X.lV kind pos value):=by
 obtain rfl|rfl|rfl:=y
 .obtain⟨M,P,Q⟩:=F rfl;exact h.append j ‹_› M P Q
 .exact h.EG j ‹_› (H rfl)
 exact h.change j ‹_› (L rfl)
def vL(n):(kP n).length=5/\nX (kP n):=by refine⟨rfl,λd h=>?_⟩;unfold kP at h;simp at h;omega
def sP(h:Wk W)(j:W.ac[i]?=some A):W.nM i=A.X.e.length:=by have:=Z5 List.length (h.ac i A j).nm;simpa [Wd.nM]using this
def Al(h:Wk W)(kind b:Int)(H:kind=1\/kind=2\/kind=5):0<=W.lO kind b/\W.lO kind b<=48/\(kind=2->W.lO kind b<W.n*W.ce)/\(kind=5->W.lO kind b<W.n*W.m):=by
 have j:=h.n1;have y:=h.m1;have F:=h.c1;have P:=LL j.2 F.2;have Q:=rj j.2 y.2;have L:0<W.n*W.ce:=dQ j.1 F.1;have M:0<W.n*W.m:=dQ j.1 y.1;have S:=qO b (n:=W.lQ) L;have T:=qO b (n:=W.n*W.m) M;have Y:W.lQ=W.n*W.ce:=rfl;have c1:((W.n*W.ce:Nat):Int)=(W.n:Int)*W.ce:=bz;have c2:((W.n*W.m:Nat):Int)=(W.n:Int)*W.m:=bz;rw[<-c1,<-c2];obtain rfl|rfl|rfl:=H
 .exact⟨by simp[Wd.lO],by simp[Wd.lO],λe=>C,λe=>C⟩
 .have e:W.lO 2 b=ju b W.lQ:=by simp[Wd.lO]
  omega
 have e:W.lO 5 b=ju b (W.n*W.m):=by simp[Wd.lO]
 omega
def uy(h:Wk W)(hA:W.ac[i]?=some A)(h8:A.X.a.length<8)(kind b:Int)(hk:kind=1\/kind=2\/kind=5):Wk (W.mu kind b i A):=by
 have hx:=h.ac i A hA;obtain⟨p1,p2,p3,p5⟩:=Al h kind b hk;obtain⟨⟨c1,c2⟩,c3,c4,c5⟩:=hx.x.d;have a6:A.X.n=W.n:=c1;have ac:A.X.m=W.m:=c2;have ad:A.X.ce=W.ce:=c4;have ag:A.X.id=ja i:=c5;have Z:=sP h hA;obtain⟨K,hK⟩:=gG ((⟨i,W.nM i,kind,W.lO kind b,W.mF kind,[],W.a,0,Rz.zero⟩:Kl):Kl);obtain⟨X',a0⟩:=gG (A.X.lV kind (W.lO kind b) (W.mF kind));obtain⟨W',Y⟩:=gG (W.mu kind b i A);have y:W'.gF=W.gF++[K]:=by rw[<-Y,<-hK];rfl
 have a4:W'.ac=W.ac.modify i λB=>{B with X:=X'}:=by rw[<-Y,<-a0];rfl
 have en:W'.n=W.n/\W'.m=W.m/\W'.v=W.v/\W'.ce=W.ce/\W'.pl=W.pl/\W'.iN=W.iN/\W'.a=W.a/\W'.mC=W.mC/\W'.iP=W.iP/\W'.jl=W.jl+1:=by rw[<-Y];exact⟨rfl,rfl,rfl,rfl,rfl,rfl,rfl,rfl,rfl,rfl⟩
 obtain⟨e1,e2,e3,e4,e5,e6,e7,e8,e9,al⟩:=en;have ak:W'.gF.length=W.gF.length+1:=om y;have a7:∀j a b c d e,W.J j a b c d e->W'.J j a b c d e:=by rintro j a b c d e⟨k,hk,hh⟩;exact⟨k,by rw[y];exact dG _ hk,hh⟩
 have a8:kind=1->1<=(W.mF kind).length/\(W.mF kind).length<=8/\nX (W.mF kind):=λe=>by unfold Wd.mF;rw[aE e];have:=vL W.gF.length;exact⟨C,C,this.2⟩
 have T:∀R:List Rz,(∀(k:Nat) (r:Rz),R[k]?=some r->r.wh≠0->A.X.e[k]?=some r)->Xk ⟨W.jl+1,200*W.jl+200,20*W.jl+20,W.gF.length+1,⟨R,W.n,W.m,W.v,W.ce,ja i,W'.J i⟩⟩ X':=λR hR=>by
  have h0:=hx.x;have hb:Xk ⟨W.jl,200*W.jl,20*W.jl,W.gF.length,⟨R,W.n,W.m,W.v,W.ce,ja i,W'.J i⟩⟩ A.X:=by have F:=h0.L (b':=⟨W.jl,200*W.jl,20*W.jl,W.gF.length,⟨[],W.n,W.m,W.v,W.ce,ja i,W'.J i⟩⟩) ⟨⟨iG,iG,iG,iG⟩,rfl,⟨⟨rfl,rfl⟩,rfl,rfl,rfl⟩,a7 i⟩;exact⟨F.n1,F.m1,F.v1,F.v2,F.c1,F.id,F.lay,F.e,F.t,F.me,F.ba,F.mb,F.h,F.i,F.rv,F.pl,λc hc=>(F.f c hc).L ⟨iG,iG,iG,iG⟩ (λ_ _ _ _ _ e=>e) iG,F.pr.L (λ_ e=>e.L ⟨iG,iG,iG,iG⟩) λ_ e=>e.L ⟨iG,iG,iG,iG⟩,F.sl.L (λ_ e=>e.L ⟨iG,iG,iG,iG⟩) λ_ e=>e.L ⟨iG,iG,iG,iG⟩,F.vt.L (λ_ e=>e.L ⟨iG,iG,iG,iG⟩) λ_ e=>e.L ⟨iG,iG,iG,iG⟩,λz hz=>(F.bg z hz).L ⟨iG,iG,iG,iG⟩,F.bl,F.mv,F.nk,F.a,F.g,hR,F.d⟩
  have:=hb.lV h8 (kind:=kind) (pos:=W.lO kind b) (value:=W.mF kind) hk a8 (λe=>⟨p1,by rw[a6,ad];exact p3 e⟩) (λe=>⟨p1,by rw[a6,ac];exact p5 e⟩) (by
   refine⟨K,by rw[y];exact cM _ (cw.2 rfl),?_⟩
   rw[<-hK]
   refine⟨rfl,Z,rfl,?_,λe=>?_,λe=>?_,λe=>?_⟩
   .rw[ag]
    congr 1
    show(if kind=1 then W.mF kind else [])=W.mF kind
    unfold Wd.mF
    split<;>rfl
   .exact .inl (by rw[aE (.inl e)])
   .rw[az C]
   .rw[aE e])
  rwa[a0]at this
 have hX:=T [] bz;have ai:=T A.X.e λ_ _ e _=>e;have a9:X'.e.length=A.X.e.length+1:=by rw[<-a0];exact I2 ..
 have hn:=h.nw;have aa:=sD W W' 0 0 C C;have M:∀(j:Nat) B,W.ac[j]?=some B->W'.ac[j]?=some (if i=j then{B with X:=X'}else B):=λj B hB=>by rw[a4,bS,hB];rfl
 have ab:∀(B:Ac),W.ac[i]?=some B->B=A:=λB hB=>by rw[hA]at hB;simpa using hB.symm
 rw[Y];refine⟨by rw[e1];exact h.n1,by rw[e2];exact h.m1,by rw[e3];exact h.v1,by rw[e3];exact h.v2,by rw[e4];exact h.c1,by rw[e5,e1,e2,e3];exact h.pl,λj P hP=>?_,by rw[a4,cy];exact h.b,λj B hB=>?_,λl hl=>?_,by rw[e6];have:=h.a;omega,qD e7,gM h.cl,λc hc=>?_,by rw[e8];have:=h.hd;omega,by rw[e9];exact h.ms⟩
 .rw[e5]at hP;rw[e1,e2,e3];exact(h.pk j P hP).L aa
 .have hj:=(aj.1 hB).1;rw[a4,cy]at hj;obtain⟨B0,a5⟩:=nS hj;have S:=M j B0 a5;rw[hB]at S;simp only[aJ]at S;have Q:(W'.gF.filter λc=>c.a==j).map (·.b)=(W.gF.filter λc=>c.a==j).map (·.b)++(if i=j then [A.X.e.length]else []):=by
   rw[y,cz,aZ,<-hK];congr 1;by_cases e:i=j
   .simp[e,<-Z]
   simp[e]
  by_cases e:i=j
  .subst e;rw[aE rfl]at S Q;rw[S];refine⟨hX.L ⟨⟨by show(W.jl:Int)+1<=W'.jl;omega,by show 20*(W.jl:Int)+20<=20*W'.jl;omega,by show(W.gF.length:Int)+1<=W'.gF.length;omega,by show 200*(W.jl:Int)+200<=200*W'.jl;omega⟩,rfl,⟨⟨e1,e2⟩,e3,e4,rfl⟩,λ_ _ _ _ _ e=>e⟩,?_⟩;rw[Q,hx.nm];show _=List.range X'.e.length;rw[a9,dp]
  rw[az e]at S Q;rw[S];exact⟨(h.ac j B0 a5).x.L (FU W W' j C C e1 e2 e3 e4 (a7 j)),by rw[Q,cF];exact(h.ac j B0 a5).nm⟩
 .rw[e6]at hl;rw[e1,e2,e3];exact(h.po l hl).L aa
 rw[y]at hc;obtain hc|hc:=aT.1 hc
 .have H:=h.ca c hc;obtain⟨A',a1,a2,a3⟩:=H.ac;have am:=H.tk;refine⟨⟨_,M c.a A' a1,?_,λu f=>?_⟩,H.kd,H.po,H.vl,C,by rw[e7];exact H.bg,by rw[e7];exact H.fi,H.r,H.fw⟩
  .by_cases e:i=c.a
   .rw[aE e];rw[<-e]at a1;have:=ab A' a1;subst this;show c.b<X'.e.length;omega
   rw[az e];exact a2
  by_cases e:i=c.a
  .rw[aE e]at u|-;rw[<-e]at a1;have:=ab A' a1;subst this;exact ai.nB _ _ (a3 u f) (H.fw f)
  rw[az e]at u|-;exact a3 u f
 simp only[cw]at hc;subst hc;rw[<-hK];refine⟨⟨_,M i A hA,?_,λ_ f=>absurd rfl f⟩,hk,⟨p1,p2⟩,?_,jR,⟨hn.1,by rw[e7];exact iG⟩,⟨aA 0,jf e7 hn.1⟩,xh 0 bT,λf=>absurd rfl f⟩
 .rw[aE rfl];show W.nM i<X'.e.length;omega
 show(W.mF kind).length<=8/\nX (W.mF kind);unfold Wd.mF;split
 .have:=vL W.gF.length;exact⟨C,this.2⟩
 exact⟨jR,by simp[nX]⟩
def Od(w)(bm iC)(l)(j:w.heap[bm]?=some (.map (ie l) iC))(k)(h:∀e∈l,e.k≠k):(Instr.lookup 98 (.map (some bm)) (I k) true).run prog w=.ok (.tuple #[.pointer none,.bool false]) w:=by
 have y:=fa (w:=w) underlying3 (pT l k h);have F:=eW (P:=prog) (w:=w) (k:= I k) underlying3 vN (ie l).isEmpty 9999;have H:(Sem.run prog (zeroValue 163) w)=.ok (.pointer none) w:=iu;simp[Instr.lookup,Sem.run_bind,aI j,F,y,H]
section
variable{w1:World}{t:Nat}{V V':CV}{c c':jn}{cv cv':lE}
theorem L9(h:jy w cP t p qb X V)(H:∀c∈X.a,c.q.nodes.length<=100)(n)(L:n∉X.iX)(a):iU 52 #[O p,I n,I a] w λS w'=>S=gU (I 7)/\w'=w:=by
 have c8:=h.cellAt 8 rfl;have lp:=h.A;by_cases j:∃c∈X.a,c.gL=n
 .obtain⟨c,j,rfl⟩:=j;obtain⟨cv,M⟩:=h.r.f c j;have T:Cx.lD c=false:=by
   cases e:Cx.lD c with
   |false=>rfl
   |true=>exact absurd (aD.2 ⟨c,aU.2 ⟨j,e⟩,rfl⟩) L
  have P:=gN (qT M (H c j));rw[T]at P;have y:=h.qI j;have Y:=M.lt;clear h M L H;obtain⟨q,F⟩:=gG (qb c.gL);rw[F]at P y Y;clear F;go_enter func52,ntmps52;go_wp2_with(first|(go_at_call 94;refine P.L ?_;rintro S w1⟨rfl,rfl⟩));go_ret;exact⟨rfl,rfl⟩
 have y:=Od w V.bm V.iC _ h.r.mp (n:Int) (λe Z=>by
  obtain⟨c,Q,rfl⟩:=aD.1 Z
  intro e
  have e':(c.gL:Int)=n:=e
  exact j ⟨c,Q,C⟩)
 clear h L H j;go_enter func52,ntmps52;go_wp2;go_ret;exact⟨rfl,rfl⟩
end
def kM.pN(h:kM w cP g W V){u:Nat}(k:j4 (Mc (100+32*u)) w cP w' fz)(y:W.ac[u]?=some A)(j:Rk V.aw u p A.up)(F:Cl w' fz (100+32*u) p qb X'):kM w' fz g (W.pN u X') V:=
 (h.Tj k (λt e=>.inl (by unfold Mc at e;omega)) y j F).uS rE
def pQ{α:Type}(f:α->α)(l:List α)(k:Nat):List α:=(l.map f).take k++l.drop k
def Kg{α:Type}(f)(l:List α):pQ f l 0=l:=rfl
def Nw{α:Type}(f)(l:List α):pQ f l l.length=l.map f:=by unfold pQ;rw[eQ,cF,bI bz]
def CG{α:Type}(f)(l:List α)(k)(h:k<=l.length):(pQ f l k).length=l.length:=by simp[pQ];omega
def Gn{α:Type}(f)(l:List α)(k)(j:k<l.length):(pQ f l k)[k]?=l[k]?:=by unfold pQ;have h:(List.take k (l.map f)).length=k:=ik;rw[aC C,h];simp
def zD{α:Type}{f:α->α}{l:List α}{c:α}(h:l[k]?=some c):pQ f l (k+1)=(pQ f l k).set k (f c):=by
 have j:=(aj.1 h).1;have y:(l.map f)[k]?=some (f c):=by rw[aK,h];rfl
 unfold pQ;have F:(List.take k (l.map f)).length=k:=ik;rw[eA _ _ C,F];have H:List.drop k l=c::List.drop (k+1) l:=by rw[cm j];simp_all
 rw[H,cW,y];simp
def R6{α:Type}{f:α->α}{l:List α}{c:α}(j:l[k]?=some c)(h:f c=c):pQ f l (k+1)=pQ f l k:=by
 rw[zD j,h];have y:=Gn f l k (aj.1 j).1;rw[j]at y;apply bJ;intro i;by_cases e:k=i
 .subst e;rw[aQ (aj.1 y).1,y]
 simp_all
def BG(h:Wk W)(H:W.ac[i]?=some A)(hu:A.up=true)(hn:n∈A.X.iX):∃q d,W.gF[q]?=some d/\d.a=i/\d.b=n/\d.kind=1/\d.fin=0/\∀(k:Nat) c,k<q->W.gF[k]?=some c->¬(c.a=i/\c.b=n):=by
 obtain⟨c,hc,rfl⟩:=aD.1 hn;obtain⟨m1,L⟩:=aU.1 hc;have k1:c.kind=1:=by unfold Cx.lD at L;simp only[bL,ZT]at L;exact L.1
 have hx:=(h.ac i A H).x;obtain⟨d,M,P,Q,h3,_⟩:=((hx.f c m1).st:W.J i c.gL c.kind c.ij c.unit c.iA);obtain⟨q,j⟩:=List.mem_iff_getElem?.1 M;refine⟨q,d,j,P,Q,h3.H k1,?_,λk e hk he hb=>?_⟩
 .by_cases S:d.fin=0
  .exact S
  exfalso;obtain⟨A',T,a2,a3⟩:=(h.ca _ M).ac;rw[P,H]at T;simp only[aJ]at T;subst T;have r1:=a3 hu S;rw[Q]at r1;exact(h.ca _ M).fw S ((hx.g _ _ r1).2 ⟨c,m1,rfl⟩)
 have Y:((W.gF.filter λc=>c.a==i).map (·.b)).Nodup:=by rw[(h.ac i A H).nm];exact dU
 have y:[e,d].Sublist W.gF:=by
  obtain⟨hq,Z⟩:=aj.1 j;have h5:W.gF.drop q=d::W.gF.drop (q+1):=by rw[cm hq,Z]
  have h6:e∈W.gF.take q:=by obtain⟨a4,a0⟩:=aj.1 he;exact fM.2 ⟨k,C,a0⟩
  have F:([e]++[d]).Sublist (W.gF.take q++W.gF.drop q):=by refine gD (List.singleton_sublist.2 h6) ?_;rw[h5];exact List.Sublist.cons_cons _ (fp _)
  rwa[dK]at F
 have F:=((y.filter λc=>c.a==i).map (·.b));have h8:=Y.sublist F;simp[hb.1,P,hb.2,Q]at h8
theorem MJ(h:kM w cP g W V)(hl:W.gF.length<=1000000000){q:Nat}(hd:W.gF[q]?=some d)(ha:d.a=i)(hn:d.b=n)(hk:d.kind=1)(hf:d.fin=0)(P:∀(k:Nat) c,k<q->W.gF[k]?=some c->¬(c.a=i/\c.b=n)):iU 56 #[O g,I i,I n] w λen w'=>en=gU (.bool true)/\Bl w w':=by
 obtain⟨ca,cc,Q⟩:=h.ca.row.D;have H:=gN h;have a7:=(aj.1 hd).1;obtain⟨Hd,a1,S⟩:=iI hd P Q;clear h hd P Q;go_enter func56,ntmps56;go_wp2_with fail;go_loopw[7](λj wr=>∃k:Nat,k<=q/\j=I k/\Hid (Bl w wr)) λj _=>W.gF.length-(Go.RowKit.intOf j).toNat
 case atStart=>exact⟨0,jR,rfl,jZ⟩
 obtain⟨k,a8,rfl,HB⟩:=hrel;have T:=H.bl (fz:=cP) HB λ_ _=>rfl;have jt:k<W.gF.length:=C;have a6:(k:Int)<(W.gF.length:Int):=C;have c7:=T.cellAt 7 rfl;rw[S.o]at c7;have a9:=T.lt;obtain⟨c,hc⟩:=nS jt;have F:=T.ca.row;rw[S.o]at F;obtain⟨cb,rfl,_,aa,y,_⟩:=F.cells C;obtain⟨tv,rv,e0,e1,e2,e3,e4,e5,e6,e7,e8,e9,Y,Z,a0⟩:=T.ca.c k c hc;have d0:=(y (k*11) C).H e0;have d1:=(y (k*11+1) C).H e1;have d2:=(y (k*11+2) C).H e2;have d3:=(y (k*11+3) C).H e3;have d4:=(y (k*11+4) C).H e4;have d5:=(y (k*11+5) C).H e5;have d6:=(y (k*11+6) C).H e6;have d7:=(y (k*11+7) C).H e7;have d8:=(y (k*11+8) C).H e8;have d9:=(y (k*11+9) C).H e9;have a2:=(y (k*11+10) C).H Y;obtain⟨ta,tc,rfl⟩:=Z.D;obtain⟨ra,rc,rfl⟩:=a0.D;rw[ay]at a2;have Hc:=gN hc;clear T y e0 e1 e2 e3 e4 e5 e6 e7 e8 e9 Y Z a0 hc F;by_cases a3:k=q
 .subst a3;have a4:c=d:=by have:=Hc.symm.H Hd;simpa using this
  subst a4;rw[hk]at d2;rw[hf]at d7;rw[ha]at d0;rw[hn]at d1;clear ha hn hk hf;go_wp2;go_ret;exact⟨rfl,HB.alloc _⟩
 have L:=a1 k c C Hc;by_cases M:c.a=i
 .have a5:¬((c.b:Int)=(n:Int)):=λe=>L ⟨M,C⟩;rw[M]at d0;clear M L ha hn hk hf;go_wp2;exact⟨⟨k+1,C,iq,HB.alloc _⟩,iD⟩
 have a5:¬((c.a:Int)=(i:Int)):=C;clear M L ha hn hk hf;go_wp2;exact⟨⟨k+1,C,iq,HB.alloc _⟩,iD⟩
def kM.UQ{cb len cc:Nat}(h:kM w cP g W V)(Z:V.cv=gK (G cb) len cc)(a2:W.gF.length=len)(hd:W.gF[i]?=some d){tc:Nat}(a7:V.cs[i*11+5]?=some (gK ta d.A.length tc))(a0:Bl w W1){gg cp:Nat}(Y:w5.ownsRow 0 3 1 (gK (G gg) (d.A.length+1) cp) (d.A.length+1) (d.A.map I++[I t]))(F:W1.grownBy w5 (gK ta d.A.length tc).ownBlock)(a8:(gK ta d.A.length tc).ownBlock=some gg\/w.heap.size<=gg):∃tag2,j4 (λs=>s=4\/s=1000+i) w cP (w5.setCell (U cb (i*11+5)) (gK (G gg) (d.A.length+1) cp)) tag2/\kM (w5.setCell (U cb (i*11+5)) (gK (G gg) (d.A.length+1) cp)) tag2 g {W with gF:=W.gF.set i {d with A:=d.A++[t]}} {V with cs:=V.cs.set (i*11+5) (gK (G gg) (d.A.length+1) cp)}:=by
 subst a2;have l2:=a0.lt;have l3:=F.size;have n1:=h.a;have n2:=h.an;have n3:=h.ht;have a9:=(aj.1 hd).1;have aq:V.cs.length=W.gF.length*11:=h.ca.row.ij.1;have M:=h.ca.row;rw[Z]at M;obtain⟨tv,rv,e0,e1,e2,e3,e4,e5,e6,e7,e8,e9,aa,a3,ab⟩:=h.ca.c i d hd;have ac:tv=gK ta d.A.length tc:=by have:=e5.symm.H a7;simpa using this
 subst ac;have tl:=a3.cP;have ll:=λb P=>(a3.ij.lt b P).2;have a1:=M.cP cb rfl;have a4:=(M.ij.lt cb rfl).2;obtain⟨tag2,a5⟩:∃tag2:Nat->Nat,tag2=λb=>if b<w.heap.size then cP b else if b=gg then 1000+i else 9:=⟨_,rfl⟩
 have Q:∀b,b<w.heap.size->tag2 b=cP b:=λb P=>by rw[a5];simp[P]
 have ad:tag2 gg=1000+i:=by
  obtain e|e:=a8
  .rw[Q gg (ll gg e)];exact tl gg e
  rw[a5];dsimp only;rw[az C,aE rfl]
 have O5:gI (λb=>cP b=4\/cP b=1000+i) w w5:=(gI.D a0).H ((gI.A F).L λb _ e=>.inr (tl b e.symm));have oQ:gI (λb=>cP b=4\/cP b=1000+i) w (w5.setCell (U cb (i*11+5)) (gK (G gg) (d.A.length+1) cp)):=O5.setCell (U cb (i*11+5)) (.inl (.inl a1)) _;have k:j4 (λs=>s=4\/s=1000+i) w cP (w5.setCell (U cb (i*11+5)) (gK (G gg) (d.A.length+1) cp)) tag2:=⟨oQ,Q⟩;have S:w5.ownsRow 0 60 11 (gK (G cb) W.gF.length cc) W.gF.length V.cs:=by
  refine mW M.ij λb P=>?_;have e:cb=b:=by simpa [Value.ownBlock]using P
  subst e;rw[F.block cb C λe=>by have:=tl cb e.symm;rw[a1]at this;omega,a0.heap a4]
 refine⟨tag2,k,(k.heap h.hg h.tg C).1,(k.heap h.hg h.tg C).2,h.b.A k C λj _ _=>C,h.D.A k C λj _ _=>C,⟨⟨by show World.ownsRow _ _ _ _ V.cv _ _;rw[Z,bK];exact wW S _ _,λb P=>?_⟩,λj y hy=>?_⟩,h.po.A k C C,h.ha.A k C,h.ms.A k C,n1,n2,n3⟩
 .have a6:V.cv.ownBlock=some b:=P;rw[Z]at a6;have e:cb=b:=by simpa [Value.ownBlock]using a6
  rw[<-e,Q cb a4];exact a1
 by_cases hj:j=i
 .subst hj;rw[aQ a9]at hy;simp only[aJ]at hy;subst hy;have y:=λo (ho:o<11) (h5:o≠5)=>aH (l:=V.cs) (a:=gK (G gg) (d.A.length+1) cp) (show j*11+5≠j*11+o by omega);refine⟨gK (G gg) (d.A.length+1) cp,rv,(y 0 C C).H e0,(y 1 C C).H e1,(y 2 C C).H e2,(y 3 C C).H e3,(y 4 C C).H e4,aQ C,(y 6 C C).H e6,(y 7 C C).H e7,(y 8 C C).H e8,(y 9 C C).H e9,(y 10 C C).H aa,⟨?_,λb P=>?_⟩,ab.A k C⟩
  .simp only[aO,df,dA,aZ,bj,eT];refine mW Y λb P=>Z8 _ _ _ _ λe=>?_;obtain⟨g',an,ap,k1,_,k3,k4,_⟩:=(show nh w5 (λ_=>0) 0 60 11 (gK (G cb) W.gF.length cc) W.gF.length V.cs from⟨S,λ_ _=>rfl⟩).block C;simp only[bO,aJ,Z0,ZS,ZU]at k1;rw[<-k1.1]at k4;exact gW Y k4 bT (kz P e)
  have e:gg=b:=by simpa [Value.ownBlock]using P
  rw[<-e];exact ad
 rw[aH (Ne.symm hj)]at hy;obtain⟨ag,ai,z0,z1,z2,z3,z4,z5,z6,z7,z8,z9,ak,al,am⟩:=(h.ca.c j y hy).A k C C;have T:=λo (ho:o<11)=>aH (l:=V.cs) (a:=gK (G gg) (d.A.length+1) cp) (show i*11+5≠j*11+o by omega);exact⟨ag,ai,(T 0 C).H z0,(T 1 C).H z1,(T 2 C).H z2,(T 3 C).H z3,(T 4 C).H z4,(T 5 C).H z5,(T 6 C).H z6,(T 7 C).H z7,(T 8 C).H z8,(T 9 C).H z9,(T 10 C).H ak,al,am⟩
def kM.Uu{Q:Nat}(h:kM w cP g W {V with hv:=gK ha W.mC.length Q})(M:Bl w W1){gg cp:Nat}(F:w5.ownsRow 0 3 1 (gK (G gg) (W.mC.length+1) cp) (W.mC.length+1) (W.mC.map I++[I t]))(j:W1.grownBy w5 (gK ha W.mC.length Q).ownBlock)(Y:(gK ha W.mC.length Q).ownBlock=some gg\/w.heap.size<=gg):∃tag2,j4 (λs=>s=1\/s=7) w cP (w5.setCell (U g 9) (gK (G gg) (W.mC.length+1) cp)) tag2/\kM (w5.setCell (U g 9) (gK (G gg) (W.mC.length+1) cp)) tag2 g {W with mC:=W.mC++[t]} {V with hv:=gK (G gg) (W.mC.length+1) cp}:=by
 have lw:=h.lt;have l2:=M.lt;have l3:=j.size;have n1:=h.a;have n2:=h.an;have n3:V.tp=8\/V.tp=97:=h.ht;have Z:∀b,(gK ha W.mC.length Q).ownBlock=some b->cP b=7:=h.ha.cP;have ll:=λb P=>(h.ha.ij.lt b P).2;obtain⟨tag2,S⟩:∃tag2:Nat->Nat,tag2=λb=>if b<w.heap.size then cP b else if b=gg then 7 else 9:=⟨_,rfl⟩
 have y:∀b,b<w.heap.size->tag2 b=cP b:=λb P=>by rw[S];simp[P]
 have a0:tag2 gg=7:=by
  obtain e|e:=Y
  .rw[y gg (ll gg e)];exact Z gg e
  rw[S];dsimp only;rw[az C,aE rfl]
 have oQ:gI (λb=>cP b=1\/cP b=7) w (w5.setCell (U g 9) (gK (G gg) (W.mC.length+1) cp)):=((gI.D M).H ((gI.A j).L λb _ e=>.inr (Z b e.symm))).setCell (U g 9) (.inl (.inl h.tg)) _;have k:j4 (λs=>s=1\/s=7) w cP (w5.setCell (U g 9) (gK (G gg) (W.mC.length+1) cp)) tag2:=⟨oQ,y⟩;have T:w5.heap[g]?=some (ig (Fb W {V with hv:=gK ha W.mC.length Q}).toArray 66 (0,0)):=by rw[j.block g C λe=>by have:=Z g e.symm;rw[h.tg]at this;omega,M.heap lw];exact h.hg
 refine⟨tag2,k,jO 9 _ w5 _ T,(y g lw).H h.tg,h.b.A k C λi _ _=>C,h.D.A k C λi _ _=>C,h.ca.A k C C λi _=>C,h.po.A k (show¬(V.tp=1\/V.tp=7) by omega) C,⟨?_,λb P=>?_⟩,h.ms.A k C,n1,n2,n3⟩
 .simp only[aO,df,dA,aZ,bj,eT];exact mW F λb P=>Z8 _ _ _ _ λe=>gW F T bT (kz P e)
 have e:gg=b:=by simpa [Value.ownBlock]using P
 rw[<-e];exact a0
def GM(h:kM w cP g W V)(P:Wk W)(Q:Sw W)(M:W.ac[i]?=some A)(F:Rk V.aw i p A.up)(H:Cl w cP (100+32*i) p qb A.X):iU 57 #[O p] w λS w'=>S=iF/\∃fz,j4 (Mc (100+32*i)) w cP w' fz/\kM w' fz g (W.pN i A.X.kG) V:=by
 obtain⟨Z,T⟩:=H;have y:=(P.ac i A M).x;have j:=Q.sm i;have ha:=y.h;have hk:=j.k;have hr:=y.MZ j;refine gS (Ss _ (TC T C (y.Q8 j) (y.xn j) C C y.pl λc L=>by have:=(y.f c L).q.nl;omega)) λw' Y=>?_;obtain⟨fz,k,L⟩:=Y.A;exact⟨rfl,fz,k,h.pN k M F L⟩
theorem AL(h:kM w cP g W V)(hW:Wk W)(hS:W.jl+8+2422*300<=3000000000)(hC:W.gF.length<=9999999)(a0:KZ W.iP)(a4:0<W.ac.length):iU 30 #[O g] w λen w'=>en=gU (.bool W.lf.2)/\∃fz,j4 Pw w cP w' fz/\Wx w' fz g W.lf.1:=by
 have ad:=h.an;have HT:Hid (∀k,k<=W.ac.length->Wk (W.kZ k)/\Sw (W.kZ k)/\(W.kZ k).ac.length=W.ac.length/\(W.kZ k).iP=W.iP/\(W.kZ k).jl<=W.jl+8/\(W.kZ k).gF=W.gF):=λk hk=>by obtain⟨Z,t2,t3,t4,t5⟩:=rz hW k;exact⟨Z,⟨C,jf t5 hC⟩,t2.ac,t2.ms,C,t5⟩
 obtain⟨H,a5⟩:=gO h a0;clear h hW a0;go_enter func30,ntmps30;go_wp2_with fail;go_loopw[3](λi wr=>∃(k:Nat) (fz:Nat->Nat) (V':WV),k<=W.ac.length/\i=I k/\Hid (j4 Pw w cP wr fz)/\Hid (kM wr fz g (W.kZ k) V')) λi _=>W.ac.length-(Go.RowKit.intOf i).toNat
 case atStart=>exact⟨0,cP,V,jR,rfl,j4.refl,H⟩
 clear H;obtain⟨k,fz,V',hk,rfl,HK,P⟩:=hrel;obtain⟨Z,t2,t3,t4,t5,t6⟩:=HT k hk;obtain⟨aa,ac,Q⟩:=P.D.row.D;have c5:=P.cellAt 5 rfl;rw[Q,t3]at c5;have ag:=P.lt;by_cases jt:k<W.ac.length
 .have a9:(k:Int)<(W.ac.length:Int):=C;obtain⟨A,hA⟩:∃A,(W.kZ k).ac[k]?=some A:=⟨_,ah C⟩;have y:=P.D.row;rw[Q,t3]at y;obtain⟨ab,rfl,_,ai,F,_⟩:=y.cells C;obtain⟨p,qb,M,a1⟩:=P.D.ac k A hA;have d1:=(F (k*3+1) C).H M.2.1;have d2:=(F (k*3+2) C).H M.2.2;have a2:=gN (GM P Z t2 hA M a1);have j:W.kZ (k+1)=(W.kZ k).jG k:=tf W k;unfold Wd.jG at j;rw[hA]at j;dsimp only at j;obtain⟨up,a3⟩:=gG A.up;rw[a3]at d2 j;clear F y M a1 Q Z t2 t3 t4 t5 t6 a3
  cases up with
  |true=>rw[aE rfl]at j;rw[<-j]at a2;clear j;go_wp2_with(go_at_call 57;refine a2.L ?_;rintro en w5⟨rfl,L,k5,h5⟩;obtain⟨S,T⟩:=gO k5 h5;clear k5 h5);exact⟨⟨k+1,L,V',C,iq,HK.H (S.L λt e=>by unfold Mc at e;unfold Pw;omega),T⟩,iD⟩
  |false=>rw[az bz]at j;have a6:=gN j;clear j;go_wp2;exact⟨⟨k+1,fz,V',C,iq,HK,jf a6.o P⟩,iD⟩
 have ak:¬((k:Int)<(W.ac.length:Int)):=C;have a7:k=W.ac.length:=C;subst a7;have HE:=gN (wi (W:=W.kZ W.ac.length) P Z 300 jr C (jf t6 hC) (jf t4 a5) (jf t3 a4));have hb:Hid ((W.kZ W.ac.length).lj 300=W.lf):=rfl;rw[hb.o]at HE;clear Z t2 t3 t4 t5 t6 hb;obtain⟨wb,Y⟩:=gG W.lf;rw[Y]at HE;have a8:=gN Y;clear Y;go_wp2_with(go_at_call 58;refine HE.L ?_;rintro en w5⟨rfl,L,k5,h5⟩;obtain⟨S,T⟩:=gO k5 h5;clear k5 h5);go_ret;rw[a8.o];exact⟨rfl,L,HK.H S,T⟩
def Pg(t:Nat):Prop:=t=1\/t=4\/t=7\/(100<=t/\t<356)\/1000<=t
def Tr(w:World)(x)(t):∀j u,[x][j]?=some u->(w.alloc (ig #[x] t)).cell? (((U w.heap.size 0):Addr).add j)=some u:=fW (cs:=#[x]) (t:=t) (fr:=(0,0)) (ao w _)
def BQ(h:uf X):X.iX.Pairwise (·<·):=by unfold Cx.iX;exact cj.2 ((h.gL.sublist cE).imp λe=>e)
def LO(M:Wk W)(P:Sw W)(Q:W.ac[i]?=some A)(S:n∈A.X.iX)(t)(T:Cl w cP (100+32*i) p qb A.X):iU 25 #[O p,I n,I t] w λY w'=>Y=gU (I 0)/\CS w cP (100+32*i) p qb (A.X.jK n t) w':=by
 obtain⟨VC,H⟩:=T;have y:=(M.ac i A Q).x;have h:=P.sm i;obtain⟨c,Z,rfl⟩:=aD.1 S;obtain⟨F,L⟩:=aU.1 Z;have j:c.q.nodes.length<=100:=by have:=(y.f c F).q.nl;omega
 by_cases ha:A.X.T t
 .exact Ah _ _ _ _ (SK H C (y.Q8 h) F L j t ha)
 refine Ah _ _ _ _ (FY H (y.Q8 h) F L j t ?_);unfold Cx.T at ha;omega
theorem GI(h:kM w cP g W V)(hW:Wk W)(hS:W.jl+2<=3000000000)(hC:W.gF.length<=9999999)(a which t)(bD:vZ a)(bE:vZ which)(dj:0<W.ac.length):iU 29 #[O g,I a,I which,I t] w λen w'=>en=gU (.bool true)/\∃fz,j4 Pg w cP w' fz/\Wx w' fz g (W.jK a which t):=by
 obtain⟨i3,j3,r0,r1,r2⟩:=fx Tryz.tJ;obtain⟨aa,ac,bR⟩:=h.D.row.D;obtain⟨ca,cc,bV⟩:=h.ca.row.D;obtain⟨ha,hc,bX⟩:=h.ha.D;obtain⟨pv,av,lv,cv,hv,mv,ps,aw,ls,cs,tp⟩:=V;simp only at bR bV bX;subst bR bV bX;have g2:=h.a;have g3:=h.an;obtain⟨i,hi⟩:=gG (ju a W.ac.length);have dl:i<W.ac.length:=by rw[<-hi];exact qO a dj
 have g4:(i:Int)<(W.ac.length:Int):=C;have al:pk a W.ac.length=(i:Int):=by have:=mO a W.ac.length C;rw[<-hi];unfold ju;omega
 obtain⟨A,hA⟩:=nS dl;have b3:=gN λWm=>nT a W.ac.length Wm bD.1 bD.2 C C;rw[al]at b3;obtain⟨ab,rfl,Y4,c0,Z,_⟩:=h.D.row.cells (by show 0<W.ac.length;omega);obtain⟨p,qb,ag,bi⟩:=h.D.ac i A hA;have d1:=(Z (i*3+1) (by show i*3+1<W.ac.length*3;omega)).H ag.2.1;have d2:=(Z (i*3+2) (by show i*3+2<W.ac.length*3;omega)).H ag.2.2;have c5:=h.cellAt 5 rfl;have lg:=h.lt;have hx:=(hW.ac i A hA).x;have a6:∀c∈A.X.a,c.q.nodes.length<=100:=λc hc=>by have:=(hx.f c hc).q.nl;omega
 have bl:Hid (iU 24 #[O p] w λen w'=>∃a cap,en=gU (gK a A.X.iX.length cap)/\w'.ownsRow w.heap.size 3 1 (gK a A.X.iX.length cap) A.X.iX.length (A.X.iX.map λ(n:Nat)=>I (n:Int))/\Bl w w'):=by obtain⟨VC,hK⟩:=bi;exact Da hK hx.pl a6
 have b4:Hid (A.X.iX=[]->∀Wm,Bl w Wm->iU 25 #[O p,I 0,I 0] Wm λen w'=>en=gU (I 7)/\w'=Wm):=by intro he Wm hb;obtain⟨VC,hK⟩:=bi.bl hb (fz:=cP) λ_ _=>rfl;have:=Ah 0 0 7 (λw'=>w'=Wm) (L9 hK a6 0 (om he) 0);exact this
 have am:=BQ hx.a;obtain⟨L,T⟩:=gG A.X.iX;have bm:Hid (A.up=true->∀n∈L,∃q d,W.gF[q]?=some d/\d.a=i/\d.b=n/\d.kind=1/\d.fin=0/\∀(k:Nat) c,k<q->W.gF[k]?=some c->¬(c.a=i/\c.b=n)):=λhu n hn=>BG hW hA hu (jf T hn);have fd:L.length<=8:=by rw[<-T];unfold Cx.iX;rw[ay];exact aF (bF _ _) hx.pl
 have bd:Hid (∀n∈L,n<=1000000000):=λn hn=>by rw[<-T]at hn;obtain⟨c,dn,rfl⟩:=aD.1 hn;have e1:=hx.a.lt c (aU.1 dn).1;have e2:(A.X.e.length:Int)<=W.gF.length:=hx.i;omega
 rw[T]at bl b4 am;have a7:W.jK a which t=if A.up=true/\L≠[]then(W.oR i A (L.getD (ju which L.length) 0) t).jx else W:=by unfold Wd.jK;rw[hi,hA];dsimp only;rw[T]
 obtain⟨up,bn⟩:=gG A.up;rw[bn]at d2 a7 bm;obtain⟨H,g5,Hs⟩:=iI (And.intro h (And.intro hW (And.intro hA (And.intro ag T)))) bn am;clear h hW hA ag bi hx a6 bn am T Z al hi;rw[a7];clear a7
 cases up with
 |false=>rw[az (λe=>mR e)];go_enter func29,ntmps29;go_wp2_with(first|(go_at_call 15;refine gS (b3 _) λw' P=>?_;have P:=P.symm;subst P));go_ret;exact⟨rfl,cP,j4.refl,⟨_,H.1⟩⟩
 |true=>
 generalize c1:(if true=true/\L≠[]then(W.oR i A (L.getD (ju which L.length) 0) t).jx else W)=WR;have c2:=gN c1;clear c1;go_enter func29,ntmps29;go_upto_region 5 with(first|(go_at_call 15;refine gS (b3 _) λw' P=>?_;have P:=P.symm;subst P)|(go_at_call 24;refine bl.L ?_;rintro en w1⟨wa,be,rfl,c3,c4⟩;obtain⟨ds,dt⟩:=gO c4 c3;clear c4 c3));clear bl b3;go_wp2;go_loopw[11](λj wr=>∃k:Nat,k<=L.length/\j=I k/\Hid (Bl w1 wr)) λj _=>L.length-(Go.RowKit.intOf j).toNat
 case atStart=>exact⟨0,jR,rfl,jZ⟩
 obtain⟨k,hk,rfl,HB⟩:=hrel;have bW:=ds.H HB;have a8:=(jY HB).jH dt λ_ _ e=>e;by_cases jt:k<L.length
 .have ff:(k:Int)<(L.length:Int):=C;obtain⟨nk,b5⟩:=nS jt;obtain⟨q,d,q1,q2,q3,q4,q5,q6⟩:=bm (by first|rfl|trivial) nk (aR b5);have c6:=gN (MJ (H.1.bl (fz:=cP) bW λ_ _=>rfl) (by show W.gF.length<=_;omega) q1 q2 q3 q4 q5 q6);obtain⟨gl,c8,dv,e1,_,b6,e4,_⟩:=(show nh wr (λ_=>0) 0 3 1 (mP wa L be) L.length (L.map λ(n:Nat)=>I (n:Int))from⟨iE a8 λ_ _=>jR,λ_ _=>rfl⟩).block C;simp only[bO,ZU]at e1;obtain⟨rfl,rfl⟩:=e1;have a9:∀(jj n:Nat),L[jj]?=some n->wr.cell? (U gl jj)=some (I (n:Int)):=λjj n hn=>by have g6:=(aj.1 hn).1;have:=a8.cellAt jj C;rwa[aK,hn]at this
  have x0:=a9 k nk b5;have bo:=gN a9;have dw:=bd nk (aR b5);clear q1 q2 q3 q4 q5 q6 a8 bW e4 a9;by_cases dO:k=0
  .subst dO;go_upto_region 9 with(go_at_call 56;refine jA c6 λw2 bp=>?_);go_quiet(fail);go_wp2;exact⟨⟨1,C,iq,(HB.H bp).drewN _⟩,iD⟩
  obtain⟨nl,bq⟩:∃nl,L[k-1]?=some nl:=⟨_,ah C⟩;have ea:nl<nk:=by obtain⟨b1,f1⟩:=aj.1 bq;obtain⟨b2,f2⟩:=aj.1 b5;have:=dE.1 Hs (k-1) k b1 b2 C;rwa[f1,f2]at this
  have x1:=bo (k-1) nl bq;have fi:0<k:=C;have cd:(0:Int)<(k:Int):=C;have g7:decide ((0:Int)<(k:Int))=true:=je cd;have bs:IntKind.i64.wrap ((k:Int)-1)=((k-1:Nat):Int):=zI;have cf:((k-1:Nat):Int)<(L.length:Int):=C;have eb:¬((nk:Int)<=(nl:Int)):=C;have fl:decide ((nk:Int)<=(nl:Int))=false:=je eb;obtain⟨km,cg⟩:=gG (k-1);rw[cg]at x1 bs cf;clear cg bq ea;go_upto_region 9 with(go_at_call 56;refine gS c6 λw2 a0=>?_;have bp:=gN a0;obtain⟨g8,g9⟩:=a0.D b6 x0 x1;have fn:=af b6 a0.lt;clear a0);go_quiet(fail);go_wp2;exact⟨⟨k+1,C,iq,(HB.H bp).drewN _⟩,iD⟩
 have ci:¬((k:Int)<(L.length:Int)):=C;have HX:Hid (kM wr (ir cP w.heap.size 9) g W ⟨pv,gK (G ab) W.ac.length ac,lv,gK ca W.gF.length cc,gK ha W.mC.length hc,mv,ps,aw,ls,cs,tp⟩):=H.1.bl (fz:=ir cP w.heap.size 9) bW λb hb=>gV _ _ _ _ hb;have bv:Hid (j4 Pg w cP wr (ir cP w.heap.size 9)):=j4.D bW 9;have ec:=(bW.cell c0).H d1;have ee:=(bW.cell lg).H c5;have ck:=af c0 bW.lt;have an:=HX.lt;by_cases bw:L.length=0
 .have ap:L=[]:=aW.1 bw;have HG:=gN (b4 ap wr bW);have cl:(L.length:Int)=0:=C;have HR:Hid (W=WR):=by unfold Hid;rw[<-c2.o,az (λe=>e.2 ap)]
  clear bW a8 ap b4 ci;rw[bw];go_wp2_with(first|(go_at_call 25;refine gS HG λw' P=>?_;have P:=P.symm;subst P));go_ret;rw[<-HR.o];exact⟨rfl,_,bv,⟨_,HX⟩⟩
 have ef:0<L.length:=C;have cl:¬((L.length:Int)=0):=C;obtain⟨kk,b7⟩:=gG (ju which L.length);have eg:kk<L.length:=by rw[<-b7];exact qO which ef
 have al:pk which L.length=(kk:Int):=by have:=mO which L.length C;rw[<-b7];unfold ju;omega
 have bx:=gN λWm=>nT which L.length Wm bE.1 bE.2 C C;rw[al]at bx;obtain⟨nn,b8⟩:=nS eg;have cn:L.getD (ju which L.length) 0=nn:=by rw[b7,aS,b8];rfl
 have HR:Hid ((W.oR i A nn t).jx=WR):=by unfold Hid;rw[<-c2.o,aE ⟨by first|trivial|rfl,λe=>bw (by rw[e];rfl)⟩,cn]
 have a2:=aR b8;have dw:=bd nn a2;have co:=gN a2;obtain⟨gl,c8,dv,e1,_,b6,e4,_⟩:=(show nh wr (λ_=>0) 0 3 1 (mP wa L be) L.length (L.map λ(n:Nat)=>I (n:Int))from⟨iE a8 λ_ _=>jR,λ_ _=>rfl⟩).block C;simp only[bO,ZU]at e1;obtain⟨rfl,rfl⟩:=e1;have x0:wr.cell? (U gl kk)=some (I (nn:Int)):=by have:=a8.cellAt kk C;rwa[aK,b8]at this
 have ga:(kk:Int)<(L.length:Int):=C;obtain⟨ei,aq,hA,ag,T⟩:=H.o;have cq:=zn aq hA (n:=nn) (jf T a2) t;obtain⟨f,hf⟩:=gG ((λc=>if c.a=i/\c.b=nn then{c with A:=c.A++[t]}else c):Kl->Kl);have cr:∀c:Kl,(c.a=i/\c.b=nn)->f c={c with A:=c.A++[t]}:=λc hc=>by rw[<-hf];simp only[aE hc]
 have ct:∀c:Kl,¬(c.a=i/\c.b=nn)->f c=c:=λc hc=>by rw[<-hf];simp only[az hc]
 have Hf:=nJ hf cr ct;have ej:Hid (∀c∈W.gF,c.A.length<=3000000000):=λc hc=>by have:=(aq.ca c hc).tk;omega
 have gb:Hid (∀(Wm:World) (ar:Nat->Nat),Cl Wm ar (100+32*i) p qb A.X->iU 25 #[O p,I nn,I t] Wm λen w'=>en=gU (I 0)/\CS Wm ar (100+32*i) p qb (A.X.jK nn t) w'):=λWm ar ek=>LO aq ⟨C,hC⟩ hA (jf T a2) t ek;have el:=gN cq;have gc:=aq.hd;obtain⟨gd,fu⟩:=gG W.gF.length;clear bW a8 b4 ci al cn a2 b8 hf cr ct cq ei aq ag T e4 bm b7;go_upto_region 14 with(go_at_call 15;refine gS (bx _) λw' P=>?_;have P:=P.symm;subst P);clear bx x0 b6;go_wp2;go_loopw[14](λj wx=>∃(k:Nat) (fz:Nat->Nat) (au:List Value),k<=W.gF.length/\j=I k/\Hid (j4 Pg w cP wx fz)/\Hid (kM wx fz g {W with gF:=pQ f W.gF k} ⟨pv,gK (G ab) W.ac.length ac,lv,gK ca W.gF.length cc,gK ha W.mC.length hc,mv,ps,aw,ls,au,tp⟩)) λj _=>W.gF.length-(Go.RowKit.intOf j).toNat
 case atStart=>exact⟨0,_,cs,jR,rfl,bv,by rw[Kg];exact HX⟩
 clear HX bv ee ec ck an;obtain⟨j,fz,au,hj,rfl,aY,Y⟩:=hrel;obtain⟨c7,c9⟩:=Y.R 7 9 rfl;have an:=Y.lt;by_cases cx:j<W.gF.length
 .have ge:(j:Int)<(W.gF.length:Int):=C;obtain⟨x,a3⟩:=nS cx;have hx:(pQ f W.gF j)[j]?=some x:=by rw[Gn f W.gF j cx];exact a3
  have a4:=Y.ca.row;simp only[CG f W.gF j hj]at a4;obtain⟨cb,rfl,_,cS,ai,b9⟩:=a4.cells C;obtain⟨tv,rv,e0,e1,e2,e3,e4,e5,e6,e7,e8,e9,bA,ad,bB⟩:=Y.ca.c j x hx;have d0:=(ai (j*11) C).H e0;have em:=(ai (j*11+1) C).H e1;have d5:=(ai (j*11+5) C).H e5;have f5:=b9 (j*11+5);have gi:=gN a3;by_cases a5:x.a=i/\x.b=nn
  .obtain⟨ta,tc,rfl⟩:=ad.D;obtain⟨HT,ep⟩:=gO ad e5;have cV:Hid ((gK ta x.A.length tc).ownBlock≠some cb):=λe=>by have t1:=ad.cP cb e;have t2:=Y.ca.row.cP cb rfl;omega
   have eq:Hid ((gK ta x.A.length tc).ownBlock≠some g):=λe=>by have t1:=ad.cP g e;have t2:=Y.tg;omega
   have gj:=ej x (aR a3);have bC:Hid (x.A.length+1<=maxLen):=nZ;have a0:Hid ((x.A.length+1)*8<=140737488355328):=nC;have er:Hid (pQ f W.gF (j+1)=(pQ f W.gF j).set j {x with A:=x.A++[t]}):=by unfold Hid;rw[zD a3,Hf.2.1 x a5]
   have Hx:=gN hx;rw[a5.1]at d0;rw[a5.2]at em;clear ai b9 e0 e1 e2 e3 e4 e5 e6 e7 e8 e9 bA ad bB a4 hx a3 a5;go_upto_region 18 with fail;go_region_law
    ((refine step_append_lies _ ko _ _ _ ko 0 3 i3 _ 1 8 underlying24 j3 r0 r1 r2 rfl C _ x.A.length (x.A.map I) ko ((HT.ij.alloc _).drew) (U wr.heap.size 0) 1 1 [I t] ko ko (fW (cs:=#[I t]) (t:=3) (fr:=(0,0)) (ao wr _)) tx C bC a0 bz (wr.heap.size+1) bz ?_;intro gg cp w6 F y M S;have gm:=(C4 (((Bl.refl wr).alloc _).drew) y (o:=j*11+5) cS cV).1.H d5;have gn:=(C4 (((Bl.refl wr).alloc _).drew) y (o:=j*11+5) cS cV).2.H f5;have go:=(C4 (((Bl.refl wr).alloc _).drew) y (o:=7) an eq).1.H c7;have es:g<w6.heap.size:=(by have:=y.size;simp at this;omega);have fv:cb<w6.heap.size:=(by have:=y.size;simp at this;omega);have ba:=oH F y M S;clear F y M S))
   all_goals(go_wp2_with fail)
   all_goals
    obtain⟨F,y,M,S⟩:=ba.o;obtain⟨d3,p1,p2⟩:=Y.UQ (cb:=cb) (len:=W.gF.length) (cc:=cc) rfl (CG f W.gF j hj) Hx ep (((Bl.refl wr).alloc (ig #[I t] 3)).drew) (gg:=gg) (cp:=cp) F y (M.imp (λe=>e) λe=>C);simp only at p2;rw[<-er.o]at p2;exact⟨⟨j+1,d3,_,C,iq,aY.H (p1.L λs e=>by unfold Pg;omega),p2⟩,iD⟩
  have d4:Hid (pQ f W.gF (j+1)=pQ f W.gF j):=R6 a3 (Hf.2.2 x a5);by_cases bb:x.a=i
  .have eu:¬((x.b:Int)=(nn:Int)):=λe=>a5 ⟨bb,C⟩;rw[bb]at d0;clear ai b9 e0 e1 e2 e3 e4 e5 e6 e7 e8 e9 bA ad bB a4 hx a3 a5 bb;go_wp2;exact⟨⟨j+1,fz,au,C,iq,aY,jf d4.o Y⟩,iD⟩
  have eu:¬((x.a:Int)=(i:Int)):=C;clear ai b9 e0 e1 e2 e3 e4 e5 e6 e7 e8 e9 bA ad bB a4 hx a3 a5 bb;go_wp2;exact⟨⟨j+1,fz,au,C,iq,aY,jf d4.o Y⟩,iD⟩
 have fw:¬((j:Int)<(W.gF.length:Int)):=C;have d6:j=W.gF.length:=C;have ak:=Y.o;rw[d6,Nw]at ak;have d7:=gN ak;have hh:=ak.ha;have d8:Hid ((gK ha W.mC.length hc).ownBlock≠some g):=gW hh.ij ak.hg bT;have f9:=ak.N 9;have HH:=gN hh;have bC:Hid (W.mC.length+1<=maxLen):=nZ;have a0:Hid ((W.mC.length+1)*8<=140737488355328):=nC;clear hh Y ak d6;go_upto_region 19 with fail;go_upto_region 20 with(at_builtin;refine fm _ rfl _ _ 24 rfl 0 3 i3 (I 0) 1 8 underlying24 j3 r0 r1 r2 rfl bT _ W.mC.length (W.mC.map I) rfl (HH.ij.alloc _) (U wr.heap.size 0) 1 1 [I t] rfl rfl (Tr _ _ _) tx bT bC a0 bz (wr.heap.size+1) bz ?_;intro gg cp w6 F y M S;have ev:=(C4 ((Bl.refl wr).alloc _) y (o:=9) an d8).1.H c9;have ew:=(C4 ((Bl.refl wr).alloc _) y (o:=9) an d8).2.H f9;have es:g<w6.heap.size:=(by have:=y.size;simp at this;omega);have ba:=oH F y M S;clear F y M S);obtain⟨F,y,M,S⟩:=ba.o;obtain⟨d9,k7,h7⟩:=kM.Uu (V:=⟨pv,gK (G ab) W.ac.length ac,lv,gK ca W.gF.length cc,gK ha W.mC.length hc,mv,ps,aw,ls,au,tp⟩) d7 ((Bl.refl wr).alloc (ig #[I t] 3)) (gg:=gg) (cp:=cp) F y (M.imp (λe=>e) λe=>C);obtain⟨W7,bc⟩:=gG (w6.setCell (U g 9) (gK (G gg) (W.mC.length+1) cp));rw[bc]at k7;simp only at h7;rw[bc]at h7;rw[bc];have h8:=h7.uS (a:=W.jl+1) rE;have ex:({W with jl:=W.jl+1,gF:=W.gF.map f,mC:=W.mC++[t]}:Wd)=({W with jl:=W.jl+1}:Wd).CP i nn t:=by unfold Wd.CP;rw[<-Hf.1]
 simp only at h8;rw[ex]at h8;have c5:=h8.cellAt 5 rfl;have gq:=h8.lt;obtain⟨gr,da,_,g0,Z,_⟩:=h8.D.row.cells (by show 0<W.ac.length;omega);simp only[aJ,Z0,ZS]at da;subst da;have a1:=(Z (i*3+1) (by show i*3+1<W.ac.length*3;omega)).H H.2.2.2.1.2.1;obtain⟨p7,gs,b0,bg⟩:=h8.D.ac i A H.2.2.1;have ez:p7=p:=by have e1:=b0.2.1.symm.H H.2.2.2.1.2.1;simpa using e1
 subst ez;have f0:=gN (LO (w:=W7) (cP:=d9) H.2.1 ⟨C,hC⟩ H.2.2.1 (n:=nn) (jf H.2.2.2.2 co) t bg);have H7:=nI h8 b0;have f3:=gN (aY.H (k7.L (Q:=Pg) λs e=>by unfold Pg;omega));clear F y M S ba k7 h7 h8 bc Z ev ew c7 c9 f9 d7 aY HH bg b0;go_wp2_with(first|(go_at_call 25;refine gS f0 λw8 db=>?_;obtain⟨g1,k8,dc⟩:=db.A;have dd:=H7.1.pN k8 H.2.2.1 H7.2 dc;have f4:=gN (uB dd el (by show W.jl+1+1<=_;omega) (by show(W.gF.map _).length<=_;rw[ay];omega));have f6:=gN (f3.H (k8.L (Q:=Pg) λs e=>by unfold Mc at e;unfold Pg;omega));clear db dd k8 dc)|(go_at_call 53;refine f4.L ?_;rintro en w9⟨rfl,dg,k9,h9⟩;obtain⟨f7,f8⟩:=gO k9 h9;clear k9 h9));go_ret;rw[<-HR.o];exact⟨rfl,dg,f6.H (f7.L λs e=>by unfold T8 at e;unfold Pg;omega),f8⟩
def mL(l:List Int)(t:Nat):Bool:=l.any λx=>x==(t:Int)
def Wd.mM(W:Wd):Nat:=((List.range W.lQ).find? λt=> !(mL W.mC t)).getD W.lQ
def RE(y:k<W.lQ)(h:∀t,t<k->mL W.mC t=true)(F:mL W.mC k=false):W.mM=k:=by unfold Wd.mM;rw[(List.find?_range_eq_some (p:=λt=> !(mL W.mC t)) (i:=k)).2 ⟨mZ F,di.2 y,λj H=>by simp[h j H]⟩];rfl
def Nh(h:∀t,t<W.lQ->mL W.mC t=true):W.mM=W.lQ:=by unfold Wd.mM;rw[bU.2 λt j=>by simp[h t (di.1 j)]];rfl
def Oy{t:Nat}{x:Int}(h:l[m]?=some x):mL (l.take (m+1)) t=(mL (l.take m) t||x==(t:Int)):=by obtain⟨j,rfl⟩:=aj.1 h;unfold mL;rw[aM j,fB];simp
theorem MI(h:kM w cP g W V)(hk:Wk W)(hl:W.mC.length<=1000000000000):Calls prog 36 #[O g] w λen w'=>en=.returned (I W.mM)/\Bl w w':=by
 obtain⟨ha,hc,T⟩:=h.ha.D;have P:=h.ha;rw[T]at P;have c9:w.cell? (U g 9)=some (gK ha W.mC.length hc):=by rw[<-T];exact h.cellAt 9 rfl
 have lg:=h.lt;have a3:∀(m:Nat) (x:Int),W.mC[m]?=some x->∃hb,ha=G hb/\hb<w.heap.size/\w.cell? (U hb m)=some (I x):=λm x Y=>by have hm:=(aj.1 Y).1;obtain⟨hb,e1,_,e2,e3,_⟩:=P.cells C;refine⟨hb,e1,e2,(e3 m C).H ?_⟩;rw[aK,Y];rfl
 have S:=LL hk.n1.2 hk.c1.2;have ec:((W.lQ:Nat):Int)=(W.n:Int)*W.ce:=by show((W.n*W.ce:Nat):Int)=_;simp
 have a4:W.lQ<=48:=S;have Z:Hid (∀Wm,Bl w Wm->Calls prog 27 #[O g] Wm λen w'=>en=.returned (I (W.lQ:Nat))/\Bl Wm w'):=λWm hb=>by have:=xN (h.bl (fz:=cP) hb λ_ _=>rfl) hk;rwa[<-ec]at this
 have ab:=gN a3;have a0:Hid (∀k,k<W.lQ->(∀t,t<k->mL W.mC t=true)->mL W.mC k=false->W.mM=k):=λk a b c=>RE a b c;have a1:Hid ((∀t,t<W.lQ->mL W.mC t=true)->W.mM=W.lQ):=λa=>Nh a;have a5:Hid (∀t,mL (W.mC.take W.mC.length) t=mL W.mC t):=λt=>by rw[bZ]
 obtain⟨TT,a6⟩:=gG W.lQ;rw[a6]at Z a4 a0 a1;obtain⟨FR,a7⟩:=gG W.mM;rw[a7]at a0 a1|-;clear h hk P a3 S ec a6 a7 T;go_enter func36,ntmps36;go_wp2_with fail;go_loopw[3](λt wr=>∃k:Nat,k<=TT/\t=I k/\Hid (Bl w wr/\∀t,t<k->mL W.mC t=true)) λt _=>TT-(Go.RowKit.intOf t).toNat
 case atStart=>exact⟨0,jR,rfl,jZ,λt ht=>absurd ht C⟩
 obtain⟨k,hk,rfl,HI⟩:=hrel;have ac:=gN (Z wr HI.1);by_cases jt:k<TT
 .have an:(k:Int)<(TT:Int):=C;go_wp2_with(go_at_call 27;refine ac.L ?_;rintro en w2⟨rfl,a8⟩;have F:=gN (HI.1.H a8);clear a8);have ar:=(F.cell lg).H c9;have au:=af lg F.lt;go_loopw[4,5](λb j wx=>∃m:Nat,m<=W.mC.length/\b=.bool (mL (W.mC.take m) k)/\j=I m/\wx=w2) λ_ j _=>W.mC.length-(Go.RowKit.intOf j).toNat
  case atStart=>exact⟨0,jR,by simp[mL],rfl,rfl⟩
  obtain⟨m,hm,rfl,rfl,rfl⟩:=hrel;by_cases ad:m<W.mC.length
  .have ag:(m:Int)<(W.mC.length:Int):=C;obtain⟨x,Y⟩:=nS ad;obtain⟨hb,rfl,a9,ai⟩:=ab m x Y;have ap:=(F.cell a9).H ai;have aq:=af a9 F.lt;have M:=Oy (t:=k) Y
   cases y:mL (W.mC.take m) k with
   |true=>rw[y]at M;have Q:=gN M;clear M y Y;go_wp2;exact⟨⟨m+1,C,by rw[Q.o];rfl,iq,by trivial⟩,iD⟩
   |false=>
    rw[y]at M;have Q:=gN M;clear M y Y;by_cases ak:x=(k:Int)
    .subst ak;go_wp2;exact⟨⟨m+1,C,om Q.o,iq,by trivial⟩,iD⟩
    go_wp2;exact⟨⟨m+1,C,om Q.o,iq,by trivial⟩,iD⟩
  have ag:¬((m:Int)<(W.mC.length:Int)):=C;have al:m=W.mC.length:=C;subst al;rw[a5.o k]
  cases y:mL W.mC k with
  |true=>
   have Hb:=gN y;clear y;go_wp2;exact⟨⟨k+1,C,iq,F,λt ht=>by
    by_cases e:t=k
    .rw[e];exact Hb
    .exact HI.2 t C⟩,iD⟩
  |false=>have Hb:=gN y;clear y;go_wp2;go_ret;exact⟨by rw[a0.o k jt HI.2 Hb.o];rfl,F⟩
 have av:¬((k:Int)<(TT:Int)):=C;have am:k=TT:=C;subst am;go_wp2_with(go_at_call 27;refine(Z _ ?hb).L ?_;(case hb=>first|exact HI.1|exact a2);rintro en w3⟨rfl,aa⟩;have a2:Hid (Bl w w3):=Bl.H (by first|exact HI.1|exact a2) aa;clear aa);go_ret;exact⟨by rw[a1.o HI.2];rfl,a2⟩
namespace Wd
def kJ(W:Wd)(i:Nat):Nat->Wd
 |0=>W
 |k+1=>(W.kJ i k).jK i 0 (W.kJ i k).mM
def j0(W:Wd)(i:Nat):Wd:=match W.ac[i]? with
 |none=>W
 |some A=>if A.up then(W.pN i A.X.kG).kJ i A.X.kG.iX.length else W
def iT(W:Wd)(k:Nat):Wd:=(List.range k).foldl j0 W
def round(W:Wd):Wd×Bool:=(W.iT W.ac.length).lj 300
end Wd
structure Kp(d:Nat)(W W':Wd):Prop where
 k:Wk W'
 jl:W'.jl<=W.jl+d
 cl:W'.gF.length=W.gF.length
 ms:W'.iP=W.iP
 b:W'.ac.length=W.ac.length
 s:W'.n=W.n/\W'.m=W.m/\W'.v=W.v/\W'.ce=W.ce
def Kp.refl(h:Wk W):Kp 0 W W:=⟨h,jr,rfl,rfl,rfl,rfl,rfl,rfl,rfl⟩
def Kp.H{d e:Nat}(h:Kp d W W')(k:Kp e W' W2):Kp (d+e) W W2:=⟨k.k,by have:=h.jl;have:=k.jl;omega,k.cl.H h.cl,k.ms.H h.ms,k.b.H h.b,k.s.1.H h.s.1,k.s.2.1.H h.s.2.1,k.s.2.2.1.H h.s.2.2.1,k.s.2.2.2.H h.s.2.2.2⟩
def Kp.L{d e:Nat}(h:Kp d W W')(j:d<=e):Kp e W W':=⟨h.k,gM h.jl,h.cl,h.ms,h.b,h.s⟩
def FZ(W:Wd)(a which t):(W.jK a which t).n=W.n/\(W.jK a which t).m=W.m/\(W.jK a which t).v=W.v/\(W.jK a which t).ce=W.ce:=by
 obtain e|⟨A,n,_,_,_,e⟩:=nG W a which t
 .rw[e];exact⟨rfl,rfl,rfl,rfl⟩
 rw[e];exact⟨rfl,rfl,rfl,rfl⟩
def Kp.jK(h:Wk W)(a which t):Kp 2 W (W.jK a which t):=by obtain⟨j,y,F,H,L,_⟩:=wM h a which t;exact⟨j,y,F,H,L,FZ W a which t⟩
theorem Kp.kJ(h:Wk W)(i):∀k,Kp (2*k) W (W.kJ i k)
 |0=>Kp.refl h
 |k+1=>(Kp.kJ h i k).H (Kp.jK (Kp.kJ h i k).k _ _ _)
def Kp.kG(h:Wk W)(j:W.ac[i]?=some A):Kp 1 W (W.pN i A.X.kG):=
 ⟨h.pN j (h.ac i A j).kG,jr,rfl,rfl,cy ..,rfl,rfl,rfl,rfl⟩
def CY(h:X.a.length<=8):X.iX.length<=8:=by unfold Cx.iX;rw[ay];exact aF (bF _ _) h
def L0(h:Wk W)(j:W.ac[i]?=some A):A.X.kG.a.length<=8:=((h.ac i A j).kG).1.pl
def Kp.j0(h:Wk W)(i):Kp 17 W (W.j0 i):=by
 unfold Wd.j0;split
 .exact(Kp.refl h).L C
 rename_i A j;split
 .have y:=Kp.kG h j;have:=CY (L0 h j);exact(y.H (Kp.kJ y.k i _)).L C
 exact(Kp.refl h).L C
def lZ(W:Wd)(k):W.iT (k+1)=(W.iT k).j0 k:=by unfold Wd.iT;rw[dp,dN];rfl
theorem Kp.iT(h:Wk W):∀k,Kp (17*k) W (W.iT k)
 |0=>Kp.refl h
 |k+1=>by rw[lZ];exact(Kp.iT h k).H (Kp.j0 (Kp.iT h k).k k)
def Pr(t:Nat):Prop:=Pw t\/Pg t
theorem Cr(h:kM w cP g W V)(hW:Wk W)(hS:W.jl+136+2422*300<=3000000000)(hC:W.gF.length<=9999999)(an:KZ W.iP)(ap:0<W.ac.length):iU 37 #[O g] w λen w'=>en=gU (.bool W.round.2)/\∃fz,j4 Pr w cP w' fz/\Wx w' fz g W.round.1:=by
 have bq:=h.an;have HT:Hid (∀k,k<=W.ac.length->Kp (17*k) W (W.iT k)):=λk _=>Kp.iT hW k;obtain⟨H,b9⟩:=gO h an;clear h hW an;go_enter func37,ntmps37;go_wp2_with fail;go_loopw[3](λi wr=>∃(k:Nat) (fz:Nat->Nat) (V':WV),k<=W.ac.length/\i=I k/\Hid (j4 Pr w cP wr fz)/\Hid (kM wr fz g (W.iT k) V')) λi _=>W.ac.length-(Go.RowKit.intOf i).toNat
 case atStart=>exact⟨0,cP,V,jR,rfl,j4.refl,H⟩
 clear H;obtain⟨k,fz,V',hk,rfl,HK,HX⟩:=hrel;have M:=gN (HT k hk);obtain⟨aa,ac,a7⟩:=HX.D.row.D;have c5:=HX.cellAt 5 rfl;rw[a7,M.b]at c5;have bs:=HX.lt;by_cases jt:k<W.ac.length
 .have bn:(k:Int)<(W.ac.length:Int):=C;obtain⟨A,hA⟩:∃A,(W.iT k).ac[k]?=some A:=⟨_,ah (by rw[M.b];exact jt)⟩;have S:=HX.D.row;rw[a7,M.b]at S;obtain⟨ab,rfl,_,bv,T,_⟩:=S.cells C;obtain⟨p,qb,a1,aq⟩:=HX.D.ac k A hA;have d1:=(T (k*3+1) C).H a1.2.1;have d2:=(T (k*3+2) C).H a1.2.2;have ar:Sw (W.iT k):=⟨gM M.jl,by rw[M.cl];exact hC⟩;have a8:=gN (GM HX M.k ar hA a1 aq);have y:W.iT (k+1)=(W.iT k).j0 k:=lZ W k;unfold Wd.j0 at y;rw[hA]at y;dsimp only at y;obtain⟨up,au⟩:=gG A.up;rw[au]at d2 y;have HA:=gN hA;clear T S a1 aq a7 au hA ar
  cases up with
  |true=>
   rw[aE rfl]at y;obtain⟨W2,a2⟩:=gG ((W.iT k).pN k A.X.kG);have a3:Kp (17*k+1) W W2:=by rw[<-a2];exact M.H (Kp.kG M.k HA)
   have a4:W2.ac[k]?=some {A with X:=A.X.kG}:=by rw[<-a2];show((W.iT k).ac.modify k _)[k]?=_;rw[bS,HA.o];simp
   have av:=CY (L0 M.k HA);rw[a2]at y a8;have a9:=(a3.k.ac k _ a4).x;have ad:Hid (A.X.kG.a.length<=8/\∀c∈A.X.kG.a,c.q.nodes.length<=100):=⟨a9.pl,λc hc=>by have:=(a9.f c hc).q.nl;omega⟩;obtain⟨XT,aw⟩:=gG A.X.kG;rw[aw]at y av a4 ad;have HG:Hid (∀j,j<=XT.iX.length->Kp (17*k+17) W (W2.kJ k j)):=λj hj=>(a3.H (Kp.kJ a3.k k j)).L C;obtain⟨ag,ba⟩:=gO y a4;clear y a3 a4 a2 a9 aw;go_upto_region 6 with(go_at_call 57;refine a8.L ?_;rintro en w5⟨rfl,Y,k5,h5⟩;obtain⟨ai,P⟩:=gO k5 h5;clear k5 h5);obtain⟨p5,bw,a5,a6⟩:=P.D.ac k _ ba;have aY:Hid (iU 24 #[O p5] w5 λen w'=>∃a cap,en=gU (gK a XT.iX.length cap)/\w'.ownsRow w5.heap.size 3 1 (gK a XT.iX.length cap) XT.iX.length (XT.iX.map λ(n:Nat)=>I (n:Int))/\Bl w5 w'):=by obtain⟨VC,hK⟩:=a6;exact Da hK ad.1 ad.2
   obtain⟨bx,bA,Z⟩:=P.D.row.D;have ak:W2.ac.length=W.ac.length:=(HG 0 jR).b;have bb:=P.cellAt 5 rfl;rw[Z,ak]at bb;have Q:=P.D.row;rw[Z,ak]at Q;obtain⟨bB,rfl,_,bo,a0,_⟩:=Q.cells C;have e1:=(a0 (k*3+1) C).H a5.2.1;have bC:=P.lt;clear a0 Q a5 a6 Z ak a8 c5 d1 d2;obtain⟨nw,b0⟩:=gG XT.iX.length;rw[b0]at aY av HG;go_upto_region 7 with(go_at_call 24;refine aY.L ?_;rintro en w6⟨wa,bp,rfl,_,b1⟩;have b2:=gN b1;clear b1);go_wp2;go_loopw[5](λt wx=>∃(j:Nat) (F:Nat->Nat) (Vj:WV),j<=nw/\t=I j/\Hid (j4 Pr w cP wx F)/\Hid (kM wx F g (W2.kJ k j) Vj)) λt _=>nw-(Go.RowKit.intOf t).toNat
   case atStart=>exact⟨0,Y,_,jR,rfl,(HK.H (ai.L λt e=>.inl (by unfold Mc at e;unfold Pw;omega))).H (j4.A b2 λ_ _=>rfl),P.bl b2 λ_ _=>rfl⟩
   obtain⟨j,F,Vj,hj,rfl,b3,al⟩:=hrel;by_cases bD:j<nw
   .have bc:(j:Int)<(nw:Int):=C;have kj:=HG j hj;have HF:=gN (MI al kj.k (by have:=kj.k.hd;have:=kj.jl;omega));have b4:=kj.jl;have b5:Hid (∀w7,Bl wr w7->iU 29 #[O g,I k,I 0,I (W2.kJ k j).mM] w7 λen w'=>en=gU (.bool true)/\∃fz,j4 Pg w7 F w' fz/\Wx w' fz g (W2.kJ k (j+1))):=λw7 bd=>GI (al.bl (fz:=F) bd λ_ _=>rfl) kj.k C (by rw[kj.cl];exact hC) k 0 _ ⟨C,C⟩ ⟨C,C⟩ (by rw[kj.b];exact ap);obtain⟨fr,b6⟩:=gG ((W2.kJ k j).mM);rw[b6]at HF b5;clear kj b6;go_wp2_with(first|(go_at_call 36;refine jA HF λw7 b7=>?_)|(go_at_call 29;refine(b5 _ b7).L ?_;rintro en w8⟨rfl,b8,k8,h8⟩;obtain⟨be,bg⟩:=gO k8 h8;clear k8 h8));obtain⟨V8,h8⟩:=bg.o;exact⟨⟨j+1,b8,V8,C,iq,(b3.H (j4.A (fz:=F) b7 λ_ _=>rfl)).H (be.L λt e=>.inr e),h8⟩,iD⟩
   have bc:¬((j:Int)<(nw:Int)):=C;have bi:j=nw:=C;subst bi;go_wp2;exact⟨⟨k+1,F,Vj,C,iq,b3,by rw[ag.o,b0];exact al⟩,iD⟩
  |false=>rw[az bz]at y;have ag:=gN y;clear y;go_wp2;exact⟨⟨k+1,fz,V',C,iq,HK,jf ag.o HX⟩,iD⟩
 have bE:¬((k:Int)<(W.ac.length:Int)):=C;have bl:k=W.ac.length:=C;subst bl;have kk:=M.o;have b4:=kk.jl;have HE:=gN (wi (W:=W.iT W.ac.length) HX kk.k 300 jr C (by rw[kk.cl];exact hC) (by rw[kk.ms];exact b9) (by rw[kk.b];exact ap));have hb:Hid ((W.iT W.ac.length).lj 300=W.round):=rfl;rw[hb.o]at HE;clear hb kk;obtain⟨wb,am⟩:=gG W.round;rw[am]at HE;have bm:=gN am;clear am;go_wp2_with(go_at_call 58;refine HE.L ?_;rintro en w5⟨rfl,Y,k5,h5⟩;obtain⟨ai,P⟩:=gO k5 h5;clear k5 h5);go_ret;rw[bm.o];exact⟨rfl,Y,HK.H (ai.L λt e=>.inl e),P⟩
def Ft(W:Wd):Prop:=∀(i:Nat) (P:Pl),W.pl[i]?=some P->P.up=true\/P.nf=true
theorem RF(h:kM w cP g W V)(hW:Wk W)(hl:W.gF.length<=1000000000)(ha:Ft W):iU 69 #[O g] w λen w'=>en=gU (.bool true)/\Bl w w':=by
 obtain⟨ca,cc,M⟩:=h.ca.row.D;obtain⟨pa,pc,Q⟩:=h.b.row.D;have c7:w.cell? (U g 7)=some (gK ca W.gF.length cc):=by rw[<-M];exact h.cellAt 7 rfl
 have c4:w.cell? (U g 4)=some (gK pa W.pl.length pc):=by rw[<-Q];exact h.cellAt 4 rfl
 have lg:=h.lt;have a9:=h.a;have HC:Hid (∀(k:Nat) (c:Kl),W.gF[k]?=some c->∃cb,ca=G cb/\cb<w.heap.size/\w.cell? (U cb (k*11+2))=some (I c.kind)/\w.cell? (U cb (k*11+3))=some (I c.pos)/\w.cell? (U cb (k*11+8))=some (I c.r.wh)):=λk c L=>by have hk:=(aj.1 L).1;have Y:=h.ca.row;rw[M]at Y;obtain⟨cb,e1,_,e2,S,_⟩:=Y.cells C;obtain⟨tv,rv,f0,f1,f2,f3,f4,f5,f6,f7,f8,_⟩:=h.ca.c k c L;exact⟨cb,e1,e2,(S _ C).H f2,(S _ C).H f3,(S _ C).H f8⟩
 have HP:Hid (∀(i:Nat) (P:Pl),W.pl[i]?=some P->∃pb,pa=G pb/\pb<w.heap.size/\w.cell? (U pb (i*5))=some (I (jP W.n W.m i))/\w.cell? (U pb (i*5+3))=some (.bool P.up)/\w.cell? (U pb (i*5+4))=some (.bool P.nf)):=λi P T=>by have hk:=(aj.1 T).1;have Y:=h.b.row;rw[Q]at Y;obtain⟨pb,e1,_,e2,S,_⟩:=Y.cells C;obtain⟨gi,mk,⟨f0,f1,f2,f3,f4⟩,_⟩:=h.b.pl i P T;exact⟨pb,e1,e2,(S _ C).H f0,(S _ C).H f3,(S _ C).H f4⟩
 have HA:=gN ha;have a3:Hid (∀(k:Nat) (c:Kl),W.gF[k]?=some c->c.kind=1\/c.kind=2\/c.kind=5):=λk c L=>(hW.ca c (aR L)).kd;clear hW;clear h M Q ha;go_enter func69,ntmps69;go_wp2_with fail;go_loopw[3](λt wr=>∃k:Nat,k<=W.pl.length/\t=I k/\Hid (Bl w wr)) λt _=>W.pl.length-(Go.RowKit.intOf t).toNat
 case atStart=>exact⟨0,jR,rfl,jZ⟩
 obtain⟨i,hi,rfl,HB⟩:=hrel;have Z:=(HB.cell lg).H c4;have aa:=af lg HB.lt;by_cases jt:i<W.pl.length
 .have a8:(i:Int)<(W.pl.length:Int):=C;obtain⟨P,T⟩:=nS jt;obtain⟨pb,rfl,a0,p0,p3,p4⟩:=HP i P T;have F:=gN (HA i P T);generalize jP W.n W.m i=a1 at p0;generalize P.up=up at p3 F;generalize P.nf=nf at p4 F;clear T;go_wp2_with fail;go_loopw[4,5](λb j wx=>∃k:Nat,∃bb:Bool,k<=W.gF.length/\b=.bool bb/\j=I k/\Hid (Bl w wx)) λ_ j _=>W.gF.length-(Go.RowKit.intOf j).toNat
  case atStart=>exact⟨0,false,jR,rfl,rfl,HB⟩
  obtain⟨k,bb,hk,rfl,rfl,y⟩:=hrel;obtain⟨x4,x7⟩:=y.D lg c4 c7;have lx:=af lg y.lt;have ab:=af a0 y.lt;obtain⟨y0,y3,y4⟩:=y.M a0 p0 p3 p4;by_cases a4:k<W.gF.length
  .have a5:(k:Int)<(W.gF.length:Int):=C;obtain⟨c,L⟩:=nS a4;obtain⟨cb,rfl,a2,d2,d3,d8⟩:=HC k c L;have HK:=a3 k c L;generalize c.kind=ki at d2 HK;generalize c.pos=po at d3;generalize c.r.wh=wh at d8;obtain⟨z2,z3,z8⟩:=y.M a2 d2 d3 d8;have ac:=af a2 y.lt;clear L d2 d3 d8 p0 p3 p4 c4 c7 Z HP HC
   cases bb with
   |true=>clear HK;go_upto_region 8 with fail;go_quiet(fail);go_wp2;exact⟨⟨k+1,true,C,rfl,iq,y.drewN _⟩,iD⟩
   |false=>
    by_cases h5:ki=5
    .subst h5;clear HK;by_cases h1:wh=1
     .subst h1;by_cases hq:po=a1
      .subst hq;go_upto_region 8 with fail;go_quiet(fail);go_wp2;exact⟨⟨k+1,true,C,bz,iq,y.drewN _⟩,iD⟩
      have a6:decide (po=a1)=false:=by simp[hq]
      go_upto_region 8 with fail;go_quiet(fail);go_wp2;exact⟨⟨k+1,false,C,mZ hq,iq,y.drewN _⟩,iD⟩
     have a6:decide (wh=1)=false:=by simp[h1]
     go_upto_region 8 with fail;go_quiet(fail);go_wp2;exact⟨⟨k+1,false,C,bz,iq,y.drewN _⟩,iD⟩
    obtain a7:ki=1\/ki=2:=by have:=HK;omega
    clear h5 HK;obtain rfl|rfl:=a7;all_goals
     go_upto_region 8 with fail;go_quiet(fail);go_wp2;exact⟨⟨k+1,false,C,bz,iq,y.drewN _⟩,iD⟩
  have a5:¬((k:Int)<(W.gF.length:Int)):=C;clear p0 p3 p4 c4 c7 Z
  cases up with
  |true=>clear F;go_wp2;exact⟨⟨i+1,C,iq,y⟩,iD⟩
  |false=>obtain rfl:nf=true:=F.resolve_left bT;clear F;go_wp2;exact⟨⟨i+1,C,iq,y⟩,iD⟩
 have ad:¬((i:Int)<(W.pl.length:Int)):=C;go_wp2;go_ret;exact⟨rfl,HB⟩
def Pl.rest(P:Pl):Pl:=if P.up then P.jE else P
def Ac.gone(A:Ac):Ac:=if A.up then{A with X:=A.X.jE}else A
namespace Wd
def nA(W:Wd):Nat->Wd
 |0=>W
 |k+1=>(W.nA k).round.1
end Wd
theorem Ce(W:Wd):∀k,W.nA (k+1)=(W.round.1).nA k
 |0=>rfl
 |k+1=>by show(W.nA (k+1)).round.1=((W.round.1).nA k).round.1;rw[Ce W k]
structure xb(s s':St):Prop where
 ep:s.ep<=s'.ep
 ct:∀i,(s.ct i).kd≠0->s'.ct i=s.ct i
def xb.refl(s:St):xb s s:=⟨iG,λ_ _=>rfl⟩
def xb.H{s' s2:St}(h:xb s s')(k:xb s' s2):xb s s2:=⟨bt h.ep k.ep,λi j=>by rw[k.ct i (by rw[h.ct i j];exact j),h.ct i j]⟩
def cell(n:Nat)(a:Int):Nat:=(a/n).toNat
structure Lk(n ce:Nat)(ch a:Int):Prop where
 n1:1<=n
 a0:0<=a
 a1:a<n*ce
 ch:a%n=ch
def Lk.eq(h:Lk n ce ch a):(cell n a:Int)*n+ch=a:=by have j:0<=a/n:=fC h.a0 C;have e:_=a/n:=gE j;unfold cell;rw[e,<-h.ch,Int.mul_comm];have:=Int.mul_ediv_add_emod a n;omega
def zy{mk:Int}{ct:Nat->Ct}(j:oE n m v ce=true)(h:Lk n ce ch a)(F:mk<=0):mw n m v ce ch mk ct a=if(ct (cell n a)).kd=0 then(3,0,⟨0,0,0,[]⟩)else(2,0,ct (cell n a)):=by
 have y:rC n m v ce a=(a%n,a/n,0):=by unfold rC;rw[aE j,az (by have:=h.a0;have:=h.a1;omega)]
 unfold mw;rw[y,az (by simp[h.ch]),az (gM h.a0)];rfl
def TL:xb s (mh n m v ce ch s r).2:=by
 have h:∀e,¬e<s.ep->xb s ⟨e,s.mark,s.ct⟩:=λe y=>⟨by show s.ep<=e;omega,λ_ _=>rfl⟩;unfold mh;split
 .unfold rb;split
  .exact xb.refl ..
  exact h _ (by assumption)
 split
 .unfold oP;split
  .exact xb.refl ..
  rename_i y;split
  .exact h _ y
  split
  .rename_i j;refine⟨by show s.ep<=r.ep;omega,λi F=>?_⟩;show(if i=_ then _ else _)=_;rw[az];rintro rfl;unfold mw at j;repeat' split at j
   .exact absurd j bT
   .omega
   .exact F (by assumption)
   exact absurd (show(2:Int)=3 from j) bT
  exact h _ y
 unfold qn;split
 .exact xb.refl ..
 exact h _ (by assumption)
theorem Yx(h:(mh n m v ce ch s r).1.wh=5):(mh n m v ce ch s r).1.ep=s.ep/\(mh n m v ce ch s r).2=s:=by
 have j:∀x,(tB n m v ce ch s x).wh≠5:=λx=>by
  unfold tB mw
  grind
 unfold mh rb oP qn at h|-;repeat' split
 all_goals(simp_all[an])
inductive VK(n:Nat)(s:St)(a:Int)(A:An):Prop
 |none (h:A.wh=3) (hk:(s.ct (cell n a)).kd=0)
 |some (h:A.wh=2) (hk:(s.ct (cell n a)).kd≠0) (hc:A.ct=s.ct (cell n a))
def JV(y:oE n m v ce=true)(h:Lk n ce ch a)(F:s.mark<=0):VK n s a (tB n m v ce ch s a):=by
 unfold tB;rw[zy y h F];by_cases j:(s.ct (cell n a)).kd=0
 .rw[aE j];exact .none rfl j
 rw[az j];exact .some rfl j rfl
def Sq(y:oE n m v ce=true)(F:r.kd=3)(h:Lk n ce ch r.pl)(H:s.mark<=0)(j:(mh n m v ce ch s r).1.wh≠5):s.ep<=r.ep/\(mh n m v ce ch s r).2=⟨r.ep,s.mark,s.ct⟩/\VK n s r.pl (mh n m v ce ch s r).1:=by
 have e:mh n m v ce ch s r=qn n m v ce ch s r.ep r.pl:=by unfold mh;rw[F];rfl
 rw[e]at j|-;unfold qn at j|-;split at j<;>rename_i k
 .contradiction
 rw[az k];exact⟨C,rfl,JV y h H⟩
def CJ(M:oE n m v ce=true)(Q:r.kd=2)(h:Lk n ce ch r.pl)(S:s.mark<=0)(T:tE r.ct.kd r.ct.val.length=true)(F:(mh n m v ce ch s r).1.wh≠5):s.ep<=r.ep/\(((mh n m v ce ch s r).1.wh=1/\(s.ct (cell n r.pl)).kd=0/\(mh n m v ce ch s r).2=⟨r.ep,s.mark,λj=>if j=cell n r.pl then r.ct else s.ct j⟩)\/((mh n m v ce ch s r).2=⟨r.ep,s.mark,s.ct⟩/\(mh n m v ce ch s r).1.wh=2/\(s.ct (cell n r.pl)).kd≠0/\(mh n m v ce ch s r).1.ct=s.ct (cell n r.pl))):=by
 have e:mh n m v ce ch s r=oP n m v ce ch s r.ep r.pl r.ct.kd r.ct.cl r.ct.ca r.ct.val:=by unfold mh;rw[Q];rfl
 have P:=zy (ct:=s.ct) M h S;have y:Yo n m v ce r.pl=cell n r.pl:=by unfold Yo rC cell;rw[aE M,az (by have:=h.a0;have:=h.a1;omega)]
 rw[e]at F|-;unfold oP at F|-;split at F<;>rename_i k
 .exact absurd rfl F
 rw[az k,az (qH T)];refine⟨C,?_⟩;by_cases H:(s.ct (cell n r.pl)).kd=0
 .rw[aE (by rw[P,aE H])];exact .inl ⟨rfl,H,mT y⟩
 have L:(mw n m v ce ch s.mark s.ct r.pl)=(2,0,s.ct (cell n r.pl)):=by rw[P,az H]
 rw[az (by rw[L];show¬(2:Int)=3;decide)];refine .inr ⟨rfl,?_,H,?_⟩
 .unfold tB;rw[L]
 unfold tB;rw[L]
end Go.Proofs.YtbghhbpacijmmaaGreat
