import Derived.Shelf.Sort.Plain
import Derived.Test.YtbghhbpacijmmaaGreatL04
open Go.Proofs.Tryz
namespace Go.Proofs.YtbghhbpacijmmaaGreat
set_option maxRecDepth 99999
set_option maxHeartbeats 0
set_option linter.defProp false
open Go.RowKit Go.Maps Go.Shelf Go.Sort
attribute [local go_sem ↓] Go.wp_at_zero Go.wp_at_succ
open Go.ChangeMaps (setBlock)
variable {w w1 w' W:World} {cP fz qb:Nat->Nat} {t p iC q gm g ga:Nat} {X X':Cx} {V V':CV} {c c':jn} {cv cv':lE} {l:List Ae} {zz:List (Int×An)} {fr k:Int} {xs:List Value} {es:Array MapEntry} {ln:MapEntry->Nat} {ns:List Int} {rs:List Rz}
def Cx.wv(X:Cx)(h:X.a.Pairwise λc d=>c.gL<d.gL)(j:c∈X.a):X.put c=X:=by
 unfold Cx.put;have:X.a.map (λd=>if d.gL=c.gL then c else d)=X.a:=by
  conv=>rhs;rw[<-eI X.a]
  refine bf λx y=>?_;by_cases e:x.gL=c.gL
  .rw[aE e];exact(rS h y j e).symm
  simp_all
 rw[this]
def Cx.Ll(X:Cx)(c)(r):(X.put c).fin c r=X.fin c r:=by
 unfold Cx.fin Cx.put;congr 1;rw[dZ];have h:((λd:jn=>d.gL !=c.gL)∘λd=>if d.gL=c.gL then c else d)=λd=>d.gL !=c.gL:=by
  funext d;show((if d.gL=c.gL then c else d).gL !=c.gL)=_;by_cases e:d.gL=c.gL
  .simp_all
  rw[az e]
 rw[h]
 conv=>rhs;rw[<-eI (X.a.filter _)]
 refine bf λx j=>?_;simp_all
def Cx.qe(X:Cx)(c):(X.put c).lK c=X.lK c:=Cx.Uj X c _ _ _ _
def CS.gR(j:gI (λb=>Mc t (cP b)) w w1)(h:CS w1 cP t p qb X w'):CS w cP t p qb X w':=by obtain⟨fz,y,A,F⟩:=h;exact⟨fz,λb H=>y b (af H j.size),A,j.H F⟩
def jy.T5(h:jy w cP t p qb X V)(j:c∈X.a)(k:lS w cP t (qb c.gL) c cv)(y:gI (λb=>b=qb c.gL) w w')(A:lS w' cP t (qb c.gL) c' cv')(F:c'.gL=c.gL)(H:c'.a=c.a):jy w' cP t p qb (X.put c') V/\gI (λb=>Mc t (cP b)) w w':=
 ⟨h.call j (k.Ej y) A F H,h.I4 j (k.Ej y)⟩
def jy.Yz(h:jy w cP t p qb X V)(j:c∈X.a)(u)(tv)(A:Rd w cP (t+3) 5 tv (u.val.map B8)):jy (lT w (qb c.gL) 9 [I u.kd,I u.cl,I u.ca,tv]) cP t p qb (X.put {c with d:=u}) V/\gI (λb=>Mc t (cP b)) w (lT w (qb c.gL) 9 [I u.kd,I u.cl,I u.ca,tv]):=by obtain⟨cv,k⟩:=h.r.f c j;have y:gI _ w (lT w _ 9 [I u.kd,I u.cl,I u.ca,tv]):=kD (S:=λb=>b=qb c.gL) (.inl rfl) _ 9 w (gI.refl _ w);exact h.T5 j k y (k.A (cv':={cv with cv:=tv}) y (lL _ 9 w _ k.hq) rfl k.ij A k.e k.q) rfl rfl
def jy.YP(h:jy w cP t p qb X V)(j:c∈X.a)(i:Nat):jy (w.setCell (U (qb c.gL) 13) (I i)) cP t p qb (X.put {c with b:=i}) V/\gI (λb=>Mc t (cP b)) w (w.setCell (U (qb c.gL) 13) (I i)):=by obtain⟨cv,k⟩:=h.r.f c j;have y:gI _ w (w.setCell (U (qb c.gL) 13) (I i)):=(gI.refl (λb=>b=qb c.gL) w).setCell (U (qb c.gL) 13) (.inl rfl) _;exact h.T5 j k y (k.A y (jO 13 _ w _ k.hq) rfl k.ij k.d k.e k.q) rfl rfl
def jy.ZF(h:jy w cP t p qb X V)(j:c∈X.a):jy (lT w (qb c.gL) 17 [I 0,I 0,I 0,I 0,I 0,I 0,I 0,I 0,OO,OO,.bool false,.map none]) cP t p qb (X.put {c with q:=Qn.zero}) V/\gI (λb=>Mc t (cP b)) w (lT w (qb c.gL) 17 [I 0,I 0,I 0,I 0,I 0,I 0,I 0,I 0,OO,OO,.bool false,.map none]):=by obtain⟨cv,k⟩:=h.r.f c j;have y:gI (λb=>b=qb c.gL) w (lT w (qb c.gL) 17 [I 0,I 0,I 0,I 0,I 0,I 0,I 0,I 0,OO,OO,.bool false,.map none]):=kD (S:=λb=>b=qb c.gL) (.inl rfl) _ 17 w (gI.refl _ w);exact h.T5 j k y (k.A (c':={c with q:=Qn.zero}) (cv':={cv with q:=QV.zero}) y (lL _ 17 w _ k.hq) rfl k.ij k.d k.e QR.zero) rfl rfl
theorem R8(h:jy w cP t p qb X V)(H:100<=t)(T:oM X)(P:c∈X.a)(hA:X.T c.iA)(M:c.kind=1):iU 89 #[O p,O (qb c.gL)] w λQ w'=>Q=iF/\CS w cP t p qb (X.dO c) w':=by
 have hX:X.dO c=X.lK {c with d:=c.ij,b:=0}:=by unfold Cx.dO;rw[aE M]
 obtain⟨cv,y⟩:=h.r.f c P;obtain⟨oa,oc,A⟩:=y.ij.D;rw[ay]at A;obtain⟨_,ch,_,_,Y,Z,_⟩:=T.chain c.iA;have j:=y.ij;rw[A]at j;obtain⟨K1,O1⟩:=h.Yz P c.ij _ j;obtain⟨S,O2⟩:=K1.YP (c:={c with d:=c.ij}) (Cx.jV P rfl) 0;rw[Cx.Dz X (c1:={c with d:=c.ij}) (c2:={c with d:=c.ij,b:=0}) rfl]at S;have O3:=O1.H O2;obtain⟨W1,F⟩:=gG ((lT w (qb c.gL) 9 [I c.ij.kd,I c.ij.cl,I c.ij.ca,gK oa c.ij.val.length oc]).setCell (U (qb c.gL) 13) (I (0:Nat)));rw[F]at S O3;have HN:Hid (iU 149 #[O p,O (qb c.gL)] W1 λQ w'=>Q=iF/\CS w cP t p qb (X.dO c) w'):=
  (wD S H (T.put _) (c:={c with d:=c.ij,b:=0}) (Cx.jV P rfl) hA (by show 0<(X.chain c.iA).length;rw[Y];exact Z)).L λQ w'⟨e1,e2⟩=>⟨e1,by
   rw[hX,<-Cx.qe]
   exact CS.gR O3 e2⟩
 obtain⟨e0,e5,e6⟩:=y.QI 0 5 6 rfl;obtain⟨e7,e8⟩:=y.R 7 8 rfl;rw[A]at e8;obtain⟨e9,a0,a1⟩:=y.QI 9 10 11 rfl;obtain⟨a2,a3⟩:=y.R 12 13 rfl;obtain⟨g9,a4,a5⟩:=y.ZP 9 10 11;obtain⟨a6,a7⟩:=y.Z9 12 13;have lq:=y.lt;have HE:Hid (((((w.setCell (U (qb c.gL) 9) (I c.ij.kd)).setCell (U (qb c.gL) 10) (I c.ij.cl)).setCell (U (qb c.gL) 11) (I c.ij.ca)).setCell (U (qb c.gL) 12) (gK oa c.ij.val.length oc)).setCell (U (qb c.gL) 13) (I 0)=W1):=F;clear h y K1 S O1 O2 O3 F j T;generalize qb c.gL=q at*;rw[M]at e0;go_enter func89,ntmps89;go_upto_region 4 with fail;rw[HE.o];go_wp2_with(go_at_call 149;refine jA HN λw3 HS=>?_);go_end0;exact⟨rfl,HS⟩
theorem Ql(h:jy w cP t p qb X V)(j:100<=t)(F:oM X)(H:c∈X.a)(M:X.T c.iA)(y:c.kind=2):iU 89 #[O p,O (qb c.gL)] w λP w'=>P=iF/\CS w cP t p qb (X.dO c) w':=by
 have Q:X.dO c=X.qI c:=by unfold Cx.dO;rw[az C,aE y]
 obtain⟨cv,A⟩:=h.r.f c H;have L:=gN (SQ h j F H M);rw[<-Q]at L;have S:=A.cellAt 0 rfl;have Y:=A.lt;rw[y]at S;clear h A F;go_enter func89,ntmps89;go_wp2_with(go_at_call 150;refine jA L λZ T=>?_);go_end0;exact⟨rfl,T⟩
theorem QL(kd cl ca)(va)(vn vc)(w):iU 308 #[.agg #[I kd,I cl,I ca,gK va vn vc]] w λh w'=>h=gU (.agg #[I kd,I 0,gK va vn vc])/\Bl w w':=by
 go_enter func308,ntmps308;go_wp2;refine aG (by simp[results,results308,go_sem]) rfl ⟨rfl,?_⟩;exact(jZ.alloc _).alloc _
def Cx.J2(X:Cx)(c)(h:c.b+1<(X.chain c.iA).length):X.kg c=(X.put {c with b:=c.b+1}).lK {c with b:=c.b+1}:=by unfold Cx.kg;rw[aE h,Cx.qe]
def Cx.DI(X:Cx)(c:jn)(h:¬c.b+1<(X.chain c.iA).length):X.kg c=(X.put {c with b:=c.b+1}).fin {c with b:=c.b+1} ⟨1,c.iA,[]⟩:=by unfold Cx.kg;rw[az h,Cx.Ll];rfl
theorem zF(h:jy w cP t p qb X V)(Q:100<=t)(hx:oM X)(hc:c∈X.a)(hA:X.T c.iA)(a7:c.b<1000)(a1:c.kind=1):iU 309 #[O p,O (qb c.gL)] w λen w'=>en=iF/\CS w cP t p qb (X.kg c) w':=by
 obtain⟨cv,hk⟩:=h.r.f c hc;obtain⟨H1,O1⟩:=h.YP hc (c.b+1);obtain⟨W1,M⟩:=gG (w.setCell (U (qb c.gL) 13) (I (c.b+1:Nat)));rw[M]at H1 O1;have F:({c with b:=c.b+1}:jn)∈(X.put {c with b:=c.b+1}).a:=Cx.jV hc rfl;have T1:Hid (∀W,Bl W1 W->jy W cP t p qb (X.put {c with b:=c.b+1}) V):=λW hW=>H1.bl hW λ_ _=>rfl;have HC:Hid (∀W,Bl W1 W->_):=λW hW=>zB (T1 W hW) (hx.put _) (c:={c with b:=c.b+1}) F hA;have a2:=hk.cellAt 13 rfl;have a3:=hk.N 13;have lq:=hk.lt;obtain⟨a8,j⟩:=H1.r.f _ F;have S:W1.cell? (U (qb c.gL) 13)=some (I ((c.b:Int)+1)):=j.cellAt 13 rfl;have d0:W1.cell? (U (qb c.gL) 0)=some (I c.kind):=j.cellAt 0 rfl;have d3:W1.cell? (U (qb c.gL) 3)=some (I c.iA):=j.cellAt 3 rfl;have T:=j.lt;have HE:Hid (w.setCell (U (qb c.gL) 13) (I (c.b+1))=W1):=M;have a9:(c.b:Int)<1000:=C;obtain⟨a4,Y,Hx⟩:=iI O1 F hx;have A:qb c.gL<W1.heap.size:=T;clear h hk H1 O1 M j T;generalize hq:qb c.gL=q at*;have Hq:=gN hq;clear hq hx F;have Z:(X.put {c with b:=c.b+1}).chain c.iA=X.chain c.iA:=rfl;dsimp only at HC;rw[Z]at HC;go_enter func309,ntmps309;go_upto_region 2 with fail;rw[HE.o];clear HE;go_cut[19] λy wx=>y=.bool (decide ((c.b:Int)+1<((X.chain c.iA).length:Int)))/\Hid (Bl W1 wx)
 case first=>
  go_region_held3(λW=>W.cell? (U q 13)=some (I (c.b+1))) (go_keep) (first|(go_at_call 189;refine(HC _ ?hb).L ?_;(case hb=>exact jU);rintro en w2⟨aa,ab,rfl,a0,a5⟩;have hB:Bl W1 w2:=Bl.H jU a0;have z4:=(hB.cell A).H S;have a6:=gN hB;clear a0 hB a5));all_goals(go_wp2_with fail;go_meet)
  all_goals exact⟨rfl,a6⟩
 case rest=>
  obtain⟨rfl,HB⟩:=hcut;obtain⟨Y3,ac⟩:=HB.D A d0 d3;have ad:=af A HB.lt;have OB:=gN (a4.H (gI.D HB));clear d0 d3 S a2 a3 HC;by_cases jt:c.b+1<(X.chain c.iA).length
  .have hd:decide ((c.b:Int)+1<((X.chain c.iA).length:Int))=true:=ik;rw[hd];obtain⟨P,hX⟩:=gO (wD (T1 wc HB) Q (Hx.put _) (c:={c with b:=c.b+1}) Y hA jt) (X.J2 c jt);dsimp only at P;rw[Hq.o]at P;go_wp2_with(go_at_call 149;refine jA P λw3 HS=>?_);go_end0;exact⟨rfl,by rw[hX.o];exact CS.gR OB HS⟩
  have hd:decide ((c.b:Int)+1<((X.chain c.iA).length:Int))=false:=ik;rw[hd];obtain⟨P,hX⟩:=gO (DE (T1 wc HB) (c:={c with b:=c.b+1}) Y ⟨1,c.iA,[]⟩ none 0 Rd.nil) (X.DI c jt);simp only[dA]at P;rw[Hq.o]at P;rw[a1]at Y3;go_wp2_with(go_at_call 96;refine jA P λw3 HS=>?_);go_end0;exact⟨rfl,by rw[hX.o];exact CS.gR OB HS⟩
theorem K8(A:lS w cP t q c cv)(kd cl ca)(va)(vn vc):iU 315 #[O q,.agg #[I kd,I cl,I ca,gK va vn vc]] w λS w'=>S=gU (.bool (cl==c.ij.cl&&ca==c.ij.ca))/\Bl w w':=by
 obtain⟨W,L⟩:=gG (w.alloc (ig #[I kd,I cl,I ca,gK va vn vc] 91));have F:=(Bl.refl w).alloc (ig #[I kd,I cl,I ca,gK va vn vc] 91);have M:=ao w (ig #[I kd,I cl,I ca,gK va vn vc] 91);rw[L]at F M;obtain⟨Y,Z,r2,r3,lr⟩:=sj M;have e6:=(F.cell A.lt).H (A.cellAt 6 rfl);have e7:=(F.cell A.lt).H (A.cellAt 7 rfl);have lq:=af A.lt F.lt;obtain⟨T,j⟩:=gO L F;clear A L F M;go_enter func315,ntmps315;go_upto_region 1 with fail;rw[T.o];by_cases P:cl=c.ij.cl
 .by_cases Q:ca=c.ij.ca
  .have h:(cl==c.ij.cl)=true:=by simpa using P
   have y:(ca==c.ij.ca)=true:=je Q;go_quiet(fail);go_wp2;go_ret;exact⟨by simp[h,y],by first|exact j.o|exact j.drew|exact j.drewN _⟩
  have h:(cl==c.ij.cl)=true:=by simpa using P
  have y:(ca==c.ij.ca)=false:=je Q;go_quiet(fail);go_wp2;go_ret;exact⟨by simp[h,y],by first|exact j.o|exact j.drew|exact j.drewN _⟩
 have h:(cl==c.ij.cl)=false:=by simpa using P
 go_quiet(fail);go_wp2;go_ret;exact⟨mZ h,by first|exact j.o|exact j.drew|exact j.drewN _⟩
theorem Nk(h:jy w cP t p qb X V)(S:c∈X.a)(T:c.kind=1)(u)(A:Cx.jH c u=false)(va)(vc):iU 310 #[O p,O (qb c.gL),.agg #[I u.kd,I u.cl,I u.ca,gK va u.val.length vc]] w λen w'=>en=iF/\CS w cP t p qb (X.pO c u) w':=by
 have Y:Hid (X.pO c u=X.put {c with q:=Qn.zero}):=by unfold Hid Cx.pO;rw[aE A]
 obtain⟨W,Z⟩:=gG (w.alloc (ML u va vc));have P:=(Bl.refl w).alloc (ML u va vc);have hX:=ao w (ML u va vc);rw[Z]at P hX;obtain⟨r0,r1,r2,r3,lr⟩:=sj hX;have F:=h.bl P (fz:=cP) ib;obtain⟨cv,Q⟩:=F.r.f c S;have HO:=gN (K8 Q u.kd u.cl u.ca va u.val.length vc);have y:(u.cl==c.ij.cl&&u.ca==c.ij.ca)=false:=A;rw[y]at HO;have e0:=Q.cellAt 0 rfl;rw[T]at e0;have lq:=Q.lt;obtain⟨a0,HW,BW⟩:=iI F Z P;clear h Q Z P hX F A y;generalize hq:qb c.gL=q at*;have Hq:=gN hq;clear hq;go_enter func310,ntmps310;go_upto_region 1 with fail;rw[HW.o];clear HW;go_wp2_with(go_at_call 315;refine gS HO λw2 H=>?_;have L:=a0.bl H (fz:=cP) ib;obtain⟨a2,j⟩:=L.r.f c S;rw[Hq.o]at j;have l3:=j.lt;obtain⟨a3,a4,a5,a6⟩:=j.T 17 18 19 20 rfl;obtain⟨a7,a8,a9,aa⟩:=j.T 21 22 23 24 rfl;obtain⟨ab,ac,ad,ag⟩:=j.T 25 26 27 28 rfl;obtain⟨ai,ak,al,am⟩:=j.EO 17 18 19 20;obtain⟨an,ap,aq,ar⟩:=j.EO 21 22 23 24;obtain⟨au,av,aw,aY⟩:=j.EO 25 26 27 28;obtain⟨HZ,a1⟩:=gO (L.ZF S) H;clear H L j HO);(try simp only[Exit.inBlock,Exit.then])
 refine aG (v:= .tuple #[]) (by simp[results,results310,go_sem]) rfl ⟨rfl,?_⟩;rw[Y.o];have M:=HZ.o;rw[Hq.o]at M;exact CS.M (BW.H a1) (CS.mk M.1 M.2)
theorem MU(h:jy w cP t p qb X V)(H:100<=t)(hx:oM X)(hc:c∈X.a)(u:Ct)(M:c.kind=1)(P:Cx.jH c u=true)(hA:X.T c.iA)(a0:c.b<1000)(A:Option Addr)(F:Nat)(ht:Rd w cP (t+3) 5 (gK A u.val.length F) (u.val.map B8)):iU 310 #[O p,O (qb c.gL),.agg #[I u.kd,I u.cl,I u.ca,gK A u.val.length F]] w λen w'=>en=iF/\CS w cP t p qb (X.pO c u) w':=by
 have a1:Hid (X.pO c u=(X.put {c with d:=u}).kg {c with d:=u}):=by
  unfold Hid Cx.pO;rw[az (om P)];unfold Cx.kg;rw[show(X.put {c with d:=u}).chain=X.chain from rfl];simp only[Cx.Ll X {c with d:=u}];have:∀n,(X.put {c with d:=u}).lK {c with d:=u,b:=n}=X.lK {c with d:=u,b:=n}:=λn=>by rw[<-Cx.qe (X.put {c with d:=u}),Cx.Dz X (c1:={c with d:=u}) (c2:={c with d:=u,b:=n}) rfl,Cx.qe]
  simp only[this]
 obtain⟨W,hW⟩:=gG (w.alloc (ML u A F));have Q:=(Bl.refl w).alloc (ML u A F);have hX:=ao w (ML u A F);rw[hW]at Q hX;obtain⟨r0,r1,r2,r3,lr⟩:=sj hX;have y:=h.bl Q (fz:=cP) ib;obtain⟨cv,hk⟩:=y.r.f c hc;have HO:=gN (K8 hk u.kd u.cl u.ca A u.val.length F);have HN:Hid (∀W2,Bl W W2->∀W1,lT W2 (qb c.gL) 9 [I u.kd,I u.cl,I u.ca,gK A u.val.length F]=W1->iU 309 #[O p,O (qb c.gL)] W1 λen w'=>en=iF/\CS w cP t p qb (X.pO c u) w'):=λW2 j W1 e1=>by obtain⟨H1,O1⟩:=(y.bl j (fz:=cP) ib).Yz hc u _ (ht.bl (Q.H j) λ_ _ e=>e);rw[e1]at H1 O1;refine(zF H1 H (hx.put _) (c:={c with d:=u}) (Cx.jV hc rfl) hA a0 M).L λen w'⟨e1,e2⟩=>⟨e1,?_⟩;rw[a1.o];exact CS.M (Q.H j) (CS.gR O1 e2)
 have e0:=hk.cellAt 0 rfl;have lq:=hk.lt;obtain⟨HW,a2⟩:=gO hW y;clear h hk hW Q hX y ht hx;generalize hq:qb c.gL=q at*;have Hq:=gN hq;clear hq;have S:(u.cl==c.ij.cl&&u.ca==c.ij.ca)=true:=P;rw[S]at HO;rw[M]at e0;go_enter func310,ntmps310;go_upto_region 1 with fail;rw[HW.o];clear HW;go_upto_region 4 with(go_at_call 315;refine gS HO λw2 j=>?_;have T:=a2.bl j (fz:=cP) ib;obtain⟨a4,Y⟩:=T.r.f c hc;rw[Hq.o]at Y;have l3:=Y.lt;obtain⟨e9,a5,a6,a7⟩:=Y.T 9 10 11 12 rfl;obtain⟨g9,a8,a9,aa⟩:=Y.EO 9 10 11 12;obtain⟨z0,z1,z2,z3⟩:=j.N lr r0 r1 r2 r3;have ab:=af lr j.lt;have a3:=gN j;clear j T Y HO);have Z:=gN (HN w2 a3 _ rfl);unfold lT lT lT lT lT at Z;go_wp2_with(go_at_call 309;refine jA Z λw3 HS=>?_);go_end0;exact⟨rfl,HS⟩
def Sa(h:jy w cP t p qb X V)(j:100<=t)(M:oM X)(H:c∈X.a)(u:Ct)(L:c.kind=1)(P:X.T c.iA)(F:c.b<1000)(y:Option Addr)(A:Nat)(Q:Rd w cP (t+3) 5 (gK y u.val.length A) (u.val.map B8)):iU 310 #[O p,O (qb c.gL),.agg #[I u.kd,I u.cl,I u.ca,gK y u.val.length A]] w λS w'=>S=iF/\CS w cP t p qb (X.pO c u) w':=by
 cases e:Cx.jH c u
 .exact Nk h H L u e y A
 exact MU h j M H u L e P F y A Q
abbrev sL(A:An)(va:Option Addr)(vc:Nat):Value:= .agg #[I A.wh,I A.ep,I A.mark,I A.ct.kd,I A.ct.cl,I A.ct.ca,.slice va A.ct.val.length vc]
abbrev vK(A:An)(va:Option Addr)(vc:Nat):Obj:= .cells #[I A.wh,I A.ep,I A.mark,I A.ct.kd,I A.ct.cl,I A.ct.ca,.slice va A.ct.val.length vc] 215
theorem Qj(h:jy w cP t p qb X V)(F:100<=t)(Q:oM X)(hc:c∈X.a)(hA:X.T c.iA)(S:c.b<1000)(T:c.kind=1)(A:An)(h4:A.wh≠4)(Z:Option Addr)(vc:Nat)(ht:Rd w cP (t+3) 5 (gK Z A.ct.val.length vc) (A.ct.val.map B8)):iU 289 #[O p,O (qb c.gL),sL A Z vc] w λen w'=>en=iF/\CS w cP t p qb (X.oy c A) w':=by
 have H:=(Bl.refl w).alloc (vK A Z vc);have j:=h.bl H (fz:=cP) ib;have y:=ht.bl H (fz:=cP) λ_ _ e=>e;have L:=gN H;by_cases P:A.wh=1
 .have M:=gN (zF j F Q hc hA S T);have Y:Hid (X.oy c A=X.kg c):=by unfold Hid Cx.oy;rw[aE P]
  clear h j y ht H Q;unfold sL;unfold vK at M L;rw[P]at M L|-;generalize qb c.gL=q at*;go_enter func289,ntmps289;go_wp2_with(go_at_call 309;refine jA M λw3 HS=>?_);go_end0;exact⟨rfl,by rw[Y.o];exact CS.M L HS⟩
 by_cases h2:A.wh=2
 .have M:=gN (Sa j F Q hc A.ct T hA S Z vc y);have Y:Hid (X.oy c A=X.pO c A.ct):=by unfold Hid Cx.oy;rw[az P,aE h2]
  clear h j y ht H Q P;unfold sL;unfold vK at M L;rw[h2]at M L|-;generalize qb c.gL=q at*;go_enter func289,ntmps289;go_wp2_with(go_at_call 310;refine jA M λw3 HS=>?_);go_end0;exact⟨rfl,by rw[Y.o];exact CS.M L HS⟩
 have Y:X.oy c A=X:=by unfold Cx.oy;rw[az P,az h2,Cx.wv X h.r.a.gL hc]
 have HF:=gN (CS.D ⟨V,h⟩ H);have b1:(A.wh==1)=false:=je P;have b2:(A.wh==2)=false:=je h2;have b4:(A.wh==4)=false:=je h4;rw[Y];clear h j y ht H Q L;unfold sL;unfold vK at HF;generalize qb c.gL=q at*;go_enter func289,ntmps289;go_wp2;go_end0;exact⟨rfl,HF⟩
def QO:Value->Int
 | .agg a=>Go.RowKit.intOf ((a[0]?).getD undef)
 |_=>0
def xB(k:Int)(l:List MapEntry):Nat:=(l.filter λx=>QO x.val==k).length
def Cn(k)(e)(l):xB k (e::l)=xB k l+if QO e.val==k then 1 else 0:=by unfold xB;rw[cT];split<;>simp
def Ng{l1 l2:List MapEntry}(h:l1.Perm l2):xB k l1=xB k l2:=(h.filter _).length_eq
def UW(k)(l):xB k l<=l.length:=bF _ _
theorem Gj(k):∀(l:List Ae) (zz:List (Int×An)),l.length=zz.length->(∀(i:Nat) e z,l[i]?=some e->zz[i]?=some z->QO e.v=z.2.wh)->xB k (l.map Ae.A)=(zz.filter λz=>z.2.wh==k).length
 |[],[],_,_=>rfl
 |[],_::_,h,_=>mR h
 |_::_,[],h,_=>mR h
 |e::l,z::zz,h,j=>by have y:=j 0 e z rfl rfl;rw[bj,Cn,Gj k l zz (je h) λi e' A F H=>j (i+1) e' A (je F) (je H),cT];show _+(if QO e.v==k then 1 else 0)=_;rw[y];split<;>simp
def Mm.Ix(h:Mm w gm iC l zz (oN.ev w cP t))(k):xB k (ie l).toList=(zz.filter λz=>z.2.wh==k).length:=by
 have:(ie l).toList=l.map Ae.A:=by simp[ie]
 rw[this];refine Gj k l zz h.len λi e z j y=>?_;obtain⟨_,s,A,_⟩:=h.kY i e z j y;rw[A];rfl
def Mm.agg(h:Mm w gm iC l zz (oN.ev w cP t)):∀x∈(ie l).toList,∃(j y A F H L:Int) (M:Option Addr) (P Q:Nat),x.val=.agg #[I j,I y,I A,I F,I H,I L,gK M P Q]:=λx S=>by obtain⟨e,T,rfl⟩:=my S;obtain⟨i,Y,rfl⟩:=aV.1 T;have hl:=h.len;obtain⟨_,s,Z,h4⟩:=h.kY i l[i] zz[i] (ah Y) (ah C);obtain⟨a,c,rfl⟩:=h4.D;exact⟨_,_,_,_,_,_,_,_,_,Z⟩
def Mm.born{α:Type}{zz:List (Int×α)}{R:α->Value->Prop}(h:Mm w gm iC l zz R):(∀x∈(ie l).toList,x.born<iC)/\((ie l).toList.map (·.born)).Nodup:=by
 have j:(ie l).toList=l.map Ae.A:=by simp[ie]
 refine⟨λx y=>?_,?_⟩
 .obtain⟨e,A,rfl⟩:=my y;exact h.bo e A
 rw[j,br];exact h.nd
theorem ES(x0)(x1 x2 x3 x4 x5)(va)(vn vc)(w):iU 307 #[.agg #[I x0,I x1,I x2,I x3,I x4,I x5,gK va vn vc]] w λh w'=>h=gU (.bool (x0==2))/\Bl w w':=by go_enter func307,ntmps307;go_wp2;go_ret;exact⟨bz,jZ.alloc _⟩
theorem JC(k:Int)(F:Nat)(hF:F=291\/F=307)(hS:∀(P x1 x2 x3 x4 x5:Int) (va:Option Addr) (vn vc:Nat) (w:World),iU F #[.agg #[I P,I x1,I x2,I x3,I x4,I x5,gK va vn vc]] w λen w'=>en=gU (.bool (P==k))/\Bl w w'){o:Nat}(h:Mm w gm iC l zz (oN.ev w cP t))(UO:w.cell? (U g (o+11))=some (.map (some gm)))(a5:zz.length<=100):iU 290 #[.pointer (some (U g o)),.func (.func F) #[] #[]] w λen w'=>en=gU (I ((zz.filter λz=>z.2.wh==k).length:Nat))/\Bl w w':=by
 obtain⟨HF,HC,HE⟩:=iI hS (h.Ix k) h.agg;obtain⟨bo,nd⟩:=h.born;obtain⟨HM,a2,a3⟩:=iI h.mp bo nd;have Y:(ie l).size<=100:=by have:=h.len;simp[ie];omega
 generalize ie l=es at*;have HS:=gN Y;clear h bo nd Y hS;go_enter func290,ntmps290;go_wp2_with(at_range;refine kR _ rfl _ 101 rfl 3 215 underlying101 gm es iC rfl HM a2 a3 ?_;intro hI;have HI:=gN hI;clear hI);go_frame;go_loopw[5](λv wr=>∃j:List MapEntry,v=I (xB k j:Nat)/\Hid (Bl w wr)/\Hid (It wr w.heap.size gm es iC j)) λ_ wr=>es.size-(wr.iterSeen w.heap.size).size
 case atStart=>exact⟨[],rfl,jZ.alloc _,HI⟩
 obtain⟨j,rfl,HB,HJ⟩:=hrel;have a6:xB k j<=100:=by have:=UW k j;have:=HJ.len;have:=HS.o;omega
 go_wp2_with(at_next;refine lJ _ rfl _ rfl w.heap.size gm iC es j rfl HJ ?_ ?_)
 .intro h0;have hL:=(Ng (k:=k) h0).H HC;rw[hL];go_wp2;go_ret;exact⟨rfl,HB⟩
 intro e W he Z hO a4;obtain⟨P,x1,x2,x3,x4,x5,va,vn,vc,hx⟩:=HE e (je he);have Q:=Cn k e j;rw[show QO e.val=P by rw[hx];rfl]at Q;rw[hx]at a4|-;have HW:Hid (Bl w W):=HB.A hO λb hb=>C;obtain⟨a0,a1⟩:=gO Z Q;generalize xB k j=n at*;clear Z hO he Q hx;by_cases hp:P=k
 .have S:Hid (xB k (e::j)=n+1):=by unfold Hid;rw[a1.o,hp];simp
  have M:(P==k)=true:=je hp;clear hp;obtain rfl|rfl:=hF;all_goals
   go_wp2_with((first|go_at_call 291|go_at_call 307);refine gS (HF _ _ _ _ _ _ _ _ _ _) λw2 A=>?_;rw[M];have L:=gN A;clear A);obtain⟨y,T⟩:=gO ((a0.bl ((Bl.refl W).alloc _)).bl L) ((HW.alloc _).H L);go_wp2;go_roundw
   case rel=>exact⟨e::j,by rw[S.o];go_num,T,y⟩
   have e1:w2.iterSeen w.heap.size=((e::j).map (·.born)).reverse.toArray:=by unfold World.iterSeen;rw[y.it]
   have e2:wr.iterSeen w.heap.size=(j.map (·.born)).reverse.toArray:=by unfold World.iterSeen;rw[HJ.it]
   have:=y.len;rw[e1,e2];simp at this|-;omega
 have M:(P==k)=false:=by simpa using hp
 have S:Hid (xB k (e::j)=n):=by unfold Hid;rw[a1.o,M];simp
 obtain rfl|rfl:=hF;all_goals
  go_wp2_with((first|go_at_call 291|go_at_call 307);refine gS (HF _ _ _ _ _ _ _ _ _ _) λw2 A=>?_;rw[M];have L:=gN A;clear A);obtain⟨y,T⟩:=gO ((a0.bl ((Bl.refl W).alloc _)).bl L) ((HW.alloc _).H L);go_roundw
  case rel=>exact⟨e::j,mT S.o,T,y⟩
  have e1:w2.iterSeen w.heap.size=((e::j).map (·.born)).reverse.toArray:=by unfold World.iterSeen;rw[y.it]
  have e2:wr.iterSeen w.heap.size=(j.map (·.born)).reverse.toArray:=by unfold World.iterSeen;rw[HJ.it]
  have:=y.len;rw[e1,e2];simp at this|-;omega
def J9{o:Nat}(h:Mm w gm iC l zz (oN.ev w cP t))(y:w.cell? (U g (o+11))=some (.map (some gm)))(j:zz.length<=100):iU 290 #[.pointer (some (U g o)),.func (.func 307) #[] #[]] w λA w'=>A=gU (I ((zz.filter λz=>z.2.wh==2).length:Nat))/\Bl w w':=JC 2 307 (.inr rfl) ES h y j
def Si(w)(gm n)(l)(h:w.heap[gm]?=some (.map (ie l) n)):(Builtin.len_ #[101] 3 #[.map (some gm)]).run prog w=.ok (I l.length) w:=by
 have:(ie l).size=l.length:=by simp[ie]
 simp[Builtin.len_,aI h,this];rfl
def Sj(W)(x0 x1 x2 x3 x4 x5)(va)(vn vc):(Instr.field 215 (.agg #[I x0,I x1,I x2,I x3,I x4,I x5,gK va vn vc]) 3).run prog W=.ok (.agg #[I x3,I x4,I x5,gK va vn vc]) W:=rfl
def NL(l)(k)(h:∃e∈l,e.k=k):∃(j:Nat) (e:Ae),l[j]?=some e/\e.k=k/\∀(w:World) (gm n:Nat),w.heap[gm]?=some (.map (ie l) n)->(Instr.lookup 101 (.map (some gm)) (.int .i64 k) false).run prog w=.ok e.v w:=by
 have F:(ie l).toList=l.map Ae.A:=by simp[ie]
 obtain⟨_,y⟩|⟨j,x,H,y,L⟩:=ZR (d:= .int .i64) (k:= .int .i64 k) rfl (ie l).toList 0 (rL _)
 .obtain⟨e,A,M⟩:=h;exact absurd (by rw[<-M];rfl) (y e.A (by rw[F];exact aD.2 ⟨e,A,rfl⟩))
 rw[F,aK]at y;obtain⟨e,A,rfl⟩:=bN.1 y;refine⟨j,e,A,by simpa [Ae.A]using L,λw gm n Q=>?_⟩;have S:=fa (P:=prog) (w:=w) underlying3 H;have T:=eW (P:=prog) (w:=w) (k:= .int .i64 k) underlying3 vN (ie l).isEmpty 9999;simp[Instr.lookup,Sem.run_bind,Z4 underlying101,Result.andThen,aI Q,T,S];rfl
theorem U5(h:(zz.map (·.1)).Nodup){j:Nat}{z:Int×An}(A:zz[j]?=some z)(k)(H:z.1=k):zz.find? (λz=>z.1==k)=some z:=by
 induction zz generalizing j with
 |nil=>simp at A
 |cons y ys L=>
  rw[List.find?_cons]
  cases j with
  |zero=>simp_all
  |succ j=>
   have F:(y.1==k)=false:=by simp only[bj,bY]at h;have:=h.1;simp;intro e;exact this (by rw[e,<-H];exact aD.2 ⟨z,aR (je A),rfl⟩)
   rw[F];exact L (by simp at h;exact h.2) (je A)
structure YC(c:jn):Prop where
 ne:0<c.q.nodes.length
 le:c.q.nodes.length<=100
 la:c.q.D.length<=100
 hd:c.q.D.length<c.q.nodes.length\/∃z∈c.q.D,z.1=c.q.nodes.headD 0
theorem Oj(h:jy w cP t p qb X V)(hc:c∈X.a)(A:An)(h1:A.wh≠4)(hL:YC c)(va:Option Addr)(vc:Nat):iU 288 #[O p,O (qb c.gL),sL A va vc] w λen w'=>en=iF/\CS w cP t p qb (X.nV c) w':=by
 obtain⟨W,hW⟩:=gG (w.alloc (vK A va vc));have bW:=(Bl.refl w).alloc (vK A va vc);have Y:=ao w (vK A va vc);rw[hW]at bW Y;have a4:=h.bl bW (fz:=cP) ib;obtain⟨cv,hk⟩:=a4.r.f c hc;have be:(A.wh==4)=false:=je h1;have r0:W.cell? (U w.heap.size 0)=some (I A.wh):=ax W w.heap.size 0 _ 215 (0,0) Y;have lr:=(ae.1 Y).1;obtain⟨gm,iC,l,ab,bg,a0⟩:∃gm iC l,cv.q.av=.map (some gm)/\cP gm=t+9+2*c.a/\Mm W gm iC l c.q.D (oN.ev W cP (t+3)):=by
  obtain⟨e,_⟩|⟨gm,iC,l,e⟩:=hk.q.D
  .have:=hk.q.nil e;have:=hL.ne;simp_all
  exact⟨gm,iC,l,e⟩
 have av:=a0.len;have hm:=a0.mp;obtain⟨bn,on,cn,a5,ac,_,_,Q⟩:=hk.q.nodes.cell (by simpa using hL.ne);rw[ay]at a5;obtain⟨a1,a2⟩:=hk.R 26 28 rfl;rw[a5]at a1;rw[ab]at a2;have lq:=hk.lt;have ag:=Si W gm iC l hm;have a6:=Si W.drew gm iC l hm;obtain⟨HW,BW,Hm⟩:=iI hW bW hm;obtain⟨a7,P⟩:=gO a4 a0;have ai:=(ae.1 hm).1;have aw:=hL.la;have bi:=hL.le;have aY:=gN (Cx.wv X h.r.a.gL hc);clear h hk hW bW Y a4 hm a0 a5 ab;generalize hq:qb c.gL=q at*;have Hq:=gN hq;clear hq;go_enter func288,ntmps288;go_upto_region 5 with fail;rw[HW.o];go_cut[24] λy wx=>y=.bool (decide ((l.length:Int)<(c.q.nodes.length:Int)))/\Hid (Bl W wx)
 case first=>
  go_region;all_goals(go_wp2_with fail;go_meet)
  all_goals exact⟨mZ av,jU⟩
 case rest=>
  obtain⟨rfl,HB⟩:=hcut;obtain⟨W5,rfl⟩:∃W5,W5=wc:=⟨_,rfl⟩;by_cases jt:l.length<c.q.nodes.length
  .have hd:decide ((l.length:Int)<(c.q.nodes.length:Int))=true:=ik;rw[hd];have hX:Hid (X.nV c=X):=by unfold Hid Cx.nV;rw[aE C,aY.o]
   go_wp2;(try simp only[Exit.inBlock,Exit.then])
   refine aG (v:= .tuple #[]) (by simp[results,results288,go_sem]) rfl ⟨rfl,?_⟩;rw[hX.o];exact CS.M BW (CS.D ⟨V,a7⟩ HB)
  have hd:decide ((l.length:Int)<(c.q.nodes.length:Int))=false:=ik;rw[hd];obtain⟨ak,al⟩:=HB.D lq a1 a2;have am:=af lq HB.lt;have b0:Hid (∀T,Bl W T->Mm T gm iC l c.q.D (oN.ev T cP (t+3))):=λT F=>⟨(F.heap ai).H P.mp,P.len,λi e z he hz=>by
   obtain⟨k1,k2⟩:=P.kY i e z he hz
   exact⟨k1,oN.only k2 (jY F) (λ_ _ e=>e.elim) λ_ _ e=>e⟩,P.bo,P.nd,P.ky⟩
  have a8:=gN λT (F:Bl W5 T)=>J9 (w:=T) (cP:=cP) (t:=t+3) (g:=q) (o:=17) (b0 T (HB.H F)) ((F.cell am).H al) aw;have b1:Hid ((c.q.D.filter λz=>z.2.wh==2).length=c.q.count λa=>a.wh==2):=rfl;rw[b1.o]at a8;go_upto_region 6 with fail;go_cut[36] λy wx=>y=.bool ((c.q.count (λa=>a.wh==2):Int)==(c.q.nodes.length:Int))/\Hid (Bl W5 wx)
  case first=>
   go_region_held3(λW=>W.cell? (U q 26)=some (gK (some (U bn on)) c.q.nodes.length cn)) (go_keep) (first|(go_at_call 290;refine(a8 _ ?hb).L ?_;(case hb=>exact jU);rintro en w2⟨rfl,F⟩;have hB:Bl W5 w2:=Bl.H jU F;have z4:=(hB.cell am).H ak;have a9:=gN hB;clear F hB));all_goals(go_wp2_with fail;go_meet)
   all_goals exact⟨rfl,a9⟩
  case rest=>
   obtain⟨rfl,a9⟩:=hcut;have M:=gN (HB.H a9);by_cases an:c.q.count (λa=>a.wh==2)=c.q.nodes.length
   .have aa:((c.q.count (λa=>a.wh==2):Int)==(c.q.nodes.length:Int))=true:=ik;rw[aa];have a3:∃e∈l,e.k=c.q.nodes.headD 0:=by obtain⟨z,b2,b3⟩:=hL.hd.resolve_left C;obtain⟨i,hi,rfl⟩:=aV.1 b2;have ap:i<l.length:=C;exact⟨l[i],aL ap,by rw[(P.kY i l[i] _ (ah ap) (ah hi)).1];exact b3⟩
    obtain⟨j,e,e1,e2,e4⟩:=NL l _ a3;have hj:=(aj.1 e1).1;have aq:j<c.q.D.length:=C;obtain⟨f1,s,f2,f3⟩:=P.kY j e c.q.D[j] e1 (ah aq);have ar:=U5 P.ky (ah aq) (c.q.nodes.headD 0) (by rw[<-e2,f1]);have hX:Hid (X.nV c=X.fin c (Cx.vh c.q.D[j].2.ct)):=by unfold Hid Cx.nV;rw[az C,aE an,ar];rfl
    obtain⟨sa,sc,rfl⟩:=f3.D;rw[ay]at f2 f3;generalize c.q.D[j].2=Z at*;rw[f2]at e4;have S:=(M.heap ai).H Hm;have b9:=e4 wc gm iC S;have b4:=λk=>e4 (wc.drewN k) gm iC S;have b5:=e4 wc.drew gm iC S;have c0:wc.cell? (U bn on)=some (I (c.q.nodes.headD 0)):=by
     have:=Q 0 (I (c.q.nodes.headD 0)) (by
      cases b6:c.q.nodes with
      |nil=>have:=hL.ne;rw[b6]at this;simp at this
      |cons y ys=>rfl)
     exact(M.cell ac).H this
    obtain⟨ba,bb⟩:=M.D lq a1 a2;have bc:=af lq M.lt;have bl:=af ac M.lt;have bm:(0:Int)<(c.q.nodes.length:Int):=by have:=hL.ne;omega
    have bd:=λW=>Sj W Z.wh Z.ep Z.mark Z.ct.kd Z.ct.cl Z.ct.ca sa Z.ct.val.length sc;obtain⟨HT,b7⟩:=gO (QL Z.ct.kd Z.ct.cl Z.ct.ca sa Z.ct.val.length sc) f3;have HN:Hid (∀T,Bl wc T->_):=λT F=>DE (a7.bl (M.H F) (fz:=cP) ib) hc (Cx.vh Z.ct) sa sc (b7.bl (M.H F) λ_ _ e=>e);simp only[show(Cx.vh Z.ct).wh=Z.ct.kd from rfl,show(Cx.vh Z.ct).ad=0 from rfl,show(Cx.vh Z.ct).val=Z.ct.val from rfl]at HN;rw[Hq.o]at HN;clear e4 ar e1 e2 a3 f1 f2 f3 S a8 ak al a1 a2 Q ag a6;generalize c.q.nodes.headD 0=k0 at*;go_upto_region 7 with fail;go_region_with(first|(go_at_call 308;refine gS (HT _) λw2 F=>?_;have hB:Bl wc w2:=Bl.H jU F;have au:=gN hB;clear F hB)|(go_at_call 96;refine(HN _ (au.H ?hb)).L ?_;(case hb=>exact jU);rintro en w3⟨rfl,hs⟩;obtain⟨HS,b8⟩:=gO hs (au.H jU);clear hs));all_goals
     go_wp2;go_end0;exact⟨rfl,by rw[hX.o];exact CS.M (BW.H (M.H b8)) HS⟩
   have aa:((c.q.count (λa=>a.wh==2):Int)==(c.q.nodes.length:Int))=false:=ik;rw[aa];have hX:Hid (X.nV c=X.fin c ⟨3,0,[]⟩):=by unfold Hid Cx.nV;rw[az C,az an]
   have HN:=gN (DE (a7.bl M (fz:=cP) ib) hc ⟨3,0,[]⟩ none 0 Rd.nil);simp only[dA]at HN;rw[Hq.o]at HN;go_wp2_with(go_at_call 96;refine jA HN λw3 HS=>?_);go_end0;exact⟨rfl,by rw[hX.o];exact CS.M (BW.H M) HS⟩
structure TK(X:Cx)(c:jn):Prop where
 lk:YC c
 wr:c.q.A.kd=2->(X.T c.iA/\c.b<1000)/\c.kind=1
 n4:c.q.A.kd≠4
theorem SV(h:jy w cP t p qb X V)(S:100<=t)(hx:oM X)(hc:c∈X.a)(A:An)(T:A.wh≠4)(H:TK X c)(Y:Option Addr)(Z:Nat)(ht:Rd w cP (t+3) 5 (gK Y A.ct.val.length Z) (A.ct.val.map B8)):iU 273 #[O p,O (qb c.gL),sL A Y Z] w λen w'=>en=iF/\CS w cP t p qb (X.oe c A) w':=by
 have L:=(Bl.refl w).alloc (vK A Y Z);have j:=h.bl L (fz:=cP) ib;have F:=ht.bl L (fz:=cP) λ_ _ e=>e;have BW:=gN L;obtain⟨cv,hk⟩:=j.r.f c hc;have y:=hk.cellAt 17 rfl;have lq:=hk.lt;have a0:=Cx.wv X h.r.a.gL hc;by_cases Q:c.q.A.kd=3
 .have M:=gN (Oj j hc A T H.lk Y Z);have hX:Hid (X.oe c A=X.nV c):=by unfold Hid Cx.oe;rw[aE Q]
  rw[Q]at y;clear h j F ht L hk hx H;unfold sL at M|-;unfold vK at M BW y lq;generalize qb c.gL=q at*;go_enter func273,ntmps273;go_wp2_with(go_at_call 288;refine jA M λw3 HS=>?_);go_end0;exact⟨rfl,by rw[hX.o];exact CS.M BW HS⟩
 by_cases P:c.q.A.kd=2
 .have M:=gN (Qj j S hx hc (H.wr P).1.1 (H.wr P).1.2 (H.wr P).2 A T Y Z F);have hX:Hid (X.oe c A=X.oy c A):=by unfold Hid Cx.oe;rw[az Q,aE P]
  rw[P]at y;clear h j F ht L hk hx H Q;unfold sL at M|-;unfold vK at M BW y lq;generalize qb c.gL=q at*;go_enter func273,ntmps273;go_wp2_with(go_at_call 289;refine jA M λw3 HS=>?_);go_end0;exact⟨rfl,by rw[hX.o];exact CS.M BW HS⟩
 have h4:=H.n4;have hX:X.oe c A=X:=by unfold Cx.oe;rw[az Q,az P,a0]
 have HF:=gN (CS.D ⟨V,h⟩ L);have b3:(c.q.A.kd==3)=false:=je Q;have b2:(c.q.A.kd==2)=false:=je P;have b4:(c.q.A.kd==4)=false:=je h4;rw[hX];clear h j F ht L hx BW hk H a0;unfold sL;unfold vK at HF y lq;generalize qb c.gL=q at*;go_enter func273,ntmps273;go_wp2;go_end0;exact⟨rfl,HF⟩
theorem Q9(w)(b o c)(ns:List Int)(x)(hl:ns.length<=1000)(hc:∀j d,ns[j]?=some d->w.cell? (U b (o+j))=some (I d)):iU 193 #[gK (some (U b o)) ns.length c,I x] w λen w'=>∃r:Int,en=gU (I r)/\(0<=r↔x∈ns)/\w'=w:=by
 have Hc:=gN hc;clear hc;go_enter func193,ntmps193;go_wp2;go_loopw[8](λi wr=>∃j:Nat,j<=ns.length/\i=I j/\wr=w/\Hid (∀t d,t<j->ns[t]?=some d->d≠x)) λi _=>ns.length-(Go.RowKit.intOf i).toNat
 case atStart=>exact⟨0,jR,rfl,rfl,λt d h=>absurd h C⟩
 obtain⟨j,hj,rfl,rfl,HJ⟩:=hrel;by_cases jt:j<ns.length
 .have q0:=Hc j ns[j] (ah jt);have Hm:Hid (ns[j]∈ns):=aL jt;have Hg:=gN (ah jt);have hltI:(j:Int)<(ns.length:Int):=C;generalize ns[j]=y at*;by_cases he:x=y
  .subst he;go_wp2;go_ret;exact⟨_,rfl,⟨λ_=>Hm.o,λ_=>C⟩,rfl⟩
  go_wp2;refine⟨⟨j+1,C,bz,trivial,λt d ht hd=>?_⟩,iD⟩;by_cases e:t=j
  .subst e;rw[Hg.o]at hd;simp at hd;exact λh=>he (h.symm.H hd.symm)
  exact HJ t d C hd
 have hge:¬((j:Int)<(ns.length:Int)):=C;go_wp2;go_ret;refine⟨_,rfl,⟨λh=>absurd h bT,λh=>?_⟩,rfl⟩;obtain⟨i,hi,e⟩:=aV.1 h;exact absurd e (HJ i _ C (ah hi))
theorem CX(w)(b o c)(ns:List Int)(x)(y:ns.length<=1000)(A:∀j d,ns[j]?=some d->w.cell? (U b (o+j))=some (I d)):iU 153 #[gK (some (U b o)) ns.length c,I x] w λh w'=>h=gU (.bool (decide (x∈ns)))/\w'=w:=by
 go_enter func153,ntmps153;go_wp2_with(refine (gN (Q9 w b o c ns x y A)).o.L ?_;rintro h w'⟨r,rfl,F,rfl⟩);go_ret;simp_all
def Ro(w)(a)(c)(x):Calls prog 193 #[gK a 0 c,I x] w λh w'=>h=gU (I (-1))/\w'=w:=by go_wp2;refine Z6 1 ?_;rw[ZZ];go_wp2;go_ret;simp_all
theorem CC(w)(a)(c)(x):iU 153 #[gK a 0 c,I x] w λh w'=>h=gU (.bool false)/\w'=w:=by go_enter func153,ntmps153;go_wp2_with(refine (gN (Ro w a c x)).o.L ?_;rintro h w'⟨rfl,rfl⟩);go_ret;simp_all
def xS{F:Nat}{A:Value}(h:Rd w cP F 3 A (ns.map I))(H:ns.length<=1000)(x):iU 153 #[A,I x] w λL w'=>L=gU (.bool (decide (x∈ns)))/\w'=w:=by
 by_cases M:0<ns.length
 .obtain⟨b,o,c,rfl,Q,_,_,y⟩:=h.cell (je M);rw[ay];exact CX w b o c ns x H λj d P=>y j _ (mZ P)
 have e:ns=[]:=aW.1 C;subst e;obtain⟨a,c,rfl⟩:=h.D;simpa using CC w a c x
def pT(l)(k)(h:∀e∈l,e.k≠k):Instr.findNow (.int .i64) (.int .i64 k) (ie l).toList 0=some none:=by
 have A:(ie l).toList=l.map Ae.A:=by simp[ie]
 obtain⟨F,_⟩|⟨j,x,F,y,H⟩:=ZR (d:= .int .i64) (k:= .int .i64 k) rfl (ie l).toList 0 (rL _)
 .omega
 rw[A,aK]at y;obtain⟨e,L,rfl⟩:=bN.1 y;exact absurd (by simpa [Ae.A]using H) (h e (aR L))
def sV(l)(k)(h:∃e∈l,e.k=k):∃(j:Nat) (e:Ae),l[j]?=some e/\e.k=k/\Instr.findNow (.int .i64) (.int .i64 k) (ie l).toList 0=some (some (j,e.v)):=by
 have F:(ie l).toList=l.map Ae.A:=by simp[ie]
 obtain⟨_,y⟩|⟨j,x,H,y,L⟩:=ZR (d:= .int .i64) (k:= .int .i64 k) rfl (ie l).toList 0 (rL _)
 .obtain⟨e,A,M⟩:=h;exact absurd (by rw[<-M];rfl) (y e.A (by rw[F];exact aD.2 ⟨e,A,rfl⟩))
 rw[F,aK]at y;obtain⟨e,A,rfl⟩:=bN.1 y;exact⟨j,e,A,by simpa [Ae.A]using L,by simpa [Ae.A]using H⟩
structure Xd{α:Type}[oN α](w:World)(cP:Nat->Nat)(ga t g o:Nat)(q:Qn α)(V:QV):Prop where
 r:QR w cP ga t q V
 c2:w.cell? (U g (o+2))=some (I q.A.nr)
 c9:w.cell? (U g (o+9))=some V.nv
 UO:w.cell? (U g (o+11))=some V.av
 lg:g<w.heap.size
 l:q.nodes.length<=100
def Tq(w):(zeroValue 215).run prog w=.ok (.agg #[I 0,I 0,I 0,I 0,I 0,I 0,OO]) w:=rfl
def A8(w)(gm n)(l)(j:w.heap[gm]?=some (.map (ie l) n))(k)(h:∀e∈l,e.k≠k):(Instr.lookup 101 (.map (some gm)) (.int .i64 k) true).run prog w=.ok (.tuple #[.agg #[.int .i64 0,.int .i64 0,.int .i64 0,.int .i64 0,.int .i64 0,.int .i64 0,gK none 0 0],.bool false]) w:=by
 have y:=fa (w:=w) underlying3 (pT l k h);have A:=eW (P:=prog) (w:=w) (k:= .int .i64 k) underlying3 vN (ie l).isEmpty 9999;have F:=Tq w;simp[Instr.lookup,Sem.run_bind,Result.andThen,aI j,A,y,F]
def yE(w)(gm n)(l)(y:w.heap[gm]?=some (.map (ie l) n))(k)(h:∃e∈l,e.k=k):∃(j:Nat) (e:Ae),l[j]?=some e/\e.k=k/\(Instr.lookup 101 (.map (some gm)) (.int .i64 k) true).run prog w=.ok (.tuple #[e.v,.bool true]) w:=by
 obtain⟨j,z,A,F,H⟩:=sV l k h;have L:=fa (w:=w) underlying3 H;have M:=eW (P:=prog) (w:=w) (k:= .int .i64 k) underlying3 vN (ie l).isEmpty 9999;exact⟨j,z,A,F,by simp[Instr.lookup,aI y,M,L]⟩
def yC(w)(k):(Instr.lookup 101 (.map none) (.int .i64 k) true).run prog w=.ok (.tuple #[.agg #[.int .i64 0,.int .i64 0,.int .i64 0,.int .i64 0,.int .i64 0,.int .i64 0,gK none 0 0],.bool false]) w:=rfl
theorem oK{o:Nat}{q:Qn An}{V:QV}(h:Xd w cP ga t g o q V)(k x):iU 269 #[.pointer (some (U g o)),I k,I x] w λen w'=>en=gU (.bool (q.M k x))/\Bl w w':=by
 obtain⟨A,c2,c9,UO,lg,hl⟩:=h;obtain⟨T,Y,Z,x3,x4,x5,va,vn,vc,P,F,a0⟩:∃(T Y Z x3 x4 x5:Int) (va:Option Addr) (vn vc:Nat) (P:Bool),P=q.T x/\(Instr.lookup 101 V.av (I x) true).run prog w=.ok (.tuple #[.agg #[I T,I Y,I Z,I x3,I x4,I x5,gK va vn vc],.bool P]) w:=by
  obtain⟨e0,e⟩|⟨gm,iC,l,e0,_,H⟩:=A.D
  .exact⟨0,0,0,0,0,0,none,0,0,false,by unfold Qn.T;rw[e];rfl,by rw[e0];exact yC w x⟩
  rw[e0];have a3:=H.len;by_cases hx:∃e∈l,e.k=x
  .obtain⟨j,e,e1,e2,e3⟩:=yE w gm iC l H.mp x hx;have hj:=(aj.1 e1).1;have a1:j<q.D.length:=C;obtain⟨f1,s,f2,f3⟩:=H.kY j e q.D[j] e1 (ah a1);obtain⟨a,cc,rfl⟩:=f3.D;refine⟨_,_,_,_,_,_,_,_,_,true,?_,kz e3 f2⟩
   symm
   unfold Qn.T;rw[cK];exact⟨q.D[j],aL _,by simpa using f1.symm.H e2⟩
  refine⟨0,0,0,0,0,0,none,0,0,false,?_,A8 w gm iC l H.mp x λe Q e'=>hx ⟨e,Q,e'⟩⟩
  symm
  unfold Qn.T;rw[dm];intro z a2 e;obtain⟨i,hi,rfl⟩:=aV.1 a2;have L:i<l.length:=C;exact hx ⟨l[i],aL L,by rw[(H.kY i l[i] _ (ah L) (ah hi)).1];simpa using e⟩
 have S:=(Bl.refl w).alloc (ig #[I T,I Y,I Z,I x3,I x4,I x5,gK va vn vc] 215);have HC:=gN (xS (A.nodes.bl S (fz:=cP) λ_ _ e=>e) C x);obtain⟨d2,d9⟩:=S.D lg c2 c9;have HA:=gN S;obtain⟨na,nc,y⟩:=A.nodes.D;rw[ay]at y;rw[y]at d9 HC;have hR:Hid (q.M k x=(decide (q.A.nr=k)&&decide (x∈q.nodes)&& !P)):=by unfold Hid Qn.M;rw[F,dr];simp
 rw[hR.o];obtain⟨a4,M⟩:∃z,V.av=.map z:=by obtain⟨e,_⟩|⟨gm,iC,l,e,_⟩:=A.D<;>exact⟨_,e⟩
 rw[M]at UO a0;clear A S F hR M y c9;by_cases Q:q.A.nr=k
 .subst Q;go_enter func269,ntmps269;go_wp2_with(go_at_call 153;refine HC.L ?_;rintro en w'⟨rfl,rfl⟩);all_goals
   go_ret;exact⟨by simp_all,HA⟩
 go_enter func269,ntmps269;go_wp2;all_goals
  go_ret;exact⟨mZ Q,HA⟩
def TZ(w):(zeroValue 222).run prog w=.ok (.agg #[I 0,I 0,I 0,OO]) w:=rfl
def AR(w)(gm n)(l)(j:w.heap[gm]?=some (.map (ie l) n))(k)(h:∀e∈l,e.k≠k):(Instr.lookup 104 (.map (some gm)) (.int .i64 k) true).run prog w=.ok (.tuple #[.agg #[.int .i64 0,.int .i64 0,.int .i64 0,gK none 0 0],.bool false]) w:=by
 have y:=fa (w:=w) underlying3 (pT l k h);have A:=eW (P:=prog) (w:=w) (k:= .int .i64 k) underlying3 vN (ie l).isEmpty 9999;have F:=TZ w;simp[Instr.lookup,Sem.run_bind,aI j,A,y,F]
def yD(w)(gm n)(l)(y:w.heap[gm]?=some (.map (ie l) n))(k)(h:∃e∈l,e.k=k):∃(j:Nat) (e:Ae),l[j]?=some e/\e.k=k/\(Instr.lookup 104 (.map (some gm)) (.int .i64 k) true).run prog w=.ok (.tuple #[e.v,.bool true]) w:=by
 obtain⟨j,z,A,F,H⟩:=sV l k h;have L:=fa (w:=w) underlying3 H;have M:=eW (P:=prog) (w:=w) (k:= .int .i64 k) underlying3 vN (ie l).isEmpty 9999;exact⟨j,z,A,F,by simp[Instr.lookup,aI y,M,L]⟩
def yX(w)(k):(Instr.lookup 104 (.map none) (.int .i64 k) true).run prog w=.ok (.tuple #[.agg #[.int .i64 0,.int .i64 0,.int .i64 0,gK none 0 0],.bool false]) w:=rfl
theorem sX{o:Nat}{q:Qn Vo}{V:QV}(h:Xd w cP ga t g o q V)(k x):iU 251 #[.pointer (some (U g o)),I k,I x] w λen w'=>en=gU (.bool (q.M k x))/\Bl w w':=by
 obtain⟨A,c2,c9,UO,lg,hl⟩:=h;obtain⟨T,Y,Z,va,vn,vc,P,F,a0⟩:∃(T Y Z:Int) (va:Option Addr) (vn vc:Nat) (P:Bool),P=q.T x/\(Instr.lookup 104 V.av (I x) true).run prog w=.ok (.tuple #[.agg #[I T,I Y,I Z,gK va vn vc],.bool P]) w:=by
  obtain⟨e0,e⟩|⟨gm,iC,l,e0,_,H⟩:=A.D
  .exact⟨0,0,0,none,0,0,false,by unfold Qn.T;rw[e];rfl,by rw[e0];exact yX w x⟩
  rw[e0];have a3:=H.len;by_cases hx:∃e∈l,e.k=x
  .obtain⟨j,e,e1,e2,e3⟩:=yD w gm iC l H.mp x hx;have hj:=(aj.1 e1).1;have a1:j<q.D.length:=C;obtain⟨f1,s,f2,f3⟩:=H.kY j e q.D[j] e1 (ah a1);obtain⟨a,cc,rfl⟩:=f3.D;refine⟨_,_,_,_,_,_,true,?_,kz e3 f2⟩
   symm
   unfold Qn.T;rw[cK];exact⟨q.D[j],aL _,by simpa using f1.symm.H e2⟩
  refine⟨0,0,0,none,0,0,false,?_,AR w gm iC l H.mp x λe Q e'=>hx ⟨e,Q,e'⟩⟩
  symm
  unfold Qn.T;rw[dm];intro z a2 e;obtain⟨i,hi,rfl⟩:=aV.1 a2;have L:i<l.length:=C;exact hx ⟨l[i],aL L,by rw[(H.kY i l[i] _ (ah L) (ah hi)).1];simpa using e⟩
 have S:=(Bl.refl w).alloc (ig #[I T,I Y,I Z,gK va vn vc] 222);have HC:=gN (xS (A.nodes.bl S (fz:=cP) λ_ _ e=>e) C x);obtain⟨d2,d9⟩:=S.D lg c2 c9;have HA:=gN S;obtain⟨na,nc,y⟩:=A.nodes.D;rw[ay]at y;rw[y]at d9 HC;have hR:Hid (q.M k x=(decide (q.A.nr=k)&&decide (x∈q.nodes)&& !P)):=by unfold Hid Qn.M;rw[F,dr];simp
 rw[hR.o];obtain⟨a4,M⟩:∃z,V.av=.map z:=by obtain⟨e,_⟩|⟨gm,iC,l,e,_⟩:=A.D<;>exact⟨_,e⟩
 rw[M]at UO a0;clear A S F hR M y c9;by_cases Q:q.A.nr=k
 .subst Q;go_enter func251,ntmps251;go_wp2_with(go_at_call 153;refine HC.L ?_;rintro en w'⟨rfl,rfl⟩);all_goals
   go_ret;exact⟨by simp_all,HA⟩
 go_enter func251,ntmps251;go_wp2;all_goals
  go_ret;exact⟨mZ Q,HA⟩
def vS(l)(e):ie (l++[e])=(ie l).push e.A:=by simp[ie]
def pU(w)(gm n)(l)(j:w.heap[gm]?=some (.map (ie l) n))(k)(v)(h:∀e∈l,e.k≠k):(Instr.mapUpdate 101 (.map (some gm)) (I k) v).run prog w=.ok () (setBlock w gm (.map (ie (l++[⟨k,v,n⟩])) (n+1))):=by
 simp only[Instr.mapUpdate,Sem.run_bind,Z4 underlying101,Result.andThen,aI j,(eW (P:=prog) (k:= I k) underlying3 vN false 9999),(fa (w:=w) underlying3 (pT l k h))];rw[Z7 _ j,vS];rfl
def AA(w)(gm n)(l)(j:w.heap[gm]?=some (.map (ie l) n))(k)(v)(h:∀e∈l,e.k≠k):(Instr.mapUpdate 104 (.map (some gm)) (I k) v).run prog w=.ok () (setBlock w gm (.map (ie (l++[⟨k,v,n⟩])) (n+1))):=by
 simp only[Instr.mapUpdate,Sem.run_bind,Z4 underlying104,Result.andThen,aI j,(eW (P:=prog) (k:= I k) underlying3 vN false 9999),(fa (w:=w) underlying3 (pT l k h))];rw[Z7 _ j,vS];rfl
section
variable{α:Type}[oN α]{zz:List (Int×α)}
def Mm.Rw(h:Mm w gm iC l zz (oN.ev w cP t))(y:∀z∈zz,z.1≠k):∀e∈l,e.k≠k:=λe A=>by obtain⟨i,F,rfl⟩:=aV.1 A;have H:=h.len;have j:i<zz.length:=C;rw[(h.kY i l[i] zz[i] (ah F) (ah j)).1];exact y _ (aL j)
def Mm.add(h:Mm w gm iC l zz (oN.ev w cP t))(S:cP gm≠t)(T:∀z∈zz,z.1≠k)(A)(v)(Y:oN.ev w cP t A v):Mm (setBlock w gm (.map (ie (l++[⟨k,v,iC⟩])) (iC+1))) gm (iC+1) (l++[⟨k,v,iC⟩]) (zz++[(k,A)]) (oN.ev (setBlock w gm (.map (ie (l++[⟨k,v,iC⟩])) (iC+1))) cP t):=by
 have M:gI (λb=>b=gm) w (setBlock w gm (.map (ie (l++[⟨k,v,iC⟩])) (iC+1))):=kS _ _ _;have P:∀b,b<w.heap.size->b=gm->cP b≠t:=λb _ e=>jf e S;have Q:=h.len;refine⟨ou (ae.1 h.mp).1 _,mZ Q,λi e z he j=>?_,λe he=>?_,?_,?_⟩
 .by_cases Z:i<l.length
  .rw[aB Z]at he;rw[aB C]at j;obtain⟨k1,k2⟩:=h.kY i e z he j;exact⟨k1,oN.only k2 M P λ_ _ e=>e⟩
  have H:i=l.length:=by have:=(aj.1 he).1;simp at this;omega
  subst H;simp at he;rw[Q]at j;simp at j;subst he;subst j;exact⟨rfl,oN.only Y M P λ_ _ e=>e⟩
 .obtain he|he:=aT.1 he
  .have:=h.bo e he;omega
  simp at he;subst he;exact fo _
 .rw[aZ,cX];refine⟨h.nd,bz,λx L y F=>?_⟩;obtain⟨e,he,rfl⟩:=aD.1 L;simp at F;have:=h.bo e he;omega
 rw[aZ,cX];refine⟨h.ky,bz,λx L y F=>?_⟩;obtain⟨z,j,rfl⟩:=aD.1 L;simp at F;rw[F];exact T z j
end
abbrev rI(w:World)(gm iC:Nat)(l:List Ae)(k:Int)(v:Value):World:=setBlock w gm (.map (ie (l++[⟨k,v,iC⟩])) (iC+1))
def yQ{α:Type}{q:Qn α}(h:q.T fr=false):∀z∈q.D,z.1≠fr:=λz j e=>by unfold Qn.T at h;rw[dm]at h;exact h z j (je e)
section
variable{α:Type}[oN α]{q:Qn α}{V:QV}
def QR.add(h:QR w cP g t q V)(H:g≠t)(P:q.nodes≠[])(L:q.T fr=false)(A)(v)(Q:oN.ev w cP t A v):∃gm iC l,V.av=.map (some gm)/\cP gm=g/\w.heap[gm]?=some (.map (ie l) iC)/\(∀e∈l,e.k≠fr)/\QR (rI w gm iC l fr v) cP g t (q.add fr A) V/\gI (λb=>b=gm) w (rI w gm iC l fr v):=by
 obtain⟨e,_⟩|⟨gm,iC,l,e,j,y⟩:=h.D
 .exact absurd (h.nil e) P
 have F:gI _ w (rI w gm iC l fr v):=kS _ _ _;have M:∀b,b<w.heap.size->b=gm->cP b≠t:=λb _ e=>by rw[e,j];exact H
 exact⟨gm,iC,l,e,j,y.mp,y.Rw (yQ L),⟨h.val.only F M λ_ _ e=>e,h.nodes.only F M λ_ _ e=>e,.inr ⟨gm,iC+1,_,e,j,y.add (jf j H) (yQ L) A v Q⟩,λe'=>by rw[e]at e';simp at e'⟩,F⟩
end
def jy.Zi(h:jy w cP t p qb X V)(F:c∈X.a)(S:c.q.nodes≠[])(T:c.q.T fr=false)(A)(v)(Y:oN.ev w cP (t+3) A v):∃gm iC l,w.cell? (U (qb c.gL) 28)=some (.map (some gm))/\w.heap[gm]?=some (.map (ie l) iC)/\(∀e∈l,e.k≠fr)/\jy (rI w gm iC l fr v) cP t p qb (X.put {c with q:=c.q.add fr A}) V/\gI (λb=>Mc t (cP b)) w (rI w gm iC l fr v)/\gI (λb=>b=gm) w (rI w gm iC l fr v)/\cP gm=t+9+2*c.a:=by
 obtain⟨cv,k⟩:=h.r.f c F;obtain⟨gm,iC,l,Z,L,e3,e4,e5,j⟩:=k.q.add C S T A v Y;have y:=k.cellAt 28 rfl;rw[Z]at y;have h8:=h.r.a.A c F;have M:∀b,b<w.heap.size->b=gm->cP b≠t+3:=λb _ e=>by rw[e,L];omega
 have Q:gI (λb=>cP b=t+8+2*c.a\/cP b=t+9+2*c.a) w (rI w gm iC l fr v):=j.L λb _ e=>.inr (jf e L);have P:lS (rI w gm iC l fr v) cP t (qb c.gL) {c with q:=c.q.add fr A} cv:=⟨(j.block _ k.lt λe=>by have:=k.tq;rw[e,L]at this;omega).H k.hq,k.tq,k.ij.only j M λ_ _ e=>e,k.d.only j M λ_ _ e=>e,k.e.only j M λ_ _ e=>e,e5⟩;exact⟨gm,iC,l,y,e3,e4,h.call F Q P rfl rfl,h.I4 F Q,j,L⟩
def jy.DQ(h:jy w cP t p qb X V)(P:X.c.nodes≠[])(Q:X.c.T fr=false)(A)(v)(S:oN.ev w cP (t+3) A v):∃gm iC l,w.cell? (U p 21)=some (.map (some gm))/\w.heap[gm]?=some (.map (ie l) iC)/\(∀e∈l,e.k≠fr)/\jy (rI w gm iC l fr v) cP t p qb {X with c:=X.c.add fr A} V/\gI (λb=>Mc t (cP b)) w (rI w gm iC l fr v):=by
 obtain⟨gm,iC,l,T,y,Y,Z,e5,j⟩:=h.r.pr.add C P Q A v S;have F:=h.cellAt 21 rfl;rw[T]at F;have L:∀b,b<w.heap.size->cP b=cP b:=λ_ _=>rfl;have M:∀b,b<w.heap.size->b=gm->cP b≠t+3:=λb _ e=>by rw[e,y];omega
 refine⟨gm,iC,l,F,Y,Z,⟨(j.block p h.A λe=>by have:=h.tp;rw[e,y]at this;omega).H h.hp,h.tp,h.r.lay.only j M λ_ _ e=>e,h.r.e.only j M (λb _ e=>by rw[e,y];omega) L,h.r.tb,(j.block _ h.r.lb λe=>by have:=h.r.tb;rw[e,y]at this;omega).H h.r.mp,h.r.bo,h.r.bn,e5,h.r.sl.only j M (λb _ e=>by rw[e,y];omega) L,h.r.vt.only j M (λb _ e=>by rw[e,y];omega) L,h.r.bg.only j (λb _ e=>by rw[e,y];omega) L,h.r.b.only j M λ_ _ e=>e,λd hd=>?_,h.r.a.gL,h.r.a.lt,h.r.a.a,h.r.a.A⟩,j.L λb _ e=>by rw[e,y];unfold Mc;omega⟩;obtain⟨dv,hk⟩:=h.r.f d hd;exact⟨dv,hk.only j (λb _ e=>by rw[e,y];omega) L⟩
def jy.Zx(h:jy w cP t p qb X V)(P:X.mv.a.nodes≠[])(Q:X.mv.a.T fr=false)(A)(v)(S:oN.ev w cP (t+3) A v):∃gm iC l,w.cell? (U p 40)=some (.map (some gm))/\w.heap[gm]?=some (.map (ie l) iC)/\(∀e∈l,e.k≠fr)/\jy (rI w gm iC l fr v) cP t p qb {X with mv:={X.mv with a:=X.mv.a.add fr A}} V/\gI (λb=>Mc t (cP b)) w (rI w gm iC l fr v):=by
 obtain⟨gm,iC,l,T,y,Y,Z,e5,j⟩:=h.r.sl.add C P Q A v S;have F:=h.cellAt 40 rfl;rw[T]at F;have L:∀b,b<w.heap.size->cP b=cP b:=λ_ _=>rfl;have M:∀b,b<w.heap.size->b=gm->cP b≠t+3:=λb _ e=>by rw[e,y];omega
 refine⟨gm,iC,l,F,Y,Z,⟨(j.block p h.A λe=>by have:=h.tp;rw[e,y]at this;omega).H h.hp,h.tp,h.r.lay.only j M λ_ _ e=>e,h.r.e.only j M (λb _ e=>by rw[e,y];omega) L,h.r.tb,(j.block _ h.r.lb λe=>by have:=h.r.tb;rw[e,y]at this;omega).H h.r.mp,h.r.bo,h.r.bn,h.r.pr.only j M (λb _ e=>by rw[e,y];omega) L,e5,h.r.vt.only j M (λb _ e=>by rw[e,y];omega) L,h.r.bg.only j (λb _ e=>by rw[e,y];omega) L,h.r.b.only j M λ_ _ e=>e,λd hd=>?_,h.r.a.gL,h.r.a.lt,h.r.a.a,h.r.a.A⟩,j.L λb _ e=>by rw[e,y];unfold Mc;omega⟩;obtain⟨dv,hk⟩:=h.r.f d hd;exact⟨dv,hk.only j (λb _ e=>by rw[e,y];omega) L⟩
def jy.JM(h:jy w cP t p qb X V)(j:X.c.nodes.length<=100):Xd w cP (t+4) (t+3) p 10 X.c V.pr:=⟨h.r.pr,h.cellAt 12 rfl,h.cellAt 19 rfl,h.cellAt 21 rfl,h.A,j⟩
def jy.Ku(h:jy w cP t p qb X V)(j:X.mv.a.nodes.length<=100):Xd w cP (t+5) (t+3) p 29 X.mv.a V.sl:=⟨h.r.sl,h.cellAt 31 rfl,h.cellAt 38 rfl,h.cellAt 40 rfl,h.A,j⟩
def jy.JX(h:jy w cP t p qb X V)(j:X.mv.A.nodes.length<=100):Xd w cP (t+6) (t+3) p 41 X.mv.A V.vt:=⟨h.r.vt,h.cellAt 43 rfl,h.cellAt 50 rfl,h.cellAt 52 rfl,h.A,j⟩
def lS.Vv(k:lS w cP t q c cv)(h:c.q.nodes.length<=100):Xd w cP (t+9+2*c.a) (t+3) q 17 c.q cv.q:=⟨k.q,k.cellAt 19 rfl,k.cellAt 26 rfl,k.cellAt 28 rfl,k.lt,h⟩
structure B4(X:Cx):Prop where
 pr:X.c.nodes.length<=100
 sl:X.mv.a.nodes.length<=100
 vt:X.mv.A.nodes.length<=100
 cl:∀c∈X.a,c.q.nodes.length<=100
theorem yL(h:jy w cP t p qb X V)(Q:B4 X)(fr nr)(S:X.c.M nr fr=true):iU 249 #[O p,I fr,I nr] w λT w'=>T=gU (.tuple #[.pointer (some (U p 10)),.func (.func 270) #[] #[]])/\Bl w w':=by
 obtain⟨W,L⟩:=gG (w.alloc (ig #[O p] 94));have A:=(Bl.refl w).alloc (ig #[O p] 94);have F:=ao w (ig #[O p] 94);rw[L]at A F;have Y:W.cell? (U w.heap.size 0)=some (O p):=ax W w.heap.size 0 _ 94 (0,0) F;have M:=(ae.1 F).1;have y:=h.bl A (fz:=cP) ib;have P:=gN (oK (y.JM Q.pr) nr fr);rw[S]at P;have Z:=y.A;obtain⟨BW,HW⟩:=gO A L;clear h y L A F;go_enter func249,ntmps249;go_upto_region 1 with fail;rw[HW.o];go_wp2_with(go_at_call 269;refine gS P λw2 j=>?_;have z0:=(j.cell M).H Y;have a0:=af Z j.lt;have a1:=af M j.lt;have HB:=gN (BW.H j);clear j);go_ret2;exact⟨rfl,HB⟩
theorem yV(h:jy w cP t p qb X V)(hl:B4 X)(fr nr)(hw:X.c.M nr fr=false)(hs:X.mv.a.M nr fr=true):iU 249 #[O p,I fr,I nr] w λen w'=>en=gU (.tuple #[.pointer (some (U p 29)),.func (.func 271) #[O p] #[]])/\Bl w w':=by
 obtain⟨W,S⟩:=gG (w.alloc (ig #[O p] 94));have M:=(Bl.refl w).alloc (ig #[O p] 94);have P:=ao w (ig #[O p] 94);rw[S]at M P;have T:W.cell? (U w.heap.size 0)=some (O p):=ax W w.heap.size 0 _ 94 (0,0) P;have Q:=(ae.1 P).1;have A:=h.bl M (fz:=cP) ib;have Y:=gN (oK (A.JM hl.pr) nr fr);rw[hw]at Y;have HS:Hid (∀W2,Bl W W2->_):=λW2 j=>oK ((A.bl j (fz:=cP) ib).Ku hl.sl) nr fr;rw[hs]at HS;have lp:=A.A;obtain⟨BW,HW⟩:=gO M S;clear h A S M P;go_enter func249,ntmps249;go_upto_region 1 with fail;rw[HW.o];go_wp2_with fail;refine gS Y λw2 j=>?_;have z0:=(j.cell Q).H T;have a0:=af lp j.lt;have a1:=af Q j.lt;have F:=gN j;clear j Y;go_wp2_with fail;refine gS (HS _ F) λw3 L=>?_;have y:=F.H L;have y0:=(y.cell Q).H T;have a2:=af lp y.lt;have a3:=af Q y.lt;have Z:=gN y;clear L y z0 T;go_upto_region 4 with fail;go_region;all_goals
  go_wp2;go_ret2;exact⟨rfl,BW.H (Z.H jU)⟩
theorem zX(h:jy w cP t p qb X V)(hl:B4 X)(fr nr)(hw:X.c.M nr fr=false)(hs:X.mv.a.M nr fr=false):iU 249 #[O p,I fr,I nr] w λen w'=>Bl w w'/\((∃c∈X.a,c.q.M nr fr=true/\∃g1 g2,en=gU (.tuple #[.pointer (some (U (qb c.gL) 17)),.func (.func 272) #[] #[O g1,O g2]])/\w.heap.size<=g1/\w.heap.size<=g2/\w'.heap[g1]?=some (ig #[O p] 94 (0,0))/\w'.heap[g2]?=some (ig #[O (qb c.gL)] 163 (0,0)))\/((∀c∈X.a,c.q.M nr fr=false)/\en=gU (.tuple #[.pointer none,.nilFunc]))):=by
 obtain⟨W,hW⟩:=gG (w.alloc (ig #[O p] 94));have bW:=(Bl.refl w).alloc (ig #[O p] 94);have hX:=ao w (ig #[O p] 94);rw[hW]at bW hX;have r0:W.cell? (U w.heap.size 0)=some (O p):=ax W w.heap.size 0 _ 94 (0,0) hX;have lr:=(ae.1 hX).1;have y:=h.bl bW (fz:=cP) ib;have HA:=gN (oK (y.JM hl.pr) nr fr);rw[hw]at HA;have HS:Hid (∀W2,Bl W W2->_):=λW2 F=>oK ((y.bl F (fz:=cP) ib).Ku hl.sl) nr fr;rw[hs]at HS;have HQ:Hid (∀c∈X.a,∀W2,Bl W W2->iU 269 #[.pointer (some (U (qb c.gL) 17)),I nr,I fr] W2 λen w'=>en=gU (.bool (c.q.M nr fr))/\Bl W2 w'):=λc L W2 F=>by obtain⟨cv,hk⟩:=(y.bl F (fz:=cP) ib).r.f c L;exact oK (hk.Vv (hl.cl c L)) nr fr
 have ab:=gN h.r.a.gL;have HL:Hid (∀c∈X.a,qb c.gL<W.heap.size):=λc L=>by obtain⟨cv,hk⟩:=y.r.f c L;exact hk.lt
 have a4:Hid (∀x∈(ie (X.a.map (kU qb V.bo))).toList,∃c∈X.a,x=(kU qb V.bo c).A):=λx hx=>by obtain⟨e,he,rfl⟩:=my hx;obtain⟨c,L,rfl⟩:=aD.1 he;exact⟨c,L,rfl⟩
 have a5:Hid (∀c∈X.a,(kU qb V.bo c).A∈(ie (X.a.map (kU qb V.bo))).toList):=λc L=>by
  have:(ie (X.a.map (kU qb V.bo))).toList=(X.a.map (kU qb V.bo)).map Ae.A:=by simp[ie]
  rw[this];exact aD.2 ⟨_,aD.2 ⟨c,L,rfl⟩,rfl⟩
 have ac:Hid (∀x∈(ie (X.a.map (kU qb V.bo))).toList,x.born<V.iC):=λx hx=>by obtain⟨c,L,rfl⟩:=a4 x hx;exact h.r.bo c L
 have ad:Hid ((ie (X.a.map (kU qb V.bo))).toList.map (·.born)).Nodup:=by
  have:(ie (X.a.map (kU qb V.bo))).toList.map (·.born)=X.a.map λc=>V.bo c.gL:=by simp[ie,Function.comp_def,Ae.A,kU]
  unfold Hid;rw[this];exact h.r.bn
 have lp:=y.A;have lb:=y.r.lb;have d8:=y.cellAt 8 rfl;obtain⟨Hm,BW,HW,HX⟩:=kN y.r.mp bW hW hX;clear h y hW bW hX;generalize V.bm=bm at*;generalize V.iC=iC at*;generalize V.bo=bo at*;generalize ie (X.a.map (kU qb bo))=es at*;go_enter func249,ntmps249;go_upto_region 1 with fail;rw[HW.o];go_wp2_with fail;refine gS HA λw2 F=>?_;have z0:=(F.cell lr).H r0;have aq:=af lp F.lt;have ar:=af lr F.lt;have a6:=gN F;clear F HA;go_wp2_with fail;refine gS (HS _ a6) λw3 a7=>?_;have M:=a6.H a7;have y0:=(M.cell lr).H r0;have y8:=(M.cell lp).H d8;have ag:=gN ((M.heap lb).H Hm);have au:=af lp M.lt;have T:=af lr M.lt;have ai:=M.lt;have Q:=gN M;clear a7 M z0 r0 d8 HS;go_wp2_with(at_range;refine kR _ rfl _ 98 rfl 3 163 underlying98 bm es iC rfl ag ac ad ?_;intro hI;have HI:=gN hI;clear hI);go_frame;go_loopw[](λwr=>∃j:List MapEntry,Hid (Bl w3 wr)/\Hid (It wr w3.heap.size bm es iC j)/\Hid (∀c∈X.a,(kU qb bo c).A∈j->c.q.M nr fr=false)) λwr=>es.size-(wr.iterSeen w3.heap.size).size
 case atStart=>exact⟨[],jZ.alloc _,HI,λc _ h=>mR h⟩
 obtain⟨j,HB,HJ,HD⟩:=hrel;have x0:=(HB.cell T).H y0;have av:=af T HB.lt;go_wp2_with(at_next;refine lJ _ rfl _ rfl w3.heap.size bm iC es j rfl HJ ?_ ?_)
 .intro h0;have HF:Hid (∀c∈X.a,c.q.M nr fr=false):=λc L=>HD.o c L (h0.mem_iff.2 (a5 c L));clear h0;go_wp2;go_ret2;exact⟨BW.H (Q.H HB),.inr ⟨HF,rfl⟩⟩
 intro e WW he a8 hO a9;obtain⟨c,L,rfl⟩:=a4 e (je he);have S:Bl w3 WW:=HB.A hO λb hb=>C;have u0:=(S.cell T).H y0;have aw:=af T S.lt;have ak:=af (HL c L) (aF ai S.lt);obtain⟨Y,al,Z⟩:=iI S a8 (HQ c L);have am:Hid (∀d∈X.a,(kU qb bo d).A∈j->d.q.M nr fr=false):=HD.o;have Hc:=gN L;have ap:(Instr.entry (O w3.heap.size)).run prog WW=.ok (.tuple #[I (c.gL:Nat),O (qb c.gL)]) WW:=a9;clear a8 hO a9 he S x0 L;simp only[show(kU qb bo c).A.key=I (c.gL:Nat)from rfl,show(kU qb bo c).A.val= O (qb c.gL)from rfl];generalize hq:qb c.gL=q at*;have Hq:=gN hq;clear hq;have HN:=gN (ao WW (ig #[O q] 163))
 cases a0:c.q.M nr fr with
 |true=>rw[a0]at Z;go_wp2_with(go_at_call 269;refine gS (Z _ (Q.H (Y.alloc _))) λw5 P=>?_;have a1:=(P.heap bz).H HN;have v0:=ax w5 WW.heap.size 0 _ 163 (0,0) a1;have l5:=(ae.1 a1).1;have aY:=af ak (aF bz P.lt);obtain⟨a2,an⟩:=gO ((Y.alloc _).H P) a1;clear P a1);go_ret2;refine⟨BW.H (Q.H a2),.inl ⟨c,Hc,a0,w.heap.size,WW.heap.size,by rw[Hq.o];rfl,jr,C,?_,jf Hq.o an⟩⟩;exact((Q.H a2).heap lr).H HX
 |false=>
  rw[a0]at Z;go_wp2_with(go_at_call 269;refine gS (Z _ (Q.H (Y.alloc _))) λw5 P=>?_;obtain⟨a2,a3⟩:=gO ((Y.alloc _).H P) ((al.bl ((Bl.refl WW).alloc _)).bl P);clear P);go_roundw
  case rel=>exact⟨(kU qb bo c).A::j,a2,a3,λd hd hm=>by
   obtain e|e:=bh.1 hm
   .have:d.q.M nr fr=c.q.M nr fr:=by
     have aa:d.gL=c.gL:=by
      have:=Z5 MapEntry.key e
      simp[Ae.A,kU]at this
      omega
     rw[rS ab.o hd Hc.o aa]
    rw[this];exact a0
   .exact am d hd e⟩
  have e1:w5.iterSeen w3.heap.size=(((kU qb bo c).A::j).map (·.born)).reverse.toArray:=by unfold World.iterSeen;rw[a3.it]
  have e2:wr.iterSeen w3.heap.size=(j.map (·.born)).reverse.toArray:=by unfold World.iterSeen;rw[HJ.it]
  have:=a3.len;rw[e1,e2];simp at this|-;omega
def pW{α:Type}{q:Qn α}{j:Int}(h:q.M j fr=true):q.A.nr=j/\fr∈q.nodes/\q.T fr=false/\q.nodes≠[]:=by simp only[Qn.M,bL,ZT,eK,List.contains_iff_mem]at h;exact⟨h.1.1,h.1.2,h.2,λe=>by rw[e]at h;simp at h⟩
def Kz(A)(va)(vc)(w):Calls prog 270 #[sL A va vc] w λh w'=>h=iF/\Bl w w':=by go_wp2;go_end0;exact⟨rfl,jZ.alloc _⟩
theorem I9(h:jy w cP t p qb X V)(y:100<=t)(T:oM X)(hc:c∈X.a)(A:An)(h4:A.wh≠4)(Y:TK X c)(L:Option Addr)(M:Nat)(Z:Rd w cP (t+3) 5 (gK L A.ct.val.length M) (A.ct.val.map B8))(P Q:Nat)(c1:w.cell? (U P 0)=some (O p))(c2:w.cell? (U Q 0)=some (O (qb c.gL)))(l1:P<w.heap.size)(l2:Q<w.heap.size):iU 272 #[sL A L M,O P,O Q] w λen w'=>en=iF/\CS w cP t p qb (X.oe c A) w':=by
 have j:=(Bl.refl w).alloc (vK A L M);have F:=h.bl j (fz:=cP) ib;have S:=gN (SV F y T hc A h4 Y L M (Z.bl j λ_ _ e=>e));have d1:=(j.cell l1).H c1;have d2:=(j.cell l2).H c2;have BW:=gN j;clear h F Z j T Y;unfold sL at S|-;unfold vK at S BW d1 d2;generalize qb c.gL=q at*;go_enter func272,ntmps272;go_wp2_with(go_at_call 273;refine jA S λw3 HS=>?_);go_end0;exact⟨rfl,CS.M BW HS⟩
theorem BK(h:jy w cP t p qb X V)(hl:B4 X)(fr nr)(hw:X.c.M nr fr=true)(A)(h5:A.wh≠5)(va)(vc)(ht:Rd w cP (t+3) 5 (gK va A.ct.val.length vc) (A.ct.val.map B8)):iU 214 #[O p,I fr,I nr,sL A va vc] w λen w'=>en=iF/\CS w cP t p qb (X.jJ fr nr A) w':=by
 have ac:Hid (X.jJ fr nr A={X with c:=X.c.add fr A}):=by unfold Hid Cx.jJ;rw[aE hw,az h5]
 obtain⟨W,hW⟩:=gG (w.alloc (vK A va vc));have bW:=(Bl.refl w).alloc (vK A va vc);have S:=ao w (vK A va vc);rw[hW]at bW S;have T:=h.bl bW (fz:=cP) ib;obtain⟨⟨r0,r1,r2,r3,r4,r5,r6⟩,_,lr⟩:=GX S;obtain⟨HA,HF,HW,ad⟩:=kN (yL T hl fr nr hw) (Kz A va vc) hW T;obtain⟨Ht,a6,BW⟩:=iI (ht.bl bW (fz:=cP) λ_ _ e=>e) (pW hw) bW;have ak:(A.wh==5)=false:=je h5;have Hh:=gN h;clear h T hW bW S ht;unfold sL;unfold vK at HW;go_enter func214,ntmps214;go_upto_region 1 with fail;rw[HW.o];clear HW;go_wp2_with(go_at_call 249;refine gS HA λP j=>?_;have Y:=ad.bl j (fz:=cP) ib;have al:=Y.A;obtain⟨s0,s1,s2,s3⟩:=j.N lr r0 r1 r2 r3;obtain⟨s4,s5,s6⟩:=j.M lr r4 r5 r6;have Z:=af lr j.lt;obtain⟨ag,a0⟩:=gO Y j;clear j Y HA r0 r1 r2 r3 r4 r5 r6);obtain⟨_,_,Q,a7⟩:=a6.o;have a8:oN.ev P.drew cP (t+3) A (sL A va vc):=⟨_,rfl,Ht.bl (a0.drew) λ_ _ e=>e⟩;obtain⟨gm,iC,l,a9,a1,a2,a3,ho⟩:=(ag.bl ((Bl.refl P).drew) (fz:=cP) ib).DQ a7 Q A _ a8;have aa:P.cell? (U p 21)=some (.map (some gm)):=a9;have a4:=pU P gm iC l a1 fr (sL A va vc) a2;have F:=pU P.drew gm iC l a1 fr (sL A va vc) a2;have ab:gm≠w.heap.size:=λe=>by have y:=((BW.H a0).cell Hh.A).H (Hh.cellAt 21 rfl);rw[aa]at y;have:=(Hh.r.pr.D.map (b:=gm) (by simpa using y.symm)).1;omega
 have L:gI (λb=>b=gm) P.drew (rI P.drew gm iC l fr (sL A va vc)):=kS _ _ _;obtain⟨W3,a5⟩:=gG (rI P.drew gm iC l fr (sL A va vc));have M:_=Result.ok () W3:=F.H (by rw[<-a5]);rw[a5]at a3 ho L;have am:w.heap.size<W3.heap.size:=af Z L.size;obtain⟨t0,t1,t2,t3⟩:=L.N Z (Ne.symm ab) s0 s1 s2 s3;obtain⟨t4,t5,t6⟩:=L.M Z (Ne.symm ab) s4 s5 s6;obtain⟨HK,HO⟩:=gO a3 ho;unfold sL at a4 M HF;clear ho L a5 a1 a2 a8 a3 F a9 Q a7;go_region;all_goals
  go_wp2_with(go_at_call 270;refine jA (HF _) λw5 ai=>?_);go_end0;refine⟨rfl,?_⟩;rw[ac.o];exact CS.M (BW.H (a0.drew)) (CS.post (CS.mk HK HO) ai)
def JP(X:Cx):Prop:=∀c∈X.a,∀d∈X.a,c.q.nodes≠[]->d.q.nodes≠[]->c.q.A.nr=d.q.A.nr->c=d
theorem EX(A:JP X)(j:c∈X.a){h:Int}(y:c.q.M h fr=true):X.a.find? (λc=>c.q.M h fr)=some c:=by
 cases e:X.a.find? _ with
 |none=>exact absurd y (bU.1 e c j)
 |some d=>have F:d.q.M h fr=true:=cR (p:=λc:jn=>c.q.M h fr) e;obtain⟨H,_,_,L⟩:=pW y;obtain⟨b1,_,_,M⟩:=pW F;rw[A c j d (bu e) L M (H.H b1.symm)]
theorem DJ(h:jy w cP t p qb X V)(ag:100<=t)(hx:oM X)(hl:B4 X)(hN:JP X)(fr Q:Int)(hw:X.c.M Q fr=false)(hs:X.mv.a.M Q fr=false)(A:An)(h5:A.wh≠5)(h4:A.wh≠4)(hG:∀c∈X.a,c.q.M Q fr=true->TK (X.put {c with q:=c.q.add fr A}) {c with q:=c.q.add fr A})(T:Option Addr)(Y:Nat)(ht:Rd w cP (t+3) 5 (gK T A.ct.val.length Y) (A.ct.val.map B8)):iU 214 #[O p,I fr,I Q,sL A T Y] w λen w'=>en=iF/\CS w cP t p qb (X.jJ fr Q A) w':=by
 have ar:Hid ((∀c∈X.a,c.q.M Q fr=false)->X.jJ fr Q A=X):=λL=>by unfold Cx.jJ;rw[az (om hw),az (om hs),bU.2 (λc Z=>by rw[L c Z];simp)]
 have au:Hid (∀c∈X.a,c.q.M Q fr=true->X.jJ fr Q A=(X.put {c with q:=c.q.add fr A}).oe {c with q:=c.q.add fr A} A):=λc Z ha=>by unfold Cx.jJ;rw[az (om hw),az (om hs),EX hN Z ha];dsimp only;rw[az h5]
 obtain⟨W,hW⟩:=gG (w.alloc (vK A T Y));have bW:=(Bl.refl w).alloc (vK A T Y);have a3:=ao w (vK A T Y);rw[hW]at bW a3;have a4:=h.bl bW (fz:=cP) ib;obtain⟨⟨r0,r1,r2,r3,r4,r5,r6⟩,_,lr⟩:=GX a3;obtain⟨HA,HW,av⟩:=iI (zX a4 hl fr Q hw hs) hW a4;obtain⟨Ht,BW⟩:=gO (ht.bl bW (fz:=cP) λ_ _ e=>e) bW;have b1:(A.wh==5)=false:=je h5;obtain⟨Hh,HG,Hx⟩:=iI h hG hx;clear h a4 hW bW a3 ht hG hx hN;unfold sL;unfold vK at HW;go_enter func214,ntmps214;go_upto_region 1 with fail;rw[HW.o];clear HW;go_wp2_with fail;refine HA.L ?_;rintro en w2⟨F,⟨c,Z,a5,g1,g2,rfl,b2,b3,a6,a7⟩|⟨L,rfl⟩⟩
 .have a0:=av.bl F (fz:=cP) ib;have b4:=a0.A;obtain⟨s0,s1,s2,s3⟩:=F.N lr r0 r1 r2 r3;obtain⟨s4,s5,s6⟩:=F.M lr r4 r5 r6;have a8:=af lr F.lt;have M:=gN F;obtain⟨_,_,a2,ai⟩:=pW a5;have ak:oN.ev w2.drew cP (t+3) A (sL A T Y):=⟨_,rfl,Ht.bl (M.drew) λ_ _ e=>e⟩;obtain⟨gm,iC,l,al,a9,aa,ab,ho,j,aw⟩:=(a0.bl ((Bl.refl w2).drew) (fz:=cP) ib).Zi Z ai a2 A _ ak;have am:w2.cell? (U (qb c.gL) 28)=some (.map (some gm)):=al;have ac:=pU w2 gm iC l a9 fr (sL A T Y) aa;have P:=pU w2.drew gm iC l a9 fr (sL A T Y) aa;obtain⟨b5,k0⟩:=Hh.r.f c Z;have b6:gm<w.heap.size:=by have y:=((BW.H M).cell k0.lt).H (k0.cellAt 28 rfl);rw[am]at y;exact(k0.q.D.map (b:=gm) (by simpa using y.symm)).1
  have an:gm≠w.heap.size:=C;have b7:=BW.lt;have ap:gm≠g1:=C;have aq:gm≠g2:=C;obtain⟨W3,ad⟩:=gG (rI w2.drew gm iC l fr (sL A T Y));have a1:_=Result.ok () W3:=P.H (by rw[<-ad]);rw[ad]at ab ho j;have b8:w.heap.size<W3.heap.size:=af a8 j.size;obtain⟨t0,t1,t2,t3⟩:=j.N a8 (Ne.symm an) s0 s1 s2 s3;obtain⟨t4,t5,t6⟩:=j.M a8 (Ne.symm an) s4 s5 s6;have m1:=(ae.1 a6).1;have m2:=(ae.1 a7).1;have q1:=(j.cell (b:=g1) (o:=0) m1 (Ne.symm ap)).H (ax w2 g1 0 _ 94 (0,0) a6);have q2:=(j.cell (b:=g2) (o:=0) m2 (Ne.symm aq)).H (ax w2 g2 0 _ 163 (0,0) a7);have b9:=(a0.r.f c Z).choose_spec.lt;have HF:=gN (I9 ab ag (Hx.put _) (c:={c with q:=c.q.add fr A}) (Cx.jV Z rfl) A h4 (HG c Z a5) T Y (Ht.only ((gI.D (S:=λb=>b=gm) (M.drew)).H j) (λb _ e=>by rw[e,aw];omega) λ_ _ e=>e) g1 g2 q1 q2 (af m1 j.size) (af m2 j.size));obtain⟨HO,HE⟩:=gO ho (au c Z a5);have aY:Value.func (Fn.func 272) #[] #[O g1,O g2]=Value.func (Fn.func 272) #[] #[O g1,O g2]:=rfl;unfold sL at ac a1 HF;clear ho j ad a9 aa ak ab P al a2 ai F a0 HA a6 a7 q1 q2 k0 r0 r1 r2 r3 r4 r5 r6 aY;generalize qb c.gL=q at*;go_upto_region 2 with fail;go_region;all_goals
   go_wp2_with(go_at_call 272;refine jA HF λw5 b0=>?_);go_end0;refine⟨rfl,?_⟩;rw[HE.o];exact CS.M (BW.H (M.drew)) (CS.gR HO b0)
 obtain⟨HE,M⟩:=gO (ar L) F;clear F HA L;go_wp2;first
  |go_end0
  |((try simp only[Exit.inBlock,Exit.then]);refine aG (v:= .tuple #[]) (by simp[results,results214,go_sem]) rfl ?_)
 refine⟨rfl,?_⟩;rw[HE.o];exact CS.D ⟨V,Hh⟩ (BW.H M)
def YJ(ls:List Nat)(i:Nat):Value:= .bool (ls.contains i)
def GL(ls:List Nat):Nat:=((List.range 8).find? λl=> !(ls.contains l)).getD 0
def Sg(w:World)(b:Nat)(ls:List Nat):Prop:=∃arr,w.heap[b]?=some (.cells arr 266 (0,0))/\arr.size=8/\∀i,i<8->arr[i]?=some (YJ ls i)
section
variable{b:Nat}{ls:List Nat}
def Sg.lt(h:Sg w b ls):b<w.heap.size:=by obtain⟨j,y,_⟩:=h;exact(ae.1 y).1
def Sg.cell(h:Sg w b ls)(i)(j:i<8):w.cell? (U b i)=some (YJ ls i):=by obtain⟨y,A,_,F⟩:=h;rw[ax w b i _ 266 _ A];exact F i j
def Sg.frozen(h:Sg w b ls)(i):w.frozen? (U b i)=false:=by obtain⟨j,y,_⟩:=h;exact aP w b i _ 266 y
def Sg.pF(h:Sg w b ls)(e:w'.heap[b]?=w.heap[b]?):Sg w' b ls:=by obtain⟨j,y,r⟩:=h;exact⟨j,e.H y,r⟩
def Sg.set(h:Sg w b ls)(i)(A:i<8):Sg (w.setCell (U b i) (.bool true)) b (i::ls):=by
 obtain⟨F,H,y,L⟩:=h;refine⟨_,cH w b i _ 266 _ H,mZ y,λj M=>?_⟩;rw[fD];by_cases e:i=j
 .subst e;simp[y,A,YJ]
 rw[az e,L j M];simp[YJ,Ne.symm e]
theorem Tm(ls)(h:ls.length<8):(List.range 8).find? (λl=> !(ls.contains l))=some (GL ls):=by
 unfold GL
 cases e:(List.range 8).find? _ with
 |some x=>rfl
 |none=>
  have:=vR dU (λx j=>by
   have:=bU.1 e x j
   simpa using this)
  simp at this;omega
def EP(ls)(h:ls.length<8):GL ls<8/\ls.contains (GL ls)=false/\∀i,i<GL ls->ls.contains i=true:=by have e:=Tm ls h;simp_all
theorem M3(h:Sg w b ls)(F:ls.length<8):iU 188 #[gK (G b) 8 8,.bool false] w λL w'=>L=gU (I (GL ls))/\Bl w w':=by
 obtain⟨T,y,A⟩:=EP ls F;obtain⟨H,M⟩:=gO h A;have Y:=h.lt;have P:=gN y;clear h A y;go_enter func188,ntmps188;go_wp2_with fail;go_loopw[8](λv wr=>∃i:Nat,v=I i/\i<=GL ls/\wr=w) λv _=>GL ls-(Go.RowKit.intOf v).toNat
 case atStart=>exact⟨0,rfl,jR,rfl⟩
 obtain⟨i,rfl,Z,rfl⟩:=hrel;have j:=H.cell i C;unfold YJ at j;have Q:(i:Int)<8:=C;have S:(0:Int)<=i:=C;by_cases e:i=GL ls
 .subst e;rw[P.o]at j;go_wp2;go_ret;exact⟨rfl,jZ⟩
 rw[M.o i C]at j;go_wp2;go_roundw
 case rel=>exact⟨i+1,bz,C,trivial⟩
 exact iD
def Qs{l1 l2:List Nat}(h:l1.Perm l2):GL l1=GL l2:=by
 unfold GL;have:(λl=> !(l1.contains l))=(λl=> !(l2.contains l)):=by simp[h.mem_iff]
 rw[this]
def Sg.new(w:World):Sg (w.alloc (ig #[.bool false,.bool false,.bool false,.bool false,.bool false,.bool false,.bool false,.bool false] 266)) w.heap.size []:=by refine⟨_,ao w _,rfl,λi h=>?_⟩;have:i=0\/i=1\/i=2\/i=3\/i=4\/i=5\/i=6\/i=7:=C;obtain rfl|rfl|rfl|rfl|rfl|rfl|rfl|rfl:=this<;>rfl
theorem EI{bm:Nat}(c8:w.cell? ⟨p,8,none⟩=some (.map (some bm)))(lp:p<w.heap.size)(hm:w.heap[bm]?=some (.map es iC))(bo:∀x∈es.toList,x.born<iC)(nd:(es.toList.map (·.born)).Nodup)(hv:∀x∈es.toList,∃q,x.val=.pointer (some ⟨q,0,none⟩)/\w.cell? ⟨q,2,none⟩=some (.int .i64 (ln x:Nat))/\ln x<8/\q<w.heap.size)(hs:es.size<8):iU 148 #[.pointer (some ⟨p,0,none⟩)] w λen w'=>en=gU (.int .i64 (GL (es.toList.map ln)))/\Bl w w':=by
 obtain⟨HM,a0,a1⟩:=iI hm bo nd;obtain⟨HV,HS⟩:=gO hv hs;have lm:=(ae.1 hm).1;clear hm bo nd hv hs;go_enter func148,ntmps148;go_wp2_with(at_range;refine kR _ rfl _ 98 rfl 3 163 underlying98 bm es iC rfl ((cL w _ lm).H HM) a0 a1 ?_;intro hI;generalize hr:(World.alloc w _).heap.size=r at hI|-;have F:r=w.heap.size+1:=(by rw[<-hr];simp);clear hr;obtain⟨HI,L⟩:=gO hI F;clear F hI);go_frame;go_loopw[](λwr=>∃h:List MapEntry,Hid (Bl w wr)/\Hid (Sg wr w.heap.size (h.map ln))/\Hid (It wr r bm es iC h)) λwr=>es.size-(wr.iterSeen r).size
 case atStart=>exact⟨[],(jZ.alloc _).alloc _,(Sg.new w).pF (cL _ _ bz),HI⟩
 obtain⟨h,Y,Z,HJ⟩:=hrel;go_wp2_with(at_next;refine lJ _ rfl _ rfl r bm iC es h rfl HJ ?_ ?_)
 .intro h0;have HC:=gN (M3 Z (by have:=HJ.len;have:=HS.o;simp;omega));have hL:=Qs (h0.map ln);rw[hL]at HC;have jt:=Z.lt;go_wp2_with fail;refine jA HC λw2 a2=>?_;go_wp2;go_ret;exact⟨rfl,Y.H a2⟩
 intro e W he M P a3;obtain⟨q,hq,cq,Q,lq⟩:=HV e (je he);rw[hq]at a3|-;have S:=af lq Y.lt;have a6:=(P.cell (b:=q) S (gM L.o)).H ((Y.cell lq).H cq);have j:=Z.pF (P.block _ Z.lt (gM L.o));have jt:=j.lt;have a7:=j.frozen (ln e);have a8:=j.cell (ln e) Q;have a9:=af S P.size;obtain⟨y,HO,a4⟩:=iI M P j;have aa:(0:Int)<=(ln e:Int):=C;have a5:(ln e:Int)<8:=C;clear M P he j cq;go_wp2;go_roundw
 case rel=>have T:gI (λk=>k=w.heap.size) W (W.setCell ⟨w.heap.size,ln e,none⟩ (.bool true)):=(gI.refl (λk=>k=w.heap.size) W).setCell ⟨w.heap.size,ln e,none⟩ (.inl rfl) _;refine⟨e::h,(Y.A HO λb hb=>gM L.o).A T λb hb=>C,?_,y.only T (gM L.o) C⟩;rw[bj];exact a4.set _ Q
 case measure=>
  have e1:W.iterSeen r=((e::h).map (·.born)).reverse.toArray:=by unfold World.iterSeen;rw[y.it]
  have e2:wr.iterSeen r=(h.map (·.born)).reverse.toArray:=by unfold World.iterSeen;rw[HJ.it]
  have:=y.len;have e3:(W.setCell ⟨w.heap.size,ln e,none⟩ (.bool true)).iterSeen r=W.iterSeen r:=by unfold World.iterSeen;rw[((gI.refl (λk=>k=w.heap.size) W).setCell ⟨w.heap.size,ln e,none⟩ (.inl rfl) (.bool true)).block r y.lr (gM L.o)]
  rw[e3,e1,e2];simp at this|-;omega
end
def Mz(w)(gm n)(l)(j:w.heap[gm]?=some (.map (ie l) n))(k)(v)(h:∀e∈l,e.k≠k):(Instr.mapUpdate 98 (.map (some gm)) (I k) v).run prog w=.ok () (setBlock w gm (.map (ie (l++[⟨k,v,n⟩])) (n+1))):=by
 simp only[Instr.mapUpdate,Sem.run_bind,Z4 underlying98,Result.andThen,aI j,(eW (P:=prog) (k:= I k) underlying3 vN false 9999),(fa (w:=w) underlying3 (pT l k h))];rw[Z7 _ j,vS];rfl
def Qh(w)(bm iC)(l)(j:w.heap[bm]?=some (.map (ie l) iC)):(Builtin.len_ #[98] 3 #[.map (some bm)]).run prog w=.ok (I l.length) w:=by have h:=run_len_map (P:=prog) w 98 3 bm _ iC iu j;rw[show(ie l).size=l.length by simp[ie]]at h;exact h
theorem FV(h:jy w cP t p qb X V)(Q:X.a.length<8):iU 148 #[O p] w λP w'=>P=gU (I X.nz)/\Bl w w':=by
 have S:(NB X qb V).toList=(X.a.map (kU qb V.bo)).map Ae.A:=by simp[ie]
 have F:∀x∈(NB X qb V).toList,∃c∈X.a,x=(kU qb V.bo c).A:=λx H=>by obtain⟨e,T,rfl⟩:=my H;obtain⟨c,j,rfl⟩:=aD.1 T;exact⟨c,j,rfl⟩
 obtain⟨ln,y⟩:∃ln:MapEntry->Nat,∀c∈X.a,ln (kU qb V.bo c).A=c.a:=by
  refine⟨λx=>((X.a.find? λc=>Go.RowKit.intOf x.key==((c.gL:Nat):Int)).map jn.a).getD 0,λc j=>?_⟩;have:X.a.find? (λd=>((c.gL:Nat):Int)==((d.gL:Nat):Int))=some c:=by
   cases e:X.a.find? (λd=>((c.gL:Nat):Int)==((d.gL:Nat):Int))with
   |none=>have:=bU.1 e c j;simp at this
   |some d=>have Y:=cR (p:=λd:jn=>((c.gL:Nat):Int)==((d.gL:Nat):Int)) e;simp at Y;rw[rS h.r.a.gL (bu e) j C]
  show((X.a.find? λd=>((c.gL:Nat):Int)==((d.gL:Nat):Int)).map jn.a).getD 0=c.a;rw[this];rfl
 have M:(NB X qb V).toList.map ln=X.a.map jn.a:=by rw[S,br,br];exact bf λc j=>y c j
 have Z:GL (X.a.map jn.a)=X.nz:=by unfold GL Cx.nz;congr 2;funext l;congr 1;rw[fU,fY];congr 1;funext c;simp[Bool.beq_comm]
 refine(EI (ln:=ln) (h.cellAt 8 rfl) h.A h.r.mp (λx H=>?_) ?_ (λx H=>?_) (by simpa [ie]using Q)).L ?_
 .obtain⟨c,j,rfl⟩:=F x H;exact h.r.bo c j
 .have:(NB X qb V).toList.map (·.born)=X.a.map λc=>V.bo c.gL:=by simp[ie,Function.comp_def,Ae.A,kU]
  rw[this];exact h.r.bn
 .obtain⟨c,j,rfl⟩:=F x H;obtain⟨cv,k⟩:=h.r.f c j;exact⟨qb c.gL,rfl,by rw[y c j];exact k.cellAt 2 rfl,by rw[y c j];exact h.r.a.A c j,k.lt⟩
 rintro P w'⟨rfl,hb⟩;exact⟨kz M Z,hb⟩
theorem Bp{o:Nat}{q:Qn An}{Q:QV}(h:Xd w cP ga t g o q Q):Calls prog 155 #[.pointer (some (U g o))] w λe w'=>e=gU (.bool q.N)/\w'=w:=by
 obtain⟨y,_,F,_,H,L⟩:=h;obtain⟨M,P,j⟩:=y.nodes.D;rw[j]at F;have A:q.N=decide (0<q.nodes.length):=by
  unfold Qn.N
  cases q.nodes with
  |nil=>rfl
  |cons x l=>simp
 rw[A];clear y j A;go_wp2;go_ret;exact⟨rfl,rfl⟩
theorem qT(k:lS w cP t q c cv)(A:c.q.nodes.length<=100):iU 94 #[O q] w λe w'=>e=gU (.bool (Cx.lD c))/\w'=w:=by
 have F:=k.cellAt 0 rfl;have H:=gN (Bp (k.Vv A));have L:=k.lt;by_cases h:c.kind=1
 .have j:Cx.lD c= !c.q.N:=by unfold Cx.lD;rw[h];simp
  rw[j];rw[h]at F;clear k;go_enter func94,ntmps94;go_wp2_with(go_at_call 155;refine H.L ?_;rintro e w'⟨rfl,rfl⟩);go_ret;exact⟨rfl,rfl⟩
 have y:(c.kind==1)=false:=by simpa using h
 have j:Cx.lD c=false:=by unfold Cx.lD;rw[y];rfl
 rw[j];clear k;go_enter func94,ntmps94;go_wp2;go_ret;exact⟨rfl,rfl⟩
def lE.zero:lE:=⟨OO,OO,OO,QV.zero⟩
def vj(h:X.a.length<8):X.nz<8/\∀c∈X.a,c.a≠X.nz:=by
 have j:GL (X.a.map jn.a)=X.nz:=by unfold GL Cx.nz;congr 2;funext l;congr 1;rw[fU,fY];congr 1;funext c;simp[Bool.beq_comm]
 have:=EP (X.a.map jn.a) (je h);simp_all
def uf.D(h:uf X)(y:X.a.length<8)(kind):uf {X with e:=X.e++[Rz.zero],a:=X.a++[X.jW kind]}:=by
 obtain⟨A,F⟩:=vj y;refine⟨?_,λc hc=>?_,?_,λc hc=>?_⟩
 .exact cu.2 ⟨h.gL,fV _ _,λc hc d j=>by
   simp at j
   subst j
   exact h.lt c hc⟩
 .show c.gL<(X.e++[Rz.zero]).length;rw[aO];obtain hc|hc:=aT.1 hc
  .have:=h.lt c hc;omega
  simp at hc;subst hc;exact fo _
 .exact cu.2 ⟨h.a,fV _ _,λc hc d j=>by
   simp at j
   subst j
   exact F c hc⟩
 obtain hc|hc:=aT.1 hc
 .exact h.A c hc
 simp at hc;subst hc;exact A
def tI.push{y:Value}(F:∀i r,rs[i]?=some r->xs[3*i]?=some (I r.wh)/\xs[3*i+1]?=some (I r.ad)/\∃s,xs[3*i+2]?=some s/\Rd w cP t 5 s (r.val.map B8))(T:xs.length=rs.length*3)(h:w.ownsRow 0 43 3 y (rs.length+1) (xs++[I 0,I 0,OO]))(H:∀b,y.ownBlock=some b->cP b=g):tI w cP g t y (rs++[Rz.zero]):=by
 refine⟨xs++[I 0,I 0,OO],by rw[aO,dD];exact h,H,λi r j=>?_⟩;by_cases L:i<rs.length
 .rw[aB L]at j;obtain⟨M,P,s,Q,S⟩:=F i r j;exact⟨by rw[aB C];exact M,by rw[aB C];exact P,s,by rw[aB C];exact Q,S⟩
 have A:i=rs.length:=by have:=(aj.1 j).1;simp at this;omega
 subst A;simp at j;subst j;exact⟨by rw[aC C,show 3*rs.length-xs.length=0 by omega];rfl,by rw[aC C,show 3*rs.length+1-xs.length=1 by omega];rfl,OO,by rw[aC C,show 3*rs.length+2-xs.length=2 by omega];rfl,Rd.nil⟩
def sb(qb:Nat->Nat)(n q:Nat):Nat->Nat:=λk=>if k=n then q else qb k
def jy.D(h:jy w cP t p qb X V)(h8:X.a.length<8)(kind)(hB:Bl w W)(aq:w.heap.size<=q)(hq:W.heap[q]?=some (ig (rh (X.jW kind) lE.zero).toArray 168 (0,0)))(ad:W.ownsRow 0 43 3 V.rv X.e.length xs)(ag:∀i r,X.e[i]?=some r->xs[3*i]?=some (I r.wh)/\xs[3*i+1]?=some (I r.ad)/\∃s,xs[3*i+2]?=some s/\Rd w cP (t+3) 5 s (r.val.map B8))(a9:∀b,V.rv.ownBlock=some b->cP b=t+2)(a5:W.grownBy w1 V.rv.ownBlock){A:Value}(Q:w1.ownsRow 0 43 3 A (X.e.length+1) (xs++[I 0,I 0,OO]))(ai:∀b,A.ownBlock=some b->V.rv.ownBlock=some b\/W.heap.size<=b):∃fz,(∀b,b<w.heap.size->fz b=cP b)/\jy (setBlock (w1.setCell (U p 7) A) V.bm (.map (ie (X.a.map (kU qb V.bo)++[⟨X.e.length,O q,V.iC⟩])) (V.iC+1))) fz t p (sb qb X.e.length q) (X.jb (X.jW kind)) {V with rv:=A,iC:=V.iC+1,bo:=sb V.bo X.e.length V.iC}/\gI (λb=>Mc t (cP b)) w (setBlock (w1.setCell (U p 7) A) V.bm (.map (ie (X.a.map (kU qb V.bo)++[⟨X.e.length,O q,V.iC⟩])) (V.iC+1))):=by
 obtain⟨f1,f2⟩:=vj h8;have ak:q<W.heap.size:=(ae.1 hq).1;obtain⟨fz,a6⟩:∃fz:Nat->Nat,fz=λb=>if b=q then t+8+2*X.nz else if w.heap.size<=b then t+2 else cP b:=⟨_,rfl⟩
 have j:∀b,b<w.heap.size->fz b=cP b:=λb F=>by rw[a6];show(if b=q then _ else _)=_;rw[az C,az C]
 have O1:gI (λb=>V.rv.ownBlock=some b) W w1:=(gI.A a5).L λ_ _ e=>e.symm;have M:∀b,V.rv.ownBlock=some b->b<w.heap.size:=λb F=>by obtain⟨ys,y1,_⟩:=h.r.e;exact(y1.lt b F).2
 have T:gI (λb=>cP b=t+2) w w1:=((gI.D (S:=λb=>V.rv.ownBlock=some b) hB).H O1).L λb _ e=>a9 b e;have O2:gI (λb=>b=p) w1 (w1.setCell (U p 7) A):=(gI.refl (λb=>b=p) w1).setCell (U p 7) (.inl rfl) A;have a7:w1.heap[p]?=some (ig (ry X V).toArray 114 (0,0)):=(T.block p h.A λe=>by have:=h.tp;omega).H h.hp;have aa:w1.heap[V.bm]?=some (.map (NB X qb V) V.iC):=(T.block _ h.r.lb λe=>by have:=h.r.tb;omega).H h.r.mp;have al:V.bm≠p:=λe=>by have h1:=h.r.tb;have h2:=h.tp;rw[e,h2]at h1;omega
 have O3:gI (λb=>b=V.bm) (w1.setCell (U p 7) A) (setBlock (w1.setCell (U p 7) A) V.bm (.map (ie (X.a.map (kU qb V.bo)++[⟨X.e.length,O q,V.iC⟩])) (V.iC+1))):=kS _ _ _;generalize hZ:setBlock (w1.setCell (U p 7) A) V.bm (.map (ie (X.a.map (kU qb V.bo)++[⟨X.e.length,O q,V.iC⟩])) (V.iC+1))=Z at O3|-;have ar:w.heap.size<=w1.heap.size:=T.size;have Y:gI (λb=>cP b=t+2\/b=p\/b=V.bm) w Z:=((T.L λ_ _ e=>.inl e).H (O2.L λ_ _ e=>.inr (.inl e))).H (O3.L λ_ _ e=>.inr (.inr e));have tp:=h.tp;have tb:=h.r.tb;have hT:∀b,b<w.heap.size->(cP b=t+2\/b=p\/b=V.bm)->cP b<=t+2/\t<=cP b:=λb _ e=>by
  obtain e|e|e:=e
  .omega
  .rw[e];omega
  rw[e];omega
 have P:∀b,b<w.heap.size->(cP b=t+2\/b=p\/b=V.bm)->cP b≠t+3:=λb F e=>by have:=hT b F e;omega
 have a8:∀b,b<w.heap.size->cP b=t+3->fz b=t+3:=λb F e=>by rw[j b F];exact e
 have au:=hB.lt;have am:Z.heap[p]?=some (ig (ry (X.jb (X.jW kind)) {V with rv:=A,iC:=V.iC+1,bo:=sb V.bo X.e.length V.iC}).toArray 114 (0,0)):=
  (O3.block p (af (ae.1 a7).1 O2.size) (Ne.symm al)).H (jO 7 _ w1 _ a7)
 refine⟨fz,j,⟨am,(j p h.A).H h.tp,h.r.lay.only Y P a8,?_,(j _ h.r.lb).H h.r.tb,?_,λc hc=>?_,?_,h.r.pr.only Y P (λb F e=>by have:=hT b F e;omega) j,h.r.sl.only Y P (λb F e=>by have:=hT b F e;omega) j,h.r.vt.only Y P (λb F e=>by have:=hT b F e;omega) j,h.r.bg.only Y (λb F e=>by have:=hT b F e;omega) j,h.r.b.only Y P a8,λc hc=>?_,h.r.a.D h8 kind⟩,Y.L λb F e=>by have:=hT b F e;unfold Mc;omega⟩
 .have an:xs.length=X.e.length*3:=ad.1;have n1:∀b,A.ownBlock=some b->b≠p:=λb e e'=>gW Q a7 bT (e'▸e);have n2:∀b,A.ownBlock=some b->b≠V.bm:=λb e e'=>by obtain⟨cc,ab⟩:=qf Q b e;rw[e',aa]at ab;simp at ab
  refine tI.push (λi r hr=>?_) an (O3.jH (O2.jH Q n1) n2) λb F=>?_
  .obtain⟨a1,a2,s,a3,a4⟩:=ag i r hr;exact⟨a1,a2,s,a3,a4.only Y P a8⟩
  obtain e|e:=ai b F
  .rw[j b (M b e)];exact a9 b e
  rw[a6];show(if b=q then _ else if w.heap.size<=b then t+2 else cP b)=t+2;rw[az C,aE C]
 .show Z.heap[V.bm]?=some (.map (ie ((X.a++[X.jW kind]).map (kU (sb qb X.e.length q) (sb V.bo X.e.length V.iC)))) (V.iC+1));rw[<-hZ,ou (af (ae.1 aa).1 O2.size),aZ];congr 3;have e1:X.a.map (kU (sb qb X.e.length q) (sb V.bo X.e.length V.iC))=X.a.map (kU qb V.bo):=bf λc hc=>by have:=h.r.a.lt c hc;unfold kU sb;rw[az C,az C]
  rw[e1];congr 1;show _=[kU (sb qb X.e.length q) (sb V.bo X.e.length V.iC) (X.jW kind)];unfold kU sb Cx.jW;simp
 .show sb V.bo X.e.length V.iC c.gL<V.iC+1;unfold sb;split
  .omega
  rename_i ap;obtain hc|hc:=aT.1 hc
  .have:=h.r.bo c hc;omega
  simp at hc;subst hc;exact absurd rfl ap
 .show((X.a++[X.jW kind]).map λc=>sb V.bo X.e.length V.iC c.gL).Nodup;have e1:X.a.map (λc=>sb V.bo X.e.length V.iC c.gL)=X.a.map λc=>V.bo c.gL:=bf λc hc=>by have:=h.r.a.lt c hc;unfold sb;rw[az C]
  rw[aZ,e1,cX];refine⟨h.r.bn,bz,λx hx y hy=>?_⟩;obtain⟨c,hc,rfl⟩:=aD.1 hx;have F:=h.r.bo c hc;have av:y=V.iC:=by simpa [sb,Cx.jW]using hy
  omega
 obtain hc|hc:=aT.1 hc
 .have jt:=h.r.a.lt c hc;obtain⟨dv,hk⟩:=h.r.f c hc;have e1:sb qb X.e.length q c.gL=qb c.gL:=by unfold sb;rw[az C]
  rw[e1];exact⟨dv,hk.only Y (λb F e=>by have:=hT b F e;omega) j⟩
 simp at hc;subst hc;have e1:sb qb X.e.length q (X.jW kind).gL=q:=by unfold sb Cx.jW;simp
 rw[e1];have aw:=h.A;have aY:=h.r.lb;have ac:w1.heap[q]?=some (ig (rh (X.jW kind) lE.zero).toArray 168 (0,0)):=(O1.block q ak λe=>by have:=M q e;omega).H hq;have a0:=(ae.1 ac).1;refine⟨lE.zero,((O3.block q (af a0 O2.size) C).H ((O2.block q a0 C).H ac)),?_,Rd.nil,Rd.nil,Rd.nil,QR.zero⟩;rw[a6];show(if q=q then _ else _)=_;rw[aE rfl];rfl
def Tryz.VM:(prog.info? 43).map (λi=>(i.zero,i.size,i.bytes))=some (some (.agg #[I 0,I 0,OO]),3,40):=rfl
theorem Ax(h:jy w cP t p qb X V)(h8:X.a.length<8)(hr:X.e.length<=1000000000)(kind):iU 86 #[.pointer (some ⟨p,0,none⟩),.int .i64 kind] w λe w'=>∃q,e=gU (.tuple #[.pointer (some ⟨q,0,none⟩),.int .i64 0])/\w.heap.size<=q/\∃fz,(∀b,b<w.heap.size->fz b=cP b)/\Cl w' fz t p (sb qb X.e.length q) (X.jb (X.jW kind))/\gI (λb=>Mc t (cP b)) w w':=by
 obtain⟨a8,hi,a9,aa,ab⟩:=fx Tryz.VM;obtain⟨xs,x1,x2,x3⟩:=h.r.e;obtain⟨ad,cc,T⟩:∃ad cc,V.rv=gK ad X.e.length cc:=by
  obtain⟨e,h0⟩|⟨g,cap,aw,e,_⟩:=x1.2
  .exact⟨_,_,kz e h0⟩
  exact⟨_,_,e⟩
 obtain⟨h4,h7⟩:=h.R 4 7 rfl;rw[T]at h7;have a1:=h.cellAt 8 rfl;have hl:=Qh w V.bm V.iC _ h.r.mp;rw[ay]at hl;have H:=gN h;have jt:=h.A;have P:=h.r.lb;have ac:p≠V.bm:=λe=>by have h1:=h.r.tb;have h2:=h.tp;rw[<-e,h2]at h1;omega
 have aY:((X.a.length:Int)==8)=false:=ik;have ag:Hid (X.e.length+1<=maxLen):=nZ;have ai:Hid ((X.e.length+1)*40<=140737488355328):=nC;have HF:Hid (∀W,Bl w W->_):=λW hW=>FV (h.bl hW (fz:=cP) ib) h8;have HX:=nJ x1 x2 x3;have ak:Hid (∀e∈X.a.map (kU qb V.bo),e.k≠((X.e.length:Nat):Int)):=λe he=>by obtain⟨c,hc,rfl⟩:=aD.1 he;have:=h.r.a.lt c hc;show((c.gL:Nat):Int)≠_;omega
 obtain⟨a2,H8,al,am⟩:=kN T h8 h.r.mp (And.intro h.r.tb h.tp);clear h x1 x2 x3 T h8;go_enter func86,ntmps86;go_upto_region 4 with fail;go_cut[7] λx wx=>∃(q:Nat),x=.pointer (some ⟨q,0,none⟩)/\w.heap.size<=q/\Hid (Bl w wx)/\Hid (wx.heap[q]?=some (ig (rh (X.jW kind) lE.zero).toArray 168 (0,0)))
 case first=>
  go_region_held3(λW=>W.cell? ⟨p,4,none⟩=some (.int .i64 X.id)) (go_keep) (first|(go_at_call 148;refine(HF _ ?hb).L ?_;(case hb=>exact jU);rintro en w2⟨rfl,a3⟩;have F:Bl w w2:=Bl.H jU a3;have z4:=(F.cell jt).H h4;have a4:=gN F;clear a3 F));all_goals(go_wp2_with fail;go_meet)
  all_goals exact⟨_,rfl,a4.lt,a4.alloc _,ao _ _⟩
 case rest=>
  obtain⟨q,rfl,Y,M,a5⟩:=hcut;have F:=M.o;obtain⟨d7,d8⟩:=F.D jt h7 a1;have aq:=af jt F.lt;have OW:Hid (wc.ownsRow 0 43 3 V.rv X.e.length xs):=(jY F).jH HX.1 λ_ _ e=>e;rw[a2.o]at OW;have ar:=F.lt;have a6:=gN (fW (cs:=#[.int .i64 0,.int .i64 0,gK none 0 0]) (t:=43) (fr:=(0,0)) (ao wc _));clear h4 h7 a1 hl F;go_wp2_with(at_builtin;refine fm _ rfl _ _ 97 rfl 0 43 a8 _ 3 40 underlying97 hi a9 aa ab rfl bT _ X.e.length _ rfl (OW.alloc _) ⟨wc.heap.size,0,none⟩ 1 1 [.int .i64 0,.int .i64 0,gK none 0 0] rfl rfl a6 tx bT ag ai bz (wc.heap.size+1) bz ?_);intro g cap w1 Q j Z au;rw[<-a2.o]at j Z;obtain⟨fz,S,K,oQ⟩:=H.D H8 kind (M.alloc (ig #[.int .i64 0,.int .i64 0,gK none 0 0] 43)) Y ((cL wc _ (ae.1 a5).1).H a5) (xs:=xs) ((jY (M.alloc _)).jH HX.1 λ_ _ e=>e) HX.2.2 HX.2.1 j Q (λb hb=>by
   simp[Value.ownBlock]at hb
   subst hb
   exact Z.imp (λe=>e) λe=>om e)
  have O1:gI (λb=>V.rv.ownBlock=some b) (wc.alloc (ig #[.int .i64 0,.int .i64 0,gK none 0 0] 43)) w1:=(gI.A j).L λ_ _ e=>e.symm;obtain⟨tb,tp⟩:=am.o;have np:¬V.rv.ownBlock=some p:=λe=>by have:=HX.2.1 p e;omega
  have nb:¬V.rv.ownBlock=some V.bm:=λe=>by have:=HX.2.1 _ e;omega
  have y:=M.alloc (ig #[.int .i64 0,.int .i64 0,gK none 0 0] 43);have A:w1.heap[p]?=some (ig (ry X V).toArray 114 (0,0)):=(O1.block p (af jt y.lt) np).H ((y.heap jt).H H.hp);have a0:w1.heap[V.bm]?=some (.map (NB X qb V) V.iC):=(O1.block _ (af P y.lt) nb).H ((y.heap P).H al);have c7:w1.cell? ⟨p,7,none⟩=some V.rv:=by rw[ax w1 p 7 _ 114 (0,0) A];rfl
  have c8:w1.cell? ⟨p,8,none⟩=some (.map (some V.bm)):=by rw[ax w1 p 8 _ 114 (0,0) A];rfl
  have f7:=aP w1 p 7 _ 114 A;have b0:=(ae.1 A).1;have an:=(ae.1 a0).1;have g4:(w1.setCell ⟨p,7,none⟩ (gK (some ⟨g,0,none⟩) (X.e.length+1) cap)).heap[V.bm]?=some (.map (NB X qb V) V.iC):=(((gI.refl (λb=>b=p) w1).setCell ⟨p,7,none⟩ (.inl rfl) _).block _ an (Ne.symm ac)).H a0;have av:=Mz _ V.bm V.iC _ g4 X.e.length (.pointer (some ⟨q,0,none⟩)) ak;obtain⟨HK,HO,a7⟩:=iI K oQ S;have b1:(8:Nat)≠7:=bT;have ap:=gN Y;clear g4 Q j Z H K oQ S A a0 O1 y Y np nb tb tp;go_wp2;go_ret2;exact⟨q,rfl,ap,fz,a7,⟨_,HK⟩,HO⟩
def Tryz.GD:Go.Shelf.Ren:=⟨fun|189=>95|125=>157|257=>156|128=>205|129=>206|294=>196|295=>197|296=>198|297=>199|298=>200|299=>201|216=>202|300=>203|301=>204|328=>238|329=>239|330=>240|331=>241|332=>242|215=>243|343=>268|n=>n,fun|28=>24|3=>3|46=>144|0=>0|51=>283|53=>285|4=>4|183=>277|182=>276|131=>140|5=>5|9=>9|218=>328|222=>332|228=>356|229=>357|n=>n,fun|n=>n⟩
def Tryz.L5:Go.Proofs.Lays.n189 prog Tryz.GD:={
 mixed:=by kernel_rfl
 f125:=func157.trans (congrArg some (by kernel_rfl))
 f128:=func205.trans (congrArg some (by kernel_rfl))
 f129:=func206.trans (congrArg some (by kernel_rfl))
 f189:=func95.trans (congrArg some (by kernel_rfl))
 f215:=func243.trans (congrArg some (by kernel_rfl))
 f216:=func202.trans (congrArg some (by kernel_rfl))
 f257:=func156.trans (congrArg some (by kernel_rfl))
 f294:=func196.trans (congrArg some (by kernel_rfl))
 f295:=func197.trans (congrArg some (by kernel_rfl))
 f296:=func198.trans (congrArg some (by kernel_rfl))
 f297:=func199.trans (congrArg some (by kernel_rfl))
 f298:=func200.trans (congrArg some (by kernel_rfl))
 f299:=func201.trans (congrArg some (by kernel_rfl))
 f300:=func203.trans (congrArg some (by kernel_rfl))
 f301:=func204.trans (congrArg some (by kernel_rfl))
 f328:=func238.trans (congrArg some (by kernel_rfl))
 f329:=func239.trans (congrArg some (by kernel_rfl))
 f330:=func240.trans (congrArg some (by kernel_rfl))
 f331:=func241.trans (congrArg some (by kernel_rfl))
 f332:=func242.trans (congrArg some (by kernel_rfl))
 f343:=func268.trans (congrArg some (by kernel_rfl))
 t0:=underlying0
 a0:=Tryz.isAgg0
 z0:=Tryz.sizeOf0
 v0:=Tryz.zeroValue0
 t3:=underlying3
 a3:=Tryz.isAgg3
 z3:=Tryz.sizeOf3
 v3:=Tryz.zeroValue3
 t4:=underlying4
 a4:=Tryz.isAgg4
 z4:=Tryz.sizeOf4
 v4:=Tryz.zeroValue4
 t5:=underlying5
 a5:=Tryz.isAgg5
 z5:=Tryz.sizeOf5
 v5:=Tryz.zeroValue5
 t9:=underlying9
 a9:=Tryz.isAgg9
 z9:=Tryz.sizeOf9
 v9:=Tryz.zeroValue9
 t28:=underlying24
 a28:=Tryz.isAgg24
 z28:=Tryz.sizeOf24
 v28:=Tryz.zeroValue24
 t46:=underlying144
 a46:=Tryz.isAgg144
 z46:=Tryz.sizeOf144
 v46:=Tryz.zeroValue144
 t51:=underlying283
 a51:=Tryz.isAgg283
 z51:=Tryz.sizeOf283
 v51:=Tryz.zeroValue283
 t53:=underlying285
 a53:=Tryz.isAgg285
 z53:=Tryz.sizeOf285
 v53:=Tryz.zeroValue285
 t131:=underlying140
 a131:=Tryz.isAgg140
 z131:=Tryz.sizeOf140
 v131:=Tryz.zeroValue140
 t182:=underlying276
 a182:=Tryz.isAgg276
 z182:=Tryz.sizeOf276
 v182:=Tryz.zeroValue276
 t183:=underlying277
 a183:=Tryz.isAgg277
 z183:=Tryz.sizeOf277
 v183:=Tryz.zeroValue277
 t218:=underlying328
 a218:=Tryz.isAgg328
 z218:=Tryz.sizeOf328
 v218:=Tryz.zeroValue328
 t222:=underlying332
 a222:=Tryz.isAgg332
 z222:=Tryz.sizeOf332
 v222:=Tryz.zeroValue332
 t228:=underlying356
 a228:=Tryz.isAgg356
 z228:=Tryz.sizeOf356
 v228:=Tryz.zeroValue356
 t229:=underlying357
 a229:=Tryz.isAgg357
 z229:=Tryz.sizeOf357
 v229:=Tryz.zeroValue357}
def RL(a)(cap)(w):Calls prog 196 #[gK a 0 cap,I 0,I 0] w λe w'=>e=iF/\w'=w:=by go_wp2;refine Z6 1 ?_;rw[ZZ];go_wp2;go_end0;simp_all
theorem P6(a)(cap)(l)(w):iU 156 #[gK a 0 cap,I 0,I 0,I l] w λe w'=>e=iF/\w'=w:=by
 have h:=gN (RL a cap);go_enter func156,ntmps156;go_wp2;refine Z6 1 ?_;rw[ZZ];go_wp2_with(go_at_call 196;refine(h _).L ?_;rintro e w'⟨rfl,rfl⟩);(try simp only[Exit.inBlock,Exit.then])
 refine aG (v:= .tuple #[]) (by simp[results,results156,go_sem]) rfl ?_;exact⟨rfl,rfl⟩
def C7(a)(cap)(w):Calls prog 95 #[gK a 0 cap] w λe w'=>e=iF/\w'=w:=by have h:=gN (P6 a cap);go_wp2_with(first|(go_at_call 156;refine(h _ _).L ?_;rintro e w'⟨rfl,rfl⟩)|go_in);go_end0;exact⟨rfl,rfl⟩
def Tryz.We(m):AnyZI.SortsIn prog Tryz.yR Fence.wide m:=
 ⟨λy off cap A W F h j=>callsIn_wide.2 (Any.slices_Sort_int Tryz.L5 y off cap A W F h j),
  λp cap W=>callsIn_wide.2 (C7 p cap W)⟩
def rJ(h:0<=k)(j:k<=1000000000000000):(Lit.int .i64 k).wf=true:=by have y:IntKind.i64.min=-9223372036854775808:=bT;have A:IntKind.i64.max=9223372036854775807:=bT;simp only[Lit.wf,bL,ZX];omega
def Is(Z:w.heap[gm]?=some (.map (ie l) iC))(L:∀e∈l,e.bo<iC)(M:(l.map (·.bo)).Nodup)(P:(l.map (·.k)).Nodup)(T:∀e∈l,0<=e.k/\e.k<=1000000000000000)(hl:l.length<=1000):∃D:DataW Value,w.ownsMap prog 3 Rv gm l.length D/\(intKeys D).Perm (l.map (·.k))/\Maps.size D<=l.length:=by
 have Q:(ie l).toList=l.map Ae.A:=by simp[ie]
 have y:∀e∈l,WideElems.rd prog 3 Rv e.A=some (.int .i64 e.k,.held e.v):=λe j=>WideElems.rd_mk (yv:=(DataW.held e.v,[])) (keyOf_int_mk underlying3 (rJ (T e j).1 (T e j).2)) rfl;have A:(ie l).toList.map (WideElems.rg prog 3 Rv)=l.map λe=>(Lit.int .i64 e.k,DataW.held e.v):=by rw[Q,br];exact bf λe j=>WideElems.rg_of (y e j)
 have F:WideElems.Fit prog 3 Rv (ie l) iC:=by
  refine⟨aF (by simp[ie]) (aF hl bT),⟨λx S=>?_,?_,?_⟩,λx S=>?_⟩
  .obtain⟨e,j,rfl⟩:=my S;exact L e j
  .rw[Q,br];exact M
  .rw[Q,br];have:(λx:MapEntry=>x.key)∘Ae.A=(Value.int .i64)∘(λe:Ae=>e.k):=rfl;rw[this,<-br];exact List.Pairwise.map _ (λa b h e=>h (je e)) P
  obtain⟨e,j,rfl⟩:=my S;exact⟨_,y e j⟩
 have Y:((l.map λe=>(Lit.int .i64 e.k,DataW.held e.v)).foldr DataW.insert []).Perm (l.map λe=>(Lit.int .i64 e.k,(DataW.held e.v:DataW Value))):=Go.WideShapes.sorted_perm _;refine⟨_,⟨_,_,Z,F,by simp[ie],rfl⟩,?_,?_⟩
 .rw[A];show List.Perm (List.map _ _) _;refine(Y.map _).H ?_;rw[br];exact fK _
 rw[A];show List.length _<=_;rw[Y.length_eq];simp
def Sb(mb)(W):iU 237 #[.map mb] W λe w'=>e=gU (.func (.func 267) #[] #[O W.heap.size])/\w'=W.alloc (ig #[.map mb] 98):=
 callsIn_wide.1 (AnyZI.keys_in Tryz.Vu Fence.wide 5 trivial rfl mb W)
def ID{bm:Nat}(hb:w.heap[bm]?=some (.map (ie l) iC))(S:∀e∈l,e.bo<iC)(T:(l.map (·.bo)).Nodup)(A:(l.map (·.k)).Pairwise (·<·))(hk:∀e∈l,0<=e.k/\e.k<=1000000000000000)(Z:l.length<=1000)(g)(hg:g<w.heap.size)(hc:w.cell? (U g 0)=some (.map (some bm))):iU 236 #[.func (.func 267) #[] #[O g]] w λe w'=>∃v,e=gU v/\w'.ownsRow w.heap.size 3 1 v l.length (l.map λe=>I e.k)/\Bl w w':=by
 have F:(l.map (·.k)).Nodup:=A.imp λh=>C;obtain⟨D,h1,h2,h3⟩:=Is hb S T F hk Z;have H:SeqGives Fence.wide 2 prog 267 #[O g] encZ (λQ=>Q.Perm (intKeys D)) (Maps.size D) w:=
  AnyZI.keys_gives (ρ:=Tryz.De) {Tryz.Vu with} Fence.wide _ trivial rfl C g bm l.length D _ hg hc h1
 have cS:=AnyZI.sorted_in Tryz.UZ Fence.wide 5 trivial trivial trivial trivial rfl C (Tryz.We _) (enters_of func95 iu rfl) 267 #[O g] trivial (enters_of func267 iu rfl) _ _ (aF h3 (aF Z bT)) C _ H;change CallsIn _ _ prog 236 _ _ _ at cS;refine(callsIn_wide.1 cS).L ?_;rintro e w'⟨v,Q,rfl,hS,j,a0,Y⟩;have M:=hS.H h2;have hs:Q.mergeSort (λx y=>decide (x<=y))=l.map (·.k):=by have:=mergeSort_of_perm_i M;unfold leI at this;rw[this];exact fI (A.imp λh=>ik)
 have P:Q.length=l.length:=by rw[M.length_eq];simp
 refine⟨v,rfl,?_,Y⟩;rwa[hs,P,br]at j
def Tryz.U6:(prog.info? 163).map (λi=>(i.zero,i.size,i.bytes))=some (some (.pointer none),1,8):=rfl
theorem Vl(j:(l.map (·.k)).Nodup){x y:Ae}(A:x∈l)(F:y∈l)(h:x.k=y.k):x=y:=by
 induction l with
 |nil=>simp at A
 |cons z l H=>
  rw[bj,bY]at j;obtain rfl|hx':=bh.1 A<;>obtain rfl|hy':=bh.1 F
  .rfl
  .exact absurd (aD.2 ⟨y,hy',h.symm⟩) j.1
  all_goals simp_all
def Nf(w)(bm iC)(l)(A:w.heap[bm]?=some (.map (ie l) iC))(h:(l.map (·.k)).Nodup)(e)(y:e∈l):(Instr.lookup 98 (.map (some bm)) (I e.k) false).run prog w=.ok e.v w:=by
 obtain⟨j,e',F,H,L⟩:=sV l e.k ⟨e,y,rfl⟩;have:e'=e:=Vl h (aR F) y H;subst this;have M:=fa (w:=w) underlying3 L;have Q:=eW (P:=prog) (w:=w) (k:= I e'.k) underlying3 vN (ie l).isEmpty 9999;simp[Instr.lookup,Sem.run_bind,aI A,Q,M]
def u7{α:Type}(l:List α)(f:α->Value)(j)(h:j<l.length):(l.take (j+1)).map f=(l.take j).map f++[f l[j]]:=by rw[aM h,aZ];rfl
abbrev ptr(g:Nat):Value:= O g
def Tt.Rw(h:Tt w cP t qb X V):((X.a.map (kU qb V.bo)).map (·.k)).Pairwise (·<·):=by rw[br,cj];exact h.a.gL.imp λe=>by show((_:Nat):Int)<((_:Nat):Int);omega
theorem AU(h:jy w cP t p qb X V)(hr:X.e.length<=1000000000)(h8:X.a.length<=8):iU 192 #[ptr p] w λen w'=>∃v,en=gU v/\w'.ownsRow w.heap.size 163 1 v X.a.length (X.a.map λc=>ptr (qb c.gL))/\Bl w w':=by
 obtain⟨S,ji,a3,a4,a5⟩:=fx Tryz.U6;have hm:=h.r.mp;have c8:=h.cellAt 8 rfl;have lp:=h.A;have lb:=h.r.lb;have HK:=gN Sb;have bA:=(Bl.refl w).alloc (ig #[.map (some V.bm)] 98);have a6:=gN h.r.Rw;have HS:=gN (ID (w:=w.alloc (ig #[.map (some V.bm)] 98)) (l:=X.a.map (kU qb V.bo)) ((bA.heap h.r.lb).H hm) (λe he=>by
  obtain⟨c,hc,rfl⟩:=aD.1 he
  exact h.r.bo c hc) (by rw[br];exact h.r.bn) h.r.Rw (λe he=>by
  obtain⟨c,hc,rfl⟩:=aD.1 he
  have:=h.r.a.lt c hc
  show(0:Int)<=(c.gL:Int)/\(c.gL:Int)<=_
  omega) ik w.heap.size bz (ax _ w.heap.size 0 _ 98 (0,0) (ao w _)))
 have HM:=gN hm;clear h hm;rw[ay]at HS;go_enter func192,ntmps192;go_wp2_with(first|(go_at_call 237;refine(HK _ _).L ?_;rintro e w'⟨rfl,rfl⟩)|(go_at_call 236;refine HS.L ?_;rintro e T⟨v,rfl,ho,Y⟩;obtain⟨a,cap,rfl⟩:=jk ho;obtain⟨HO,HB⟩:=gO ho (bA.H Y);clear HS Y ho));go_loopw[3,13](λv i wr=>∃j:Nat,j<=X.a.length/\i=I j/\Hid (wr.ownsRow T.heap.size 163 1 v j ((X.a.take j).map λc=>ptr (qb c.gL)))/\Hid (Bl T wr)) λ_ i _=>X.a.length-(Go.RowKit.intOf i).toNat
 case atStart=>exact⟨0,jR,rfl,m7,jZ⟩
 obtain⟨j,hj,rfl,M,F⟩:=hrel;by_cases jt:j<X.a.length
 .have ai:(j:Int)<(X.a.length:Int):=C;have hB:=HB.H F;obtain⟨g,ak,Z⟩:=qS HO C;simp at Z;obtain⟨rfl,rfl⟩:=Z;have y:=HO.cellAt j C;have a0:(X.a.map (kU qb V.bo)).map (λe=>I e.k)=X.a.map λc=>I c.gL:=by rw[br];rfl
  rw[a0,aK,ah jt]at y;have a1:=(HO.lt g rfl).2;have k1:=(F.cell a1).H y;simp only[bG]at k1;have d8:=(hB.cell lp).H c8;have a7:=Nf wr V.bm V.iC _ ((hB.heap lb).H HM) (a6.imp λh=>C) (kU qb V.bo X.a[j]) (aD.2 ⟨_,aL jt,rfl⟩);simp only[kU]at a7;have an:=af lp hB.lt;have al:=af a1 F.lt;have HT:=gN (u7 X.a (λc=>ptr (qb c.gL)) j jt);have a8:Hid (j+1<=maxLen):=nZ;have a9:Hid ((j+1)*8<=140737488355328):=nC;have ap:Hid (((X.a.take j).map λc=>ptr (qb c.gL)).length=j):=by unfold Hid;simp;omega
  generalize X.a[j]=d at*;generalize qb d.gL=q at*;clear hB y a0;go_wp2_with(at_builtin;refine fm _ rfl _ _ 271 rfl T.heap.size 163 S _ 1 8 underlying271 ji a3 a4 a5 rfl bT u3 j _ rfl (M.alloc _) (U wr.heap.size 0) 1 1 [O q] rfl rfl (ZV _ _ _) tx bT a8 a9 (by have:=F.lt;simp;omega) (wr.heap.size+1) bz ?_);intro g' a2 w3 Q P aa am;have ab:Hid (Bl T w3):=(F.alloc _).A (gI.A P) λk e=>(M.lt k e.symm).1;have ac:Hid (w3.ownsRow T.heap.size 163 1 (gK (G g') (j+1) a2) (j+1) ((X.a.take (j+1)).map λc=>ptr (qb c.gL))):=by unfold Hid;rw[HT.o];simpa [fS]using Q
  clear Q P aa;go_wp2;go_roundw
  case rel=>exact⟨j+1,C,bz,ac,ab⟩
  exact iD
 have aq:¬((j:Int)<(X.a.length:Int)):=C;have ad:j=X.a.length:=C;subst ad;rw[bZ]at M;go_wp2;go_ret;exact⟨_,rfl,⟨M.1,M.2.imp (λe=>e) λ⟨g,c,ag,e,l,r⟩=>⟨g,c,ag,e,aF HB.lt l,r⟩⟩,HB.H F⟩
end Go.Proofs.YtbghhbpacijmmaaGreat
