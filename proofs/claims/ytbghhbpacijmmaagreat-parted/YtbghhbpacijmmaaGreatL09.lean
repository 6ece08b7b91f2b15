import Derived.Test.YtbghhbpacijmmaaGreatL08
open Go.Proofs.Tryz
namespace Go.Proofs.YtbghhbpacijmmaaGreat
set_option maxRecDepth 99999
set_option maxHeartbeats 0
set_option linter.defProp false
open Go.RowKit Go.Maps
attribute [local go_sem ↓] Go.wp_at_zero Go.wp_at_succ
open Go.ChangeMaps (setBlock)
variable {X X':Cx} {c c' c0 d:jn} {R:List (List Int)} {w w1 w':World} {n p t m g ce v i:Nat} {cP fz qb:Nat->Nat} {ms:List Value} {k nr fr e x a:Int} {V V':CV} {cv cv':lE} {iQ:Int->Prop} {s:St} {l:List (Int×Vo)} {r:Rz} {ds rr ch:List Int} {S:Nat->Prop}
def IY(w)(bm iC)(l)(A:w.heap[bm]?=some (.map (ie l) iC))(h:(l.map (·.k)).Nodup)(e)(y:e∈l):(Instr.lookup 98 (.map (some bm)) (I e.k) true).run prog w=.ok (.tuple #[e.v,.bool true]) w:=by
 obtain⟨j,e',F,H,L⟩:=sV l e.k ⟨e,y,rfl⟩;have:e'=e:=Vl h (aR F) y H;subst this;have M:=fa (w:=w) underlying3 L;have Q:=eW (P:=prog) (w:=w) (k:= I e'.k) underlying3 vN (ie l).isEmpty 9999;simp[Instr.lookup,Sem.run_bind,aI A,Q,M]
def jy.qI(h:jy w cP t p qb X V)(j:c∈X.a):(Instr.lookup 98 (.map (some V.bm)) (I (c.gL:Int)) true).run prog w=.ok (.tuple #[O (qb c.gL),.bool true]) w:=
 IY w V.bm V.iC _ h.r.mp (h.r.Rw.imp λe=>C) (kU qb V.bo c) (aD.2 ⟨c,j,rfl⟩)
theorem Cx.F4(h:uf X)(j:c∈X.a):X.a.find? (λd=>d.gL==c.gL)=some c:=by
 cases e:X.a.find? _ with
 |none=>have:=bU.1 e c j;simp_all
 |some d=>have y:=cR e;simp at y;rw[rS h.gL (bu e) j y]
theorem SK(h:jy w cP t p qb X V)(H:100<=t)(A:oM X)(F:c∈X.a)(Q:Cx.lD c=true)(hl:c.q.nodes.length<=100)(a)(hA:X.T a):iU 52 #[O p,I c.gL,I a] w λT w'=>T=gU (I 0)/\CS w cP t p qb (X.jK c.gL a) w':=by
 have j:c.kind=1:=by unfold Cx.lD at Q;simp at Q;exact Q.1
 have hE:X.jK c.gL a=(X.put {c with iA:=a}).dO {c with iA:=a}:=by
  unfold Cx.jK;rw[Cx.F4 h.r.a F];have:X.oO a=true:=by unfold Cx.oO;simp;exact hA
  simp only[this,if_true]
 rw[hE];have Y:=gN λw=>mX X.n X.m X.vo X.ce a w;rw[A.rC hA]at Y;unfold Ot at Y;obtain⟨cv,hk⟩:=h.r.f c F;have Z:=gN (qT hk hl);rw[Q]at Z;have L:=h.qI F;obtain⟨c0,c1,c2⟩:=h.QI 0 1 2 rfl;obtain⟨c3,c8⟩:=h.R 3 8 rfl;have lp:=h.A;have lq:=hk.lt;have HD:Hid (∀W,Bl w W->(∃v,W.cell? (U (qb c.gL) 3)=some v)/\W.frozen? (U (qb c.gL) 3)=false/\iU 89 #[O p,O (qb c.gL)] (W.setCell (U (qb c.gL) 3) (I a)) λT w'=>T=iF/\CS w cP t p qb ((X.put {c with iA:=a}).dO {c with iA:=a}) w'):=λW hW=>by have M:=h.bl hW (fz:=cP) ib;obtain⟨a3,k2⟩:=M.r.f c F;obtain⟨a0,oA⟩:=M.XZ F a;refine⟨⟨_,k2.cellAt 3 rfl⟩,k2.N 3,?_⟩;refine gS (R8 a0 H ⟨A.oE,A.ll,A.ne,A.a0,A.a1⟩ (c:={c with iA:=a}) (Cx.jV F rfl) hA j) λw' hs=>?_;exact⟨rfl,CS.M hW (CS.gR oA hs)⟩
 clear h hk hE;obtain⟨q,P⟩:=gG (qb c.gL);rw[P]at Z L lq HD;clear P;go_enter func52,ntmps52;go_wp2_with(first|(go_at_call 94;refine Z.L ?_;rintro T w1⟨rfl,rfl⟩));refine gS (Y _) λw2 y=>?_;obtain⟨⟨v3,e3⟩,g3,hD⟩:=HD w2 y;have a1:=gN hD;have a4:=af lq y.lt;clear y c0 c1 c2 c3 c8 L Z Y hD HD;go_wp2_with(go_at_call 89;refine jA a1 λw4 a2=>?_);go_ret;exact⟨rfl,a2⟩
theorem FY(h:jy w cP t p qb X V)(hx:oM X)(H:c∈X.a)(hw:Cx.lD c=true)(hl:c.q.nodes.length<=100)(a)(hA:a<0\/(X.n:Int)*X.ce<=a):iU 52 #[O p,I c.gL,I a] w λL w'=>L=gU (I 0)/\CS w cP t p qb (X.jK c.gL a) w':=by
 have hE:X.jK c.gL a=X.fin c ⟨7,0,[]⟩:=by
  unfold Cx.jK;rw[Cx.F4 h.r.a H];have:X.oO a=false:=by
   unfold Cx.oO;obtain hA|hA:=hA
   .have:decide (0<=a)=false:=ik;rw[this];rfl
   have:decide (a<X.n*X.ce)=false:=ik;rw[this,Bool.and_false]
  simp[this]
 rw[hE];have j:rC X.n X.m X.vo X.ce a=(0,0,2):=by unfold rC;rw[aE hx.oE,aE hA]
 have M:=gN λw=>mX X.n X.m X.vo X.ce a w;rw[j]at M;unfold Ot at M;obtain⟨cv,Q⟩:=h.r.f c H;have P:=gN (qT Q hl);rw[hw]at P;have A:=h.qI H;obtain⟨c0,c1,c2⟩:=h.QI 0 1 2 rfl;obtain⟨c3,c8⟩:=h.R 3 8 rfl;have lp:=h.A;have lq:=Q.lt;have T:Hid (∀W,Bl w W->iU 96 #[O p,O (qb c.gL),.agg #[I 7,I 0,OO]] W λL w'=>L=iF/\CS w cP t p qb (X.fin c ⟨7,0,[]⟩) w'):=λW hW=>by refine gS (DE (h.bl hW (fz:=cP) ib) H ⟨7,0,[]⟩ none 0 Rd.nil) λw' hs=>?_;exact⟨rfl,CS.M hW hs⟩
 clear h Q hE j;obtain⟨q,F⟩:=gG (qb c.gL);rw[F]at P A lq T;clear F;go_enter func52,ntmps52;go_wp2_with(first|(go_at_call 94;refine P.L ?_;rintro L w1⟨rfl,rfl⟩));refine gS (M _) λw2 y=>?_;have Y:=gN (T w2 y);have a0:=af lq y.lt;clear y c0 c1 c2 c3 c8 A P M T;go_wp2_with(go_at_call 96;refine jA Y λw4 Z=>?_);go_ret;exact⟨rfl,Z⟩
def sJ.bs{v:Value}(h:sJ w v ds):Bs w v (ds.map B8):=by
 obtain⟨b,o,c',rfl,F,H,L,y⟩:=h;exact .inr ⟨(U b o),c',by rw[ay],λj u A=>by
  rw[aK]at A
  obtain⟨d,M,rfl⟩:=bN.1 A
  rw[nW];exact y j d M⟩
theorem N8(h:jy w cP t p qb X V)(h8:X.a.length<8)(hr:X.e.length<=1000000000)(v)(val)(h0:1<=val.length)(ai:val.length<=8)(hv:sJ w v val)(a1:∀b,v.ownBlock=some b->¬Mc t (cP b)):iU 45 #[O p,v] w λen w'=>en=gU (.tuple #[I X.e.length,I 0])/\∃q,w.heap.size<=q/\CS w cP t p (sb qb X.e.length q) (X.append val) w':=by
 have HB:=gN (Ax h h8 hr 1);have lp:=h.A;have i1:¬(val.length:Int)<1:=C;have i8:¬(8:Int)<(val.length:Int):=C;obtain⟨Hv,aa,a2⟩:=iI hv a1 h.r.a.lt;obtain⟨va,vc,ab⟩:=hv.D;subst ab;clear h hv a1;go_enter func45,ntmps45;go_wp2_with fail;refine HB.L ?_;rintro en w2⟨q,rfl,a3,H,a4,a5,M⟩;obtain⟨HC,a6,ac⟩:=iI (pA _ val w2 (Hv.only M λb P e=>aa.o b P e).bs C) a5 M;obtain⟨ad,ag⟩:=gO a4 a3;clear a5 M a4 HB a3;go_wp2_with fail;refine HC.L ?_;rintro en w3⟨v3,rfl,Q,y⟩;obtain⟨g3,c3,rfl⟩:=qS y C;obtain⟨V2,a7⟩:=a6.o;have T:=a7.bl Q (fz:=ir H w2.heap.size (t+3)) λb P=>gV _ _ _ _ P;have hm:X.jW 1∈(X.jb (X.jW 1)).a:=by simp[Cx.jb]
 have A:sb qb X.e.length q (X.jW 1).gL=q:=tL _ _ _;obtain⟨cv,W⟩:=T.r.f _ hm;rw[A]at W;obtain⟨Y,F⟩:=T.Zy hm 8;rw[A,Cx.uG X a2.o rfl rfl]at Y;rw[A]at F;have a8:({X.jW 1 with ij:={(X.jW 1).ij with kd:=8}}:jn)∈(X.jb {X.jW 1 with ij:={(X.jW 1).ij with kd:=8}}).a:=by simp[Cx.jb]
 have j:sb qb X.e.length q ({X.jW 1 with ij:={(X.jW 1).ij with kd:=8}}:jn).gL=q:=tL _ _ _;have a9:=Rd.qW (cP:=ir H w2.heap.size (t+3)) (t:=t+3) y λb P=>jc _ _ _ _ (y.lt b P).1;have L:=a9.only F (λb _ e=>by unfold Mc at e;omega) λ_ _ e=>e;obtain⟨Z,a0⟩:=Y.zE a8 val _ L;rw[j,Cx.uG X a2.o rfl rfl]at Z;rw[j]at a0;have hS:CS w cP t p (sb qb X.e.length q) (X.append val) _:=CS.wA ac ad (CS.BL Q (λb P=>gV _ _ _ _ P) (CS.mk Z (F.H a0)));have HS:=gN hS;obtain⟨e1,e5⟩:=W.R 1 5 rfl;have g5:=W.N 5;have e8:=W.cellAt 8 rfl;have g8:=W.N 8;have lq:=W.lt;clear a7 T hm A W Y F a8 j a9 L Z a0 hS y Q HC a6;go_wp2;go_ret2;exact⟨rfl,q,ag,HS⟩
def Cx.DW(X:Cx)(u:Int):jn:={X.jW 5 with unit:=u}
def Cx.EE(X:Cx)(u:Int):Cx:=(X.jb (X.DW u)).ku (X.DW u)
def Cx.Wp(h:∀d∈X.a,d.gL<X.e.length)(u)(A:X.iJ=false)(j:(X.EE u).iJ=true):∃c'∈(X.EE u).a,c'.gL=X.e.length:=by
 have y:∀r,((X.jb (X.DW u)).fin (X.DW u) r).iJ=false:=λr=>by
  have e:((X.jb (X.DW u)).fin (X.DW u) r).a=X.a:=by unfold Cx.fin Cx.jb;simp only;rw[cz,eD.2 λd F=>by have:=h d F;show(d.gL !=X.e.length)=true;simp;omega];simp_all
  unfold Cx.iJ Cx.gT at A|-;rw[e];exact A
 unfold Cx.EE Cx.ku at j|-;split at j
 .rename_i H;split at j
  .rw[y]at j;simp at j
  rename_i L;rw[aE H,az L];exact⟨X.DW u,by simp[Cx.jb],rfl⟩
 rw[y]at j;simp at j
def Cx.Xz(h:oM X)(u):oM (X.EE u):=by
 unfold Cx.EE Cx.ku;split
 .split<;>exact⟨h.oE,h.ll,h.ne,h.a0,h.a1⟩
 exact⟨h.oE,h.ll,h.ne,h.a0,h.a1⟩
def Cx.Ye(h:XN X)(u):XN (X.EE u):=by
 unfold Cx.EE Cx.ku;split
 .split<;>exact⟨h.e,h.t⟩
 exact⟨h.e,h.t⟩
def Cx.Yg(u)(j:X.a.length<8)(y:X.e.length<=100000000):(X.EE u).e.length<=1000000000/\(X.EE u).a.length<=8:=by
 have A:(X.jb (X.DW u)).e.length=X.e.length+1:=by simp[Cx.jb]
 have F:(X.jb (X.DW u)).a.length=X.a.length+1:=by simp[Cx.jb]
 have h:∀r,((X.jb (X.DW u)).fin (X.DW u) r).e.length<=1000000000/\((X.jb (X.DW u)).fin (X.DW u) r).a.length<=8:=λr=>by unfold Cx.fin;refine⟨ik,aF (bF _ _) C⟩
 unfold Cx.EE Cx.ku;split
 .split
  .exact h _
  omega
 exact h _
theorem NI(h:jy w cP t p qb X V)(a7:100<=t)(hx:oM X)(hn:XN X)(h8:X.a.length<8)(hr:X.e.length<=100000000)(u)(hu:X.VH u):iU 49 #[O p,I u] w λL w'=>L=gU (.tuple #[I X.e.length,I 0])/\∃q,w.heap.size<=q/\CS w cP t p (sb qb X.e.length q) (X.change u) w':=by
 have HL:=gN λw=>uK X.n X.m X.vo X.ce u w;rw[hx.GF hu]at HL;unfold OR at HL;obtain⟨c0,c1,c2,c3⟩:=h.T 0 1 2 3 rfl;have lp:=h.A;have y:X.change u=if(!X.iJ&&(X.EE u).iJ)then(X.EE u).iB else X.EE u:=rfl
 have a8:Hid (∀W,Bl w W->_):=λW hW=>mS (h.bl hW (fz:=cP) ib) C C;have HB:Hid (∀W,Bl w W->_):=λW hW=>Ax (h.bl hW (fz:=cP) ib) h8 C 5;have HS:Hid (∀w1 Q q M,Bl w w1->w1.heap.size<=q->(∀b,b<w1.heap.size->M b=cP b)->Cl Q M t p (sb qb X.e.length q) (X.jb (X.jW 5))->gI (λb=>Mc t (cP b)) w1 Q->(∃v,Q.cell? (U q 4)=some v)/\Q.frozen? (U q 4)=false/\q<Q.heap.size/\iU 92 #[O p,O q] (Q.setCell (U q 4) (I u)) λL w'=>L=iF/\(w'.cell? (U q 1)=some (I X.e.length)/\q<w'.heap.size)/\CS w cP t p (sb qb X.e.length q) (X.EE u) w'):=λw1 Q q M hb hq ht hc ho=>by
  obtain⟨V2,hk⟩:=hc;have hm:X.jW 5∈(X.jb (X.jW 5)).a:=by simp[Cx.jb]
  have a1:sb qb X.e.length q (X.jW 5).gL=q:=tL _ _ _;obtain⟨cv,kk⟩:=hk.r.f _ hm;rw[a1]at kk;obtain⟨a2,oA⟩:=hk.ZG hm u;rw[a1,Cx.uG X h.r.a.lt rfl rfl]at a2;rw[a1]at oA;refine⟨⟨_,kk.cellAt 4 rfl⟩,kk.N 4,kk.lt,?_⟩;have a9:X.DW u∈(X.jb (X.DW u)).a:=by simp[Cx.jb]
  have aa:sb qb X.e.length q (X.DW u).gL=q:=tL _ _ _;have:=AE (c:=X.DW u) a2 ⟨hx.oE,hx.ll,hx.ne,hx.a0,hx.a1⟩ a9 hu;unfold ptr at this;rw[aa]at this;obtain⟨b6,k3⟩:=a2.r.f _ a9;rw[aa]at k3;refine this.L ?_;rintro L w'⟨rfl,hs,F⟩;refine⟨rfl,⟨?_,af k3.lt F.size⟩,CS.BL hb ib (CS.wA ho ht (CS.gR oA hs))⟩;rw[F.cell k3.lt (λe=>by have:=k3.tq;omega)];exact k3.cellAt 1 rfl
 have HT:Hid (∀q w4,CS w cP t p (sb qb X.e.length q) (X.EE u) w4->(iU 91 #[O p] w4 λL w'=>L=gU (.bool (X.EE u).iJ)/\Bl w4 w')/\(∀T,Bl w4 T->X.iJ=false->(X.EE u).iJ=true->iU 93 #[O p] T λL w'=>L=iF/\(w'.cell? (U q 1)=some (I X.e.length)/\q<w'.heap.size)/\CS w cP t p (sb qb X.e.length q) (X.EE u).iB w')):=λq w4 hs=>by obtain⟨ab,aw,⟨V4,ac⟩,aY⟩:=hs;obtain⟨l1,l2⟩:=Cx.Yg u h8 hr;refine⟨mS ac l1 l2,λT j e0 e1=>?_⟩;refine gS (pI (ac.bl j (fz:=ab) ib) a7 (Cx.Xz hx u) (Cx.Ye hn u)) λw' ad=>?_;refine⟨rfl,?_,CS.wA aY aw (CS.BL j ib ad)⟩;obtain⟨b5,_,b0,_⟩:=ad;have:=b0.YK (c:=X.DW u) (Cx.Wp h.r.a.lt u e0 e1);rwa[show sb qb X.e.length q (X.DW u).gL=q from tL _ _ _]at this
 have HE:=gN y;clear h y;go_enter func49,ntmps49;go_wp2_with fail;refine gS (HL _) λw1 Y=>?_;have b1:=gN Y;have b7:=af lp Y.lt;have a3:=gN (a8 w1 Y);unfold ptr at a3;clear Y c0 c1 c2 c3 HL a8;go_wp2_with fail;refine gS a3 λQ ag=>?_;have Z:=gN (b1.H ag);have b2:=af lp Z.lt;have HG:=gN (HB Q Z);clear ag a3 HB;go_wp2_with fail;refine HG.L ?_;rintro L w3⟨q,rfl,a4,tag3,ai,ak,F⟩;obtain⟨⟨v4,e4⟩,g4,lq,hS⟩:=HS Q w3 q tag3 Z a4 ai ak F;obtain⟨al,a5⟩:=gO hS (aF Z.lt a4);have b8:=af b2 F.size;clear hS HS HG ak F ai a4;go_wp2_with fail;refine al.L ?_;rintro L w4⟨rfl,⟨e1,am⟩,a6⟩;obtain⟨an,ap⟩:=HT q w4 a6;obtain⟨aq,A,a0⟩:=iI a6 an ap;clear a6 al an ap HT
 cases ho:X.iJ with
 |true=>have y:=HE.o;rw[ho]at y;simp only[Bool.not_true,Bool.false_and,fg,if_false]at y;have P:=gN y;clear ho y HE a0 A;go_wp2;go_ret2;exact⟨rfl,q,a5,jf P.o aq⟩
 |false=>
  have y:=HE.o;rw[ho]at y
  cases hy:(X.EE u).iJ with
  |false=>rw[hy]at y A;simp only[Bool.not_false,Bool.true_and,fg,if_false]at y;have P:=gN y;clear ho hy y HE a0;go_wp2_with fail;refine gS A λT j=>?_;have b3:=gN j;have b9:=(j.cell am).H e1;have ba:=af am j.lt;clear j A;go_wp2;go_ret2;exact⟨rfl,q,a5,by rw[P.o];exact aq.post b3⟩
  |true=>rw[hy]at y A;simp only[Bool.not_false,Bool.true_and,if_true]at y;have P:=gN y;have ar:Hid (∀T,Bl w4 T->_):=λT j=>a0.o T j ho hy;clear ho hy y HE a0;go_wp2_with fail;refine gS A λT j=>?_;have au:=gN (ar T j);clear j A ar;go_wp2_with fail;refine au.L ?_;rintro L w6⟨rfl,⟨bb,bc⟩,av⟩;have b4:=gN av;clear av au;go_wp2;go_ret2;exact⟨rfl,q,a5,jf P.o b4⟩
theorem Mt(h:jy w cP t p qb X V)(L:oM X)(M:X.a.length=8)(a)(P:X.T a):iU 46 #[O p,I a] w λF w'=>F=gU (.tuple #[I 0,I 7])/\Bl w w':=by
 have y:=gN λw=>mX X.n X.m X.vo X.ce a w;rw[L.rC P]at y;unfold Ot at y;obtain⟨c0,c1,c2,Q⟩:=h.T 0 1 2 3 rfl;have Z:=h.A;have H:Hid (∀W,Bl w W->_):=λW T=>vT (h.bl T (fz:=cP) ib) 2 M;clear h;go_enter func46,ntmps46;go_wp2_with fail;refine gS (y _) λw1 j=>?_;obtain⟨A,Y⟩:=gO j (H w1 j);clear j c0 c1 c2 Q y H;go_wp2_with fail;refine Y.L ?_;rintro F w2⟨rfl,rfl⟩;go_wp2;go_ret2;exact⟨rfl,A⟩
theorem GG(h:jy w cP t p qb X V)(j:X.a.length=8)(ad)(l cc)(A:1<=l)(F:l<=8):iU 45 #[O p,gK ad l cc] w λe w'=>e=gU (.tuple #[I 0,I 7])/\Bl w w':=by
 have y:=gN (vT h 1 j);clear h;go_enter func45,ntmps45;go_wp2_with fail;refine y.L ?_;rintro e w'⟨rfl,rfl⟩;go_wp2;go_ret2;exact⟨rfl,jZ⟩
theorem Ip(h:jy w cP t p qb X V)(Y:oM X)(Z:X.a.length=8)(hr:X.e.length<=1000000000)(u)(hu:X.VH u):iU 49 #[O p,I u] w λQ w'=>Q=gU (.tuple #[I 0,I 7])/\Bl w w':=by
 have L:=gN λw=>uK X.n X.m X.vo X.ce u w;rw[Y.GF hu]at L;unfold OR at L;obtain⟨c0,c1,c2,c3⟩:=h.T 0 1 2 3 rfl;have lp:=h.A;have A:Hid (∀W,Bl w W->_):=λW M=>mS (h.bl M (fz:=cP) ib) hr C;have T:Hid (∀W,Bl w W->_):=λW M=>vT (h.bl M (fz:=cP) ib) 5 Z;clear h;go_enter func49,ntmps49;go_wp2_with fail;refine gS (L _) λw1 j=>?_;have P:=gN j;have a0:=af lp j.lt;have y:=gN (A w1 j);unfold ptr at y;clear j c0 c1 c2 c3 L A;go_wp2_with fail;refine gS y λw2 F=>?_;have H:=gN (P.H F);have HG:=gN (T w2 H);clear F y T;go_wp2_with fail;refine HG.L ?_;rintro Q w3⟨rfl,rfl⟩;go_wp2;go_ret2;exact⟨rfl,H⟩
theorem Ah(k a)(r)(Q:World->Prop)(h:iU 52 #[O p,I k,I a] w λj w'=>j=gU (I r)/\Q w'):iU 25 #[O p,I k,I a] w λj w'=>j=gU (I r)/\Q w':=by
 have H:=gN h;go_enter func25,ntmps25;go_wp2_with(refine jA H λw' y=>?_);go_ret;exact⟨rfl,y⟩
theorem CE(a r e)(Q:World->Prop)(h:iU 46 #[O p,I a] w λj w'=>j=gU (.tuple #[I r,I e])/\Q w'):iU 19 #[O p,I a] w λj w'=>j=gU (.tuple #[I r,I e])/\Q w':=by
 have H:=gN h;clear h;go_enter func19,ntmps19;go_wp2_with(refine jA H λw' y=>?_);go_ret2;exact⟨rfl,y⟩
theorem Cd(a r e)(Q:World->Prop)(h:iU 49 #[O p,I a] w λj w'=>j=gU (.tuple #[I r,I e])/\Q w'):iU 22 #[O p,I a] w λj w'=>j=gU (.tuple #[I r,I e])/\Q w':=by
 have H:=gN h;clear h;go_enter func22,ntmps22;go_wp2_with(refine jA H λw' y=>?_);go_ret2;exact⟨rfl,y⟩
theorem AF(v)(r e)(Q:World->Prop)(y:∃a l c,v=gK a l c)(h:iU 45 #[O p,v] w λj w'=>j=gU (.tuple #[I r,I e])/\Q w'):iU 18 #[O p,v] w λj w'=>j=gU (.tuple #[I r,I e])/\Q w':=by
 obtain⟨a,l,c,rfl⟩:=y;have H:=gN h;clear h;go_enter func18,ntmps18;go_wp2_with(refine jA H λw' A=>?_);go_ret2;exact⟨rfl,A⟩
theorem NV(h:jy w cP t p qb X V)(i:Nat)(r)(hr:X.e[i]?=some r)(_hl:X.e.length<=1000000000)(a7:r.val.length<=1000000000):iU 50 #[O p,I i] w λen w'=>∃j vc,en=gU (.tuple #[.agg #[I r.wh,I r.ad,gK j r.val.length vc],I 0])/\Bl w w'/\w'.ownsRow w.heap.size 5 1 (gK j r.val.length vc) r.val.length (r.val.map B8):=by
 have hi:=(aj.1 hr).1;obtain⟨xs,F,h2,h3⟩:=h.r.e;obtain⟨g,cap,M⟩:∃g cap,V.rv=gK (G g) X.e.length cap:=by
  obtain⟨_,h0⟩|⟨g,cap,a8,e,_⟩:=F.2
  .omega
  exact⟨g,cap,e⟩
 rw[M]at F;obtain⟨x0,x1,s,x2,hs⟩:=h3 i r hr;obtain⟨P,Q,rfl⟩:=hs.D;rw[ay]at x2 hs;have z0:w.cell? (U g (i*3))=some (I r.wh):=by rw[F.cellAt _ C,cN];exact x0
 have z1:w.cell? (U g (i*3+1))=some (I r.ad):=by rw[F.cellAt _ C,cN];exact x1
 have z2:w.cell? (U g (i*3+2))=some (gK P r.val.length Q):=by rw[F.cellAt _ C,cN];exact x2
 have lg:=(F.lt g rfl).2;have c7:=h.cellAt 7 rfl;rw[M]at c7;have lp:=h.A;have a9:(0:Int)<=(i:Int):=C;have aa:(i:Int)<(X.e.length:Int):=C;have HC:Hid (∀W,Bl w W->_):=λW hW=>pA (gK P r.val.length Q) r.val W (hs.bs.bl hW) C;clear h F h2 h3 M x0 x1 x2 hs hr;go_enter func50,ntmps50;go_wp2_with fail;refine(HC _ (by exact nH)).L ?_;rintro en w2⟨v',rfl,y,A⟩;have a5:=((Bl.refl w).alloc (ig #[I 0,I 0,OO] 43)).alloc (ig (Sx r P Q) 43);have T:=(cL (w.alloc (ig #[I 0,I 0,OO] 43)) (ig (Sx r P Q) 43) (r:=w.heap.size) bz).H (ao w _);have Y:((w.alloc (ig #[I 0,I 0,OO] 43)).alloc (ig (Sx r P Q) 43)).heap[w.heap.size+1]?=some (ig (Sx r P Q) 43 (0,0)):=by have:=ao (w.alloc (ig #[I 0,I 0,OO] 43)) (ig (Sx r P Q) 43);simpa using this
 have a3:=(y.heap (ae.1 T).1).H T;have a4:=(y.heap (ae.1 Y).1).H Y;obtain⟨a0,a1,a2,la⟩:=G8 a3;obtain⟨b0,b1,b2,lb⟩:=G8 a4;obtain⟨ab,ac,ad⟩:=Ff a3 0 1 2;have ag:=aP w2 (w.heap.size+1) 2 _ 43 a4;obtain⟨j,vc,a6⟩:∃j vc,v'=gK j r.val.length vc:=by obtain⟨a,c,e⟩:=(jD A).len;rw[ay]at e;exact⟨a,c,e⟩
 subst a6;have HB:=gN (a5.H y);have HO:=gN (iE (base':=w.heap.size+2) A λb hb=>by have:=(A.lt b hb).1;simpa using this);clear T Y a3 a4 y A a5 HC z0 z1 z2;go_wp2;(try simp only[Exit.inBlock,Exit.then])
 refine aG (v:= .tuple #[.agg (Sx r j vc),I 0]) (by simp[results,results50,go_sem,a0,a1,a2]) rfl ⟨j,vc,rfl,?_,?_⟩
 .exact ZY (ZY (ZY (ZY HB rE _) jr _) jr _) jr _
 have Z:=((((gI.refl (λb=>b=w.heap.size\/b=w.heap.size+1) w2).setCell (U (w.heap.size+1) 2) (.inl (.inr rfl)) (gK j r.val.length vc)).setCell (U w.heap.size 0) (.inl (.inl rfl)) (I r.wh)).setCell (U w.heap.size 1) (.inl (.inl rfl)) (I r.ad)).setCell (U w.heap.size 2) (.inl (.inl rfl)) (gK j r.val.length vc);exact iE (Z.jH HO λb hb e=>by have:=(HO.lt b hb).1;omega) λb hb=>by have:=(HO.lt b hb).1;omega
theorem IA(h:jy w cP t p qb X V)(i:Nat)(r)(Y:X.e[i]?=some r)(hl:X.e.length<=1000000000)(F:r.val.length<=1000000000):iU 23 #[O p,I i] w λQ w'=>∃y A,Q=gU (.tuple #[.agg #[I r.wh,I r.ad,gK y r.val.length A],I 0])/\Bl w w'/\w'.ownsRow w.heap.size 5 1 (gK y r.val.length A) r.val.length (r.val.map B8):=by
 have T:=(Bl.refl w).alloc (ig #[I 0,I 0,OO] 43);have W:=gN (NV (h.bl T (fz:=cP) ib) i r Y hl F);have lp:=h.A;clear h;go_enter func23,ntmps23;go_wp2_with fail;refine W.L ?_;rintro Q w'⟨y,A,rfl,j,L⟩;have M:=(j.heap (b:=w.heap.size) bz).H (ao w _);obtain⟨n0,n1,n2,ln⟩:=G8 M;obtain⟨f0,f1,f2⟩:=Ff M 0 1 2;have HB:=gN (T.H j);have P:=gN (iE (base':=w.heap.size+1) L λb j=>by have:=(L.lt b j).1;simpa using this);clear M j L W;go_wp2;(try simp only[Exit.inBlock,Exit.then])
 refine aG (v:= .tuple #[.agg (Sx r y A),I 0]) (by simp[results,results23,go_sem,n0,n1,n2]) rfl ⟨y,A,rfl,?_,?_⟩
 .exact ZY (ZY (ZY HB jr _) jr _) jr _
 have Z:=(((gI.refl (λb=>b=w.heap.size) w').setCell (U w.heap.size 0) (.inl rfl) (I r.wh)).setCell (U w.heap.size 1) (.inl rfl) (I r.ad)).setCell (U w.heap.size 2) (.inl rfl) (gK y r.val.length A);exact iE (Z.jH P λb j e=>by have:=(P.lt b j).1;omega) λb j=>by have:=(P.lt b j).1;omega
abbrev cfg(a b c d:Int):Value:= .agg #[I a,I b,I c,I d]
structure sf(base:Nat)(w:World)(g n:Nat)(ms:List Value)(R:List (List Int)):Prop where
 ij:w.ownsRow base 24 1 (.slice (G g) n n) n ms
 len:R.length=n
 row:∀i (h:i<ms.length) (h':i<R.length),w.ownsRow base 3 1 ms[i] R[i].length (R[i].map I)
 ny:∀i j (hi:i<ms.length) (hj:j<ms.length) b,i≠j->ms[i].ownBlock=some b->ms[j].ownBlock≠some b
def sf.ze{base:Nat}(h:sf base w g n ms R):ms.length=n:=by have:=h.ij.1;omega
def sf.only{base:Nat}(h:sf base w g n ms R)(F:gI S w w')(H:∀b,base<=b->b<w.heap.size->¬S b):sf base w' g n ms R:=
 ⟨F.jH h.ij λb y=>H b (h.ij.lt b y).1 (h.ij.lt b y).2,h.len,λi A j=>F.jH (h.row i A j) λb y=>H b ((h.row i A j).lt b y).1 ((h.row i A j).lt b y).2,h.ny⟩
def sf.bl{base:Nat}(h:sf base w g n ms R)(j:Bl w w'):sf base w' g n ms R:=
 h.only (gI.D j) λ_ _ _ e=>e
def sf.push{base:Nat}(h:sf base w g n ms R){k:Nat}(hk:k<n)(H:k<ms.length)(a2:k<R.length){L c:Nat}(hg:w.grownBy w1 ms[k].ownBlock)(hv:ms[k].ownBlock=some L\/w.heap.size<=L)(ho:w1.ownsRow base 3 1 (gK (G L) (R[k].length+1) c) (R[k].length+1) (R[k].map I++[I x])):sf base (w1.setCell (U g k) (gK (G L) (R[k].length+1) c)) g n (ms.set k (gK (G L) (R[k].length+1) c)) (R.set k (R[k]++[x])):=by
 have F:=gI.A hg;have A:w1.ownsRow base 24 1 (gK (G g) n n) n ms:=F.jH h.ij λb y e=>lH h.ij (h.row k H a2) bT b y e.symm;obtain⟨a3,a4⟩:=A.stored k (gK (G L) (R[k].length+1) c);have T:=gI.A a4;have Y:∀b,(gK (G L) (R[k].length+1) c).ownBlock=some b->¬some b=some g:=by intro b y e;exact lH ho A bT b y (by simp[Value.ownBlock];simpa using e.symm)
 refine⟨a3,by simpa using h.len,λi Z a0=>?_,λi j Z hj b W y=>?_⟩
 .simp only[bK]at Z a0;by_cases M:i=k
  .subst M;simp only[cA];have:=T.jH ho λb y=>Y b y;simpa using this
  rw[cC C,cC C];have hr:=h.row i Z a0;have a1:=F.jH hr λb y e=>h.ny i k Z H b M y e.symm;exact T.jH a1 λb y e=>lH a1 A bT b y (by simp[Value.ownBlock];simpa using e.symm)
 have P:i<ms.length:=by simpa using Z
 have Q:j<ms.length:=je hj;by_cases M:i=k
 .subst M;rw[cA]at y;rw[cC C];simp[Value.ownBlock]at y;subst y;intro e;obtain hv|hv:=hv
  .exact h.ny i j H Q L W hv e
  have:=(h.row j Q (by rw[h.len,<-h.ze];exact Q)).lt _ e;omega
 rw[cC C]at y;by_cases a5:j=k
 .subst a5;rw[cA];intro e;simp[Value.ownBlock]at e;subst e;obtain hv|hv:=hv
  .exact h.ny i j P H L W y hv
  have:=(h.row i P (by rw[h.len,<-h.ze];exact P)).lt _ y;omega
 rw[cC C];exact h.ny i j P Q b W y
def sf.Eu{base:Nat}(h:w.ownsRow base 24 1 (gK (G g) n n) n (List.replicate n OO)):sf base w g n (List.replicate n OO) (List.replicate n []):=
 ⟨h,bz,λi y A=>by simpa using m7,λi j y H b _ F=>pV F⟩
def sf.DM{wr:World}(h:sf w.heap.size wr g n ms R)(T:Bl w wr){k:Nat}(hk:k<n)(F:k<ms.length)(H:k<R.length){mk:Value}(W:ms[k]=mk)(Y:R[k]=rr){L c:Nat}{o:Obj}(Z:(wr.alloc o).grownBy w1 mk.ownBlock)(hv:mk.ownBlock=some L\/L=wr.heap.size+1)(ho:w1.ownsRow w.heap.size 3 1 (gK (G L) (rr.length+1) c) (rr.length+1) (rr.map I++[I x])):w1.cell? (U g k)=some mk/\w1.frozen? (U g k)=false/\sf w.heap.size (w1.setCell (U g k) (gK (G L) (rr.length+1) c)) g n (ms.set k (gK (G L) (rr.length+1) c)) (R.set k (rr++[x]))/\Bl w (w1.setCell (U g k) (gK (G L) (rr.length+1) c)):=by
 subst W Y;have Q:sf w.heap.size (wr.alloc o) g n ms R:=h.bl (jZ.alloc _);have j:=gI.A Z;have y:w1.ownsRow w.heap.size 24 1 (gK (G g) n n) n ms:=j.jH Q.ij λb M e=>lH Q.ij (Q.row k F H) bT b M e.symm;have jt:=h.ij.lt g rfl;have P:∀b,ms[k].ownBlock=some b->w.heap.size<=b:=λb M=>((h.row k F H).lt b M).1;refine⟨?_,y.frozenAt k,Q.push hk F H Z (hv.imp id λe=>ik) ho,?_⟩
 .rw[y.cellAt k C,ah F]
 have b1:Bl w w1:=(T.alloc o).A j λb M=>P b M.symm;exact ZY b1 jt.1 _
def Tg{k:Nat}(y:1<=m)(A:m<=3)(h:(k:Int)<n*m):Int.tdiv (k:Int) (m:Int)=((k/m:Nat):Int)/\k/m<n:=by
 refine⟨by rw[eF C];rfl,?_⟩;have j:k<n*m:=by exact_mod_cast h
 exact(Nat.div_lt_iff_lt_mul C).2 j
def sO(m k i:Nat):List Int:=((List.range k).filter λj=>j/m==i).map λ(j:Nat)=>(j:Int)
def CH(m k i)(h:k/m=i):sO m (k+1) i=sO m k i++[(k:Int)]:=by unfold sO;rw[dp];simp[h]
def Ao(m k i)(h:k/m≠i):sO m (k+1) i=sO m k i:=by unfold sO;rw[dp];simp[h]
def yW(m i):sO m 0 i=[]:=rfl
theorem yO(m)(y:0<m)(i):∀k,sO m k i=(List.range (min (k-i*m) m)).map λ(j:Nat)=>((i*m+j:Nat):Int)
 |0=>by simp[yW]
 |k+1=>by
  have A:=yO m y i k;by_cases h:k/m=i
  .rw[CH m k i h,A];have F:i*m<=k:=by rw[<-h];exact Nat.div_mul_le_self k m
   have H:k<i*m+m:=by have:=Nat.lt_div_mul_add (a:=k) y;rwa[h]at this
   rw[show min (k+1-i*m) m=min (k-i*m) m+1 by omega,dp,aZ];congr 1;simp;omega
  rw[Ao m k i h,A];have L:min (k+1-i*m) m=min (k-i*m) m:=by
   by_cases F:i*m<=k
   .have H:i*m+m<=k:=by apply bk;intro M;exact h ((Nat.div_eq_iff y).2 ⟨C,C⟩)
    omega
   omega
  rw[L]
theorem Kd(n m:Nat)(c d)(w)(h1:1<=n)(h2:n<=3)(h3:1<=m)(h4:m<=3):iU 81 #[cfg n m c d] w λe w'=>∃g,e=gU (gK (G g) n n)/\Bl w w'/\∀(cP:Nat->Nat) (tc:Nat),(∀b,w.heap.size<=b->b<w'.heap.size->cP b=tc)->qh w' cP tc (gK (G g) n n) (iR n m):=by
 obtain⟨aa,hi,b0,b2,b3⟩:=fx Tryz.Ju;obtain⟨i3,ji,b4,b5,b6⟩:=fx Tryz.tJ;have b7:Hid (aa.bytes*n<=281474976710656):=by rw[b3];unfold Hid;omega
 have ab:Hid (n<=maxLen):=nZ;have bd:(1:Int)<=(n:Int)*(m:Int)/\(n:Int)*(m:Int)<=48:=xR C C C C;have bi:((m:Int)==0)=false:=ik;obtain⟨W0,L⟩:∃W,W=w.alloc (ig #[I n,I m,I c,I d] 27):=⟨_,rfl⟩;have a4:Bl w W0:=by rw[L];exact jZ.alloc _
 have Y:W0.heap[w.heap.size]?=some (ig #[I n,I m,I c,I d] 27 (0,0)):=by rw[L];exact ao w _
 have Z:W0.heap.size=w.heap.size+1:=om L;go_enter func81,ntmps81;go_wp2_with(at_make;refine wpList_make_full _ rfl _ _ 89 rfl W0.heap.size 24 aa _ 1 underlying89 hi b0 b2 _ _ _ _ n rfl rfl rfl rfl b7 ab (om L) ?_);intro w1 P y;rw[<-L]at y;rw[<-Z]at P;have F:Bl W0 w1:=(gI.A y).u9 bz;have R0:sf W0.heap.size w1 W0.heap.size n _ _:=sf.Eu (by simpa [toList_madeCells_one]using P);rw[<-Z];clear P y L;have a0:=gN Z;clear Z;have c0:w1.cell? (U w.heap.size 0)=some (I n):=(F.cell (b:=w.heap.size) (o:=0) (gM a0.o)).H (ax W0 w.heap.size 0 _ 27 (0,0) Y);have c1:w1.cell? (U w.heap.size 1)=some (I m):=(F.cell (b:=w.heap.size) (o:=1) (gM a0.o)).H (ax W0 w.heap.size 1 _ 27 (0,0) Y);go_wp2;go_loopw[14](λi wr=>∃(k:Nat) (ms:List Value) (R:List (List Int)),(k:Int)<=n*m/\i=I k/\Bl W0 wr/\sf W0.heap.size wr W0.heap.size n ms R/\(∀r∈R,r.length<=k)/\∀i,(h:i<R.length)->R[i]=sO m k i) λi _=>(n*m:Nat)-(intOf i).toNat
 case atStart=>exact⟨0,_,_,C,rfl,F,R0,bz,λi h=>by simp[yW]⟩
 clear F R0 c0 c1;obtain⟨k,ms,R,hk,rfl,F,M,a5,hC⟩:=hrel;have HC:=gN hC;clear hC;have c0:wr.cell? (U w.heap.size 0)=some (I n):=(F.cell (b:=w.heap.size) (o:=0) (gM a0.o)).H (ax W0 w.heap.size 0 _ 27 (0,0) Y);have c1:wr.cell? (U w.heap.size 1)=some (I m):=(F.cell (b:=w.heap.size) (o:=1) (gM a0.o)).H (ax W0 w.heap.size 1 _ 27 (0,0) Y);by_cases jt:(k:Int)<n*m
 .obtain⟨hq,a1⟩:=Tg h3 h4 jt;have b8:Hid (k<n*m):=by unfold Hid;exact_mod_cast jt
  obtain⟨q,a6⟩:=gG (k/m);rw[a6]at hq a1;have ac:=gN a6;clear a6;have a7:q<ms.length:=by rw[M.ze];exact a1
  have a8:q<R.length:=by rw[M.len];exact a1
  have ad:=M.ij.cellAt q C;rw[ah a7]at ad;have A:=M.row q a7 a8;have bl:=a5 _ (aL a8);generalize ag:ms[q]=mk at*;have ai:=gN ag;clear ag;have M:=gN M;generalize ak:R[q]=rr at*;have al:=gN ak;clear ak;have a2:=gN A;clear A;have b9:=gN a5;clear a5;have bm:(k:Int)<=48:=C;have am:Hid ((rr.length+1)*8<=140737488355328):=nC;have an:Hid (rr.length+1<=maxLen):=nZ;have be:=F.lt;have bn:(0:Int)<=(q:Int):=C;have bo:(q:Int)<n:=C;go_wp2_with(at_builtin;refine fm _ rfl _ _ 24 rfl W0.heap.size 3 i3 (I 0) 1 8 underlying24 ji b4 b5 b6 rfl bT mk rr.length _ rfl (a2.alloc _) (U wr.heap.size 0) 1 1 [I k] rfl rfl (ZV _ _ _) tx bT an am ik (wr.heap.size+1) bz ?_);intro g' cap w1 Q y ap bg;have HP:=M.DM F a1 a7 a8 ai al y ap Q;obtain⟨bp,bq,R1,b1⟩:=HP;obtain⟨ba,bb⟩:=gO R1 b1;clear Q y ap a2 R1 b1 ai ad;go_wp2;go_roundw
  case rel=>exact⟨k+1,_,_,C,iq,bb,ba,λr hr=>by
   obtain h|h:=fN hr
   .exact Nat.le_succ_of_le (b9 r h)
   .rw[h];simp;omega,λi hi=>by
   have aq:i<R.length:=je hi
   by_cases e:i=q
   .subst e
    rw[cA,CH m k i ac.o,<-HC.o i aq,al.o]
   .rw[cC (Ne.symm e),Ao m k i λe'=>e (e'.symm.H ac.o),<-HC.o i aq]⟩
  have:=b8.o;simp[intOf];omega
 go_wp2;go_ret;refine⟨W0.heap.size,rfl,a4.H F,λcP tc a3=>?_⟩;have bc:k=n*m:=by
  have:(k:Int)=((n*m:Nat):Int):=by rw[Int.natCast_mul];omega
  exact_mod_cast this
 have ar:(iR n m).length=n:=by simp[iR]
 refine⟨W0.heap.size,ms.toArray,n,(0,0),mT ar,by rw[ar];exact jr,ab,a3 _ a4.lt (M.ij.lt _ rfl).2,D7 M.ij,λj ch T=>?_⟩;have hj:j<n:=by have:=(aj.1 T).1;omega
 have au:ch=(List.range m).map λi=>((j*m+i:Nat):Int):=by unfold iR at T;rw[aK,cD hj]at T;simp at T;rw[<-T];simp
 have av:j<ms.length:=by rw[M.ze];exact hj
 have aw:j<R.length:=by rw[M.len];exact hj
 refine⟨ms[j],mZ av,?_⟩;have A:=M.row j av aw;have aY:min (n*m-j*m) m=m:=by have h1:(j+1)*m<=n*m:=gy m hj;rw[Nat.add_mul]at h1;omega
 have a9:R[j].map I=ch.map I:=by rw[HC.o j aw,bc,yO m C j,aY,au]
 rw[a9]at A;exact Rd.qW A λb hb=>a3 b (aF a4.lt (A.lt b hb).1) (A.lt b hb).2
def Wy(w):(Instr.makeMap 98 none).run prog w=.ok (.map (some w.heap.size)) (w.alloc (.map #[] 0)):=rfl
def N6(g n bm:Nat):CV:={lv:= .slice (G g) n n,rv:= OO,bm:=bm,bo:=λ_=>0,iC:=0,pr:=QV.zero,bg:= .map none,b:= OO,sl:=QV.zero,vt:=QV.zero}
def RJ(B:Nat)(w:World)(t:TypeId)(p:Nat)(n m vo ce:Nat)(id:Int):Prop:=
 ∃g bm,B<=bm/\B<=p/\w.heap[p]?=some (.cells (ry (Cx.new n m vo ce id) (N6 g n bm)).toArray t (0,0))/\w.heap[bm]?=some (.map #[] 0)/\bm≠p/\∀(cP:Nat->Nat) (tc:Nat),(∀b,B<=b->b≠bm->b<p->cP b=tc)->qh w cP tc (.slice (G g) n n) (iR n m)
def PI(B)(W)(t)(arr)(g bm)(n m vo ce)(id)(A:arr=(ry (Cx.new n m vo ce id) (N6 g n bm)).toArray)(y:W.heap[bm]?=some (.map #[] 0))(p)(F:p=W.heap.size)(L:B<=bm)(j:B<=W.heap.size)(M:∀(cP:Nat->Nat) (h:Nat),(∀b,B<=b->b≠bm->b<W.heap.size->cP b=h)->qh W cP h (gK (G g) n n) (iR n m)):RJ B (W.alloc (ig arr t)) t p n m vo ce id:=by
 subst F;subst A;have P:bm<W.heap.size:=(ae.1 y).1;exact⟨g,bm,L,j,ao W _,(cL W _ P).H y,C,λcP h Q=>(M cP h Q).only (jY (jZ.alloc _)) (λ_ _ e=>e.elim) λ_ _ e=>e⟩
theorem RZ(n m c d:Nat)(x)(w)(P:oE n m c d=true)(h0:1000<=x)(Y:x<=1099):iU 43 #[cfg n m c d,I x] w λe w'=>(∃p,e=gU (.tuple #[O p,I 0])/\RJ w.heap.size w' 112 p n m c d x)/\Bl w w':=by
 have Z:=gN (nU n m c d);rw[P]at Z;obtain⟨f1,f2,f3,f4⟩:=vE P;obtain⟨f5,f6⟩:=KU P;have HF:=gN λw=>Kd n m c d w C C C C;have hA:=(Bl.refl w).alloc (ig #[I n,I m,I c,I d] 27);have hN:(w.alloc (ig #[I n,I m,I c,I d] 27)).heap[w.heap.size]?=some (ig #[I n,I m,I c,I d] 27 (0,0)):=ao w _;clear P;go_enter func43,ntmps43;go_wp2_with fail;refine gS (Z _) λw' Q=>?_;have A:=(Q.heap (b:=w.heap.size) bz).H hN;obtain⟨c0,c1,c2,c3⟩:=pD A 0 1 2 3 rfl;have h:=hA.H Q;have jt:w.heap.size<w'.heap.size:=(ae.1 A).1;clear hN A hA Q;have a1:=Wy;go_upto_region 3 with fail;go_cut[4,5] λr e wx=>∃p,r= O p/\e=I 0/\RJ w.heap.size wx 112 p n m c d x/\Bl w wx
 case first=>
  go_region_with(go_at_call 81;refine(HF _).L ?_;rintro e w2⟨g,rfl,y,F⟩;have j:Bl w' w2:=Bl.H (by exact nH) y;obtain⟨e0,e1,e2,e3⟩:=j.N jt c0 c1 c2 c3;have a0:w.heap.size<w2.heap.size:=af jt j.lt;have T:=gN F;have a2:w.heap.size<=w'.heap.size:=h.lt;have W:=y.lt;clear F);all_goals
   go_wp2_with fail;go_meet;refine⟨_,rfl,rfl,PI _ _ 112 _ g _ _ _ _ _ _ rfl ?_ _ (by first|rfl|simp) ?_ ?_ ?_,?_⟩
   .first
     |exact ao _ _
     |exact(y.heap (b:=w'.heap.size) bz).H (ao _ _)
     |exact(y.heap (b:=w'.heap.size) bz).H (ao w'.drew _)
     |exact(y.heap (b:=w'.heap.size) bz).H (ao w' _)
   .first
     |exact aF h.lt j.lt
     |exact h.lt
   .first
     |exact aF h.lt (aF j.lt bz)
     |exact aF h.lt j.lt
   .intro cP tc ht;have M:=T cP tc (λb Y h2=>by
     refine ht b ?_ ?_ ?_
     all_goals(simp at Y W|-;omega))
    first
     |exact M
     |exact M.only (jY (jZ.alloc _)) (λ_ _ e=>e.elim) λ_ _ e=>e
   first
    |exact((h.H j).alloc _).alloc _
    |exact(h.H j).alloc _
 case rest=>obtain⟨p,rfl,rfl,hM,hB⟩:=hcut;go_wp2;go_ret2;exact⟨⟨p,rfl,hM⟩,hB⟩
theorem Ca:∀(l:List Value) (k:Nat) (A:Array Value),(List.foldl (λcs x=>cs.setIfInBounds x.snd x.fst) A (l.zipIdx k)).size=A.size
 |[],_,_=>rfl
 |v::l,k,A=>by rw[eO,dF,Ca l];simp
theorem K4:∀(l:List Value) (k:Nat) (A:Array Value) (i:Nat),i<l.length->k+i<A.size->(List.foldl (λcs x=>cs.setIfInBounds x.snd x.fst) A (l.zipIdx k))[k+i]?=l[i]?
 |[],_,_,_,h,_=>mR h
 |v::l,k,A,0,_,F=>by
  rw[eO,dF];have H:∀(l:List Value) (y:Nat) (A:Array Value) (j:Nat),j<y->(List.foldl (λcs x=>cs.setIfInBounds x.snd x.fst) A (l.zipIdx y))[j]?=A[j]?:=by
   intro l;induction l with
   |nil=>intros;rfl
   |cons u l L=>intro y A j M;rw[eO,dF,L _ _ _ C,cO ik]
  simp_all
 |v::l,k,A,i+1,h,F=>by rw[eO,dF,show k+(i+1)=(k+1)+i by omega,K4 l (k+1) _ i (je h) ik];simp
def RT(l:List Value)(A)(h:A.size=l.length):List.foldl (λcs x=>cs.setIfInBounds x.snd x.fst) A l.zipIdx=l.toArray:=by
 apply Array.ext_getElem?;intro i;by_cases j:i<l.length
 .have:=K4 l 0 A i j C;simp_all
 rw[gh (by rw[Ca];omega),gh ik]
def zG(cP:Nat->Nat)(N p bm tc:Nat):Nat->Nat:=λb=>if b<N then cP b else if b=p then tc else if b=bm then tc+1 else tc+3
def Uz(cP)(N p bm tc):∀b,N<=b->tc<=zG cP N p bm tc b/\zG cP N p bm tc b<tc+32:=λb h=>by
 unfold zG;rw[az C];split
 .simp
 split<;>omega
def SL{B c d:Nat}{bm:Nat}{j:Nat}(Q:B<=bm)(A:B<=p)(y:bm≠p)(F:w1.heap[p]?=some (ig (ry (Cx.new n m c d x) (N6 g n bm)).toArray 114 (0,0)))(H:w1.heap[bm]?=some (.map #[] 0))(L:qh w1 (zG cP B p bm j) (j+3) (gK (G g) n n) (iR n m))(qb):Cl w1 (zG cP B p bm j) j p qb (Cx.new n m c d x):=
 ⟨N6 g n bm,F,by unfold zG;rw[az C,aE rfl],L,⟨[],m7,λb M=>by simp[N6,Value.ownBlock]at M,λi r P=>by simp[Cx.new]at P⟩,by show zG cP B p bm j bm=j+1;unfold zG;rw[az C,az y,aE rfl],H,λc h=>by simp[Cx.new]at h,by simp[Cx.new],QR.zero,QR.zero,QR.zero,.inl ⟨rfl,rfl⟩,Rd.nil,λc h=>by simp[Cx.new]at h,⟨by simp[Cx.new],λc h=>by simp[Cx.new]at h,by simp[Cx.new],λc h=>by simp[Cx.new]at h⟩⟩
theorem DF(n m c d:Nat)(x)(w)(hf:oE n m c d=true)(h0:1000<=x)(Q:x<=1099)(cP:Nat->Nat)(tc):iU 16 #[cfg n m c d,I x] w λe w'=>∃p,e=gU (.tuple #[O p,I 0])/\w.heap.size<=p/\Bl w w'/\∃fz,(∀b,b<w.heap.size->fz b=cP b)/\(∀b,w.heap.size<=b->tc<=fz b/\fz b<tc+32)/\∀qb,Cl w' fz tc p qb (Cx.new n m c d x):=by
 have HN:=gN λw=>RZ n m c d x w hf h0 Q;have T:=(Bl.refl w).alloc (ig #[I n,I m,I c,I d] 27);clear hf;go_enter func16,ntmps16;go_wp2_with fail;refine(HN _).L ?_;rintro e w1⟨⟨p,rfl,g,bm,W,a5,P,Y,a6,hL⟩,y⟩;obtain⟨cs,h⟩:∃cs,cs=ry (Cx.new n m c d x) (N6 g n bm):=⟨_,rfl⟩;have A:cs.length=55:=by rw[h];rfl
 rw[<-h]at P;have a0:Hid (w1.rangeAt p 0 cs):=λj v hv=>by rw[bP,ax w1 p j _ 112 (0,0) P];simpa using hv
 have a1:Hid ((prog.info? 112).map (·.size)=some cs.length):=by unfold Hid;rw[A];kernel_rfl
 obtain⟨HC,HM⟩:=gO h (And.intro W (And.intro Y hL));have F:w.heap.size<=w1.heap.size:=(T.H y).lt;have M:=T.lt;have HB:=gN (T.H y);have a2:Hid (p<w1.heap.size):=(ae.1 P).1;have a3:bm<w1.heap.size:=(ae.1 Y).1;clear P Y hL h HN y;go_wp2_with(refine wpList_load_mid rfl 112 (.tmp 18) rfl p 0 rfl cs _ a0 underlying112 rfl a1 ?_);go_ret2;have fin:∀Z:Array Value,Z.size=55->List.foldl (λcs x=>cs.setIfInBounds x.snd x.fst) Z cs.zipIdx=cs.toArray:=λZ hZ=>RT cs Z C;obtain⟨k1,k2,k3⟩:=HM.o;have a4:bm≠w1.heap.size:=C;refine⟨w1.heap.size,rfl,F,HB.alloc _,zG cP w.heap.size w1.heap.size bm tc,λb y=>aE y,Uz cP w.heap.size w1.heap.size bm tc,λqb=>SL (B:=w.heap.size) (g:=g) (bm:=bm) (aF M k1) F a4 ?_ ((cL w1 _ a3).H k2) ?_ qb⟩
 .rw[<-HC.o,fin _ rfl];exact ao w1 _
 refine(k3 (zG cP w.heap.size w1.heap.size bm tc) (tc+3) λb y Q h2=>?_).only (jY (jZ.alloc _)) (λ_ _ e=>e.elim) λ_ _ e=>e;unfold zG;rw[az (gM (aF M y)),az (gM a2.o),az Q]
def pk(c n:Int):Int:=(if c<0 then-(c+1)else c)%n
def mO(c n)(h:0<n):0<=pk c n/\pk c n<n:=⟨dq _ C,de _ h⟩
theorem nT(c n)(w)(L:-9223372036854775808<=c)(M:c<=9223372036854775807)(j:0<n)(A:n<=9223372036854775807):iU 15 #[I c,I n] w λe w'=>e=gU (I (pk c n))/\w'=w:=by
 unfold pk;have h:n≠0:=C;by_cases y:c<0
 .rw[aE y];have F:Int.tmod (-(c+1)) n=(-(c+1))%n:=fL C;have r:=dq (-(c+1)) h;have H:=de (-(c+1)) j;go_enter func15,ntmps15;go_wp2;go_ret;exact⟨rfl,rfl⟩
 rw[az y];have F:Int.tmod c n=c%n:=fL C;have r:=dq c h;have H:=de c j;go_enter func15,ntmps15;go_wp2;go_ret;exact⟨rfl,rfl⟩
abbrev vZ(x:Int):Prop:=-9223372036854775808<=x/\x<=9223372036854775807
theorem DY(c u v s)(w)(h:vZ c)(j:vZ u)(y:vZ v)(A:vZ s):iU 14 #[I c,I u,I v,I s] w λe w'=>e=gU (cfg (1+pk c 3) (1+pk u 3) (1+2*pk v 3) (1+pk s 5))/\Bl w w':=by
 obtain⟨P1,F,P3,H⟩:=kN (λw=>nT c 3 w h.1 h.2 bT bT) (λw=>nT u 3 w j.1 j.2 bT bT) (λw=>nT v 3 w y.1 y.2 bT bT) λw=>nT s 5 w A.1 A.2 bT bT;have M:=mO c 3 bT;have P:=mO u 3 bT;have Q:=mO v 3 bT;have T:=mO s 5 bT;go_enter func14,ntmps14;go_wp2_with fail;refine(P1 _).L ?_;rintro e w'⟨rfl,rfl⟩;go_wp2_with fail;refine(F _).L ?_;rintro e w'⟨rfl,rfl⟩;go_wp2_with fail;refine(P3 _).L ?_;rintro e w'⟨rfl,rfl⟩;go_wp2_with fail;refine(H _).L ?_;rintro e w'⟨rfl,rfl⟩;go_wp2;(try simp only[Exit.inBlock,Exit.then])
 exact aG (v:=cfg (1+pk c 3) (1+pk u 3) (1+2*pk v 3) (1+pk s 5)) (by simp[results,results14,go_sem,cfg]) rfl ⟨rfl,jZ.alloc _⟩
inductive Pk
 |req (r:Rq)
 |rep (nr:Int) (A:An)
 |vot (nr lt:Int) (v:Vo)
def ZK(nr:Int)(A:An):List Int:=j5 101 [nr,A.wh,A.ep,A.mark,A.ct.kd,A.ct.cl,A.ct.ca] A.ct.val
def ZH(nr lt:Int)(v:Vo):List Int:=j5 102 [nr,lt,v.wh,v.pr,v.ba] v.val
def Pk.bytes:Pk->List Int
 | .req r=>WA r
 | .rep nr A=>ZK nr A
 | .vot nr lt v=>ZH nr lt v
structure Le where
 fr:Int
 tt:Int
 pk:Pk
structure Qe where
 cl:Int
 ln:Int
 nr:Int
 pk:Pk
def Qe.z(e:Qe):Qz:=⟨e.cl,e.ln,e.nr,e.pk.bytes⟩
def Qe.is(e:Qe)(cl ln:Int):Bool:=e.cl==cl&&e.ln==ln
def uU(q:List Qe)(a:Qe):List Qe:=match q.find? λb=>b.is a.cl a.ln with
 |none=>q++[a]
 |some b=>if a.nr<=b.nr then q else q.map λb=>if b.is a.cl a.ln then a else b
theorem RW(q)(a):By (q.map Qe.z) a.z=(uU q a).map Qe.z:=by
 unfold By uU;rw[List.find?_map];have h:((λb:Qz=>b.is a.z.cl a.z.ln)∘Qe.z)=λb:Qe=>b.is a.cl a.ln:=rfl;rw[h]
 cases q.find? λb=>b.is a.cl a.ln with
 |none=>simp
 |some b=>
  simp only[bG];show(if a.nr<=b.nr then _ else _)=_;split
  .rfl
  rw[br,br];refine bf λx _=>?_;show(if x.is a.cl a.ln then a.z else x.z)=Qe.z (if x.is a.cl a.ln then a else x);split<;>rfl
structure Pl where
 part:kC
 q:List Qe
 up:Bool
 nf:Bool
structure Ac where
 X:Cx
 up:Bool
structure Kl where
 a:Nat
 b:Nat
 kind:Int
 pos:Int
 value:List Int
 A:List Int
 c:Int
 fin:Int
 r:Rz
structure Wd where
 n:Nat
 m:Nat
 v:Nat
 ce:Nat
 pl:List Pl
 ac:List Ac
 iN:List Le
 gF:List Kl
 a:Int
 mC:List Int
 iP:List Int
 jl:Nat
def jP(n m i:Nat):Int:=if i<n*m then i else 100+i-(n*m:Nat)
def ja(i:Nat):Int:=1000+7*i
def mh(n m v ce:Nat)(ch:Int)(s:St)(r:Rq):An×St:=if r.kd=1 then rb s r.ep else if r.kd=2 then oP n m v ce ch s r.ep r.pl r.ct.kd r.ct.cl r.ct.ca r.ct.val else qn n m v ce ch s r.ep r.pl
def nL(s:VS)(r:Rq):Vo×VS:=
 let R:=pM s.E r.kd r.ep r.pl r.ct.val
 (R.1,⟨R.2,if R.1.wh=1/\r.kd≠7 then max s.lt r.ep else s.lt⟩)
def Pl.recv(n m v ce:Nat)(P:Pl)(fr:Int)(p:Pk):Pl:=match p with
 | .req r=>match P.part with
  | .unit ch s=>{P with part:= .unit ch (mh n m v ce ch s r).2,q:=uU P.q ⟨fr,r.ln,r.nr,.rep r.nr (mh n m v ce ch s r).1⟩}
  | .voter s=>{P with part:= .voter (nL s r).2,q:=uU P.q ⟨fr,r.ln,r.nr,.vot r.nr (nL s r).2.lt (nL s r).1⟩}
 |_=>P
def Pl.jE(P:Pl):Pl:={P with q:=[]}
def Cx.recv(X:Cx)(fr:Int)(p:Pk):Cx:=match p with
 | .rep nr A=>X.jJ fr nr A
 | .vot nr lt v=>X.kK fr nr lt v
 |_=>X
def Kl.D(t:Int)(c:Kl)(a:Option Ac):Kl:=match a with
 |none=>c
 |some a=>if a.up then(match a.X.e[c.b]? with
  |none=>c
  |some r=>if c.fin=0/\r.wh≠0 then{c with fin:=t,r:=r}else c)else c
def Nj(x:Int):Int:=(x+9223372036854775808)%18446744073709551616-9223372036854775808
def sg(fr tt id mk:Int):Bool:=
 let v:=if tt=id then Nj (fr-100)else if fr=id then Nj (tt-100)else-1
 decide (0<=v)&&decide (v<5)&&decide ((mk>>>v.toNat)%2=0)
namespace Wd
def lQ(W:Wd):Nat:=W.n*W.ce
def jx(W:Wd):Wd:={W with a:=W.a+1,gF:=W.gF.map λc=>c.D (W.a+1) W.ac[c.a]?}
def nM(W:Wd)(a:Nat):Nat:=(W.gF.filter λc=>c.a==a).length
def uz(W:Wd)(a:Nat):Nat:=(W.gF.filter λc=>c.a==a&&decide (c.fin=0)).length
def j6(W:Wd)(fr tt:Int):Bool:=(List.range (min W.iP.length W.ac.length)).any λi=>sg fr tt (ja i) (W.iP.getD i 0)
def qp(W:Wd)(l:Le)(k:Nat):List Pl:=W.pl.mapIdx λi P=>if i<k/\jP W.n W.m i=l.tt/\P.up=true then P.recv W.n W.m W.v W.ce l.fr l.pk else P
def sA(W:Wd)(l:Le)(k:Nat):List Ac:=W.ac.mapIdx λi A=>if i<k/\ja i=l.tt/\A.up=true then{A with X:=A.X.recv l.fr l.pk}else A
def oz(W:Wd)(l:Le):Wd:={W with a:=W.a+1,jl:=W.jl+1,pl:=W.qp l W.pl.length,ac:=W.sA l W.ac.length}
def mQ(W:Wd)(l:Le):Wd:=if W.j6 l.fr l.tt then{W with a:=W.a+1,jl:=W.jl+1}else(W.oz l).jx
def pN(W:Wd)(i:Nat)(X:Cx):Wd:={W with jl:=W.jl+1,ac:=W.ac.modify i λA=>{A with X:=X}}
def lM(W:Wd)(k:Nat):Wd:=
 if k<W.pl.length then(match W.pl[k]? with
  |none=>W
  |some P=>if P.up then{W with jl:=W.jl+1,pl:=W.pl.set k P.jE,iN:=W.iN++P.q.map λe=>⟨jP W.n W.m k,e.cl,e.pk⟩}else W)
 else match W.ac[k-W.pl.length]? with
  |none=>W
  |some A=>if A.up then{W with jl:=W.jl+1,ac:=W.ac.set (k-W.pl.length) {A with X:=A.X.jE},iN:=W.iN++A.X.iH.map λz=>⟨ja (k-W.pl.length),z.1,.req z.2⟩}else W
def iH(W:Wd):Wd:=(List.range (W.pl.length+W.ac.length)).foldl lM {W with iN:=[]}
def lU(W:Wd)(ls:List Le):Wd:=ls.foldl mQ W
def step(W:Wd):Wd:=({W.iH with iN:=W.iN}:Wd).lU W.iH.iN
def lj(W:Wd):Nat->Wd×Bool
 |0=>(W,false)
 |k+1=>if W.iH.iN.length=0 then(W.step,true)else W.step.lj k
def jG(W:Wd)(i:Nat):Wd:=match W.ac[i]? with
 |none=>W
 |some A=>if A.up then W.pN i A.X.kG else W
def pz(W:Wd):Wd:=(List.range W.ac.length).foldl jG W
def lf(W:Wd):Wd×Bool:=W.pz.lj 300
end Wd
def ju(x:Int)(n:Nat):Nat:=(pk x n).toNat
def kP(n:Nat):List Int:=[n%256,n/256%256,n/65536%256,n/16777216%256,118]
def Cx.lV(X:Cx)(kind pos:Int)(value:List Int):Cx:=
 if kind=1 then X.append value else if kind=2 then X.EG pos else X.change pos
namespace Wd
def CP(W:Wd)(i n:Nat)(t:Int):Wd:={W with gF:=W.gF.map λc=>if c.a=i/\c.b=n then{c with A:=c.A++[t]}else c,mC:=W.mC++[t]}
def oR(W:Wd)(i:Nat)(A:Ac)(n:Nat)(t:Int):Wd:=(({W with jl:=W.jl+1}:Wd).CP i n t).pN i (A.X.jK n t)
def jK(W:Wd)(a which t:Int):Wd:=match W.ac[ju a W.ac.length]? with
 |none=>W
 |some A=>if A.up=true/\A.X.iX≠[]then(W.oR (ju a W.ac.length) A (A.X.iX.getD (ju which A.X.iX.length) 0) t).jx else W
def lO(W:Wd)(kind b:Int):Int:=if kind=1 then 0 else if kind=2 then ju b W.lQ else ju b (W.n*W.m)
def mF(W:Wd)(kind:Int):List Int:=if kind=1 then kP W.gF.length else []
def mu(W:Wd)(kind b:Int)(i:Nat)(A:Ac):Wd:=
 ({W with gF:=W.gF++[⟨i,W.nM i,kind,W.lO kind b,W.mF kind,[],W.a,0,Rz.zero⟩]}:Wd).pN i (A.X.lV kind (W.lO kind b) (W.mF kind))
def call(W:Wd)(kind a b:Int):Wd:=match W.ac[ju a W.ac.length]? with
 |none=>W
 |some A=>if A.up then(if A.X.a.length=8 then({W with jl:=W.jl+1}:Wd).jx else((({W with jl:=W.jl+1}:Wd).jx).mu kind b (ju a W.ac.length) A).jx)else W
def ks(W:Wd):Wd:=if W.ac.length≥8 then W else{W with jl:=W.jl+1,ac:=W.ac++[⟨Cx.new W.n W.m W.v W.ce (ja W.ac.length),true⟩]}
end Wd
structure Gh where
 R:List Rz
 n:Nat
 m:Nat
 v:Nat
 c:Nat
 id:Int
 J:Nat->Int->Ct->Int->Int->Prop
structure Gh.le(g g':Gh):Prop where
 R:g'.R=g.R
 s:(g'.n=g.n/\g'.m=g.m)/\g'.v=g.v/\g'.c=g.c/\g'.id=g.id
 J:∀a b c d e,g.J a b c d e->g'.J a b c d e
def Gh.le.refl(g):Gh.le g g:=⟨rfl,⟨⟨rfl,rfl⟩,rfl,rfl,rfl⟩,λ_ _ _ _ _ e=>e⟩
structure Bd where
 E:Int
 B:Int
 K:Int
 N:Int
 g:Gh
structure Bd.ln(b b':Bd):Prop where
 e:b.E<=b'.E
 k:b.K<=b'.K
 n:b.N<=b'.N
 ba:b.B<=b'.B
structure Bd.le(b b':Bd):Prop extends Bd.ln b b' where
 g:Gh.le b.g b'.g
structure Jr(b:Bd)(t:Ct):Prop where
 kd:0<=t.kd/\t.kd<=9
 cl:0<=t.cl/\t.cl<=1099
 ca:0<=t.ca/\t.ca<=b.N
 vl:t.val.length<=8
 a:nX t.val
structure Ei(b:Bd)(A:An):Prop where
 wh:0<=A.wh/\A.wh<=10
 ep:0<=A.ep/\A.ep<=b.E+1
 Xw:0<=A.mark/\A.mark<=48
 ct:Jr b A.ct
 tk:A.wh=2->tE A.ct.kd A.ct.val.length=true
 w4:A.wh≠4
structure BM(b:Bd)(v:Vo):Prop where
 wh:0<=v.wh/\v.wh<=10
 pr:0<=v.pr/\v.pr<=b.B
 ba:0<=v.ba/\v.ba<=b.B
 vl:v.val.length<=255
 a:nX v.val
structure YR(b:Bd)(r:Rq):Prop where
 ln:0<=r.ln/\r.ln<10
 nr:0<=r.nr/\r.nr<=b.K
 ep:0<=r.ep/\r.ep<=b.E+1
structure OH(b:Bd)(r:Rq):Prop extends YR b r where
 kd:r.kd=1\/r.kd=2\/r.kd=3
 pl:0<=r.pl/\r.pl<=48
 ct:Jr b r.ct
 c2:r.kd=2->tE r.ct.kd r.ct.val.length=true
 c0:r.kd≠2->r.ct.val=[]
structure Sp(b:Bd)(r:Rq):Prop extends YR b r where
 kd:r.kd=5\/r.kd=6\/r.kd=7
 pl:0<=r.pl/\r.pl<=b.B
 c0:r.ct.kd=0/\r.ct.cl=0/\r.ct.ca=0
 vl:r.ct.val.length<=255
 a:nX r.ct.val
 v0:r.kd≠6->r.ct.val=[]
structure QK{α:Type}(R:Rq->Prop)(AK:α->Prop)(I:Int->Prop)(q:Qn α):Prop where
 A:q.nodes≠[]->R q.A
 nl:q.nodes.length<=14
 nd:q.nodes.Nodup
 id:∀x∈q.nodes,I x
 ak:∀z∈q.D,AK z.2
 ai:∀z∈q.D,z.1∈q.nodes
 an:(q.D.map (·.1)).Nodup
 k0:0<=q.A.kd/\q.A.kd<=7
 v0:q.A.ct.val.length<=255
def nN(n m:Nat)(u:Int):Prop:=0<=u/\u<n*m
def n9(v:Nat)(u:Int):Prop:=100<=u/\u<100+v
abbrev QU(b:Bd)(n m:Nat)(q:Qn An):Prop:=QK (OH b) (Ei b) (nN n m) q
abbrev QW(b:Bd)(v:Nat)(q:Qn Vo):Prop:=QK (Sp b) (BM b) (n9 v) q
structure WK(r:Rz):Prop where
 wh:0<=r.wh/\r.wh<=10
 ad:0<=r.ad/\r.ad<=48
 vl:r.val.length<=8
 a:nX r.val
structure vV(b:Bd)(n m ce:Nat)(c:jn):Prop where
 kd:c.kind=1\/c.kind=2\/c.kind=5
 ad:0<=c.iA/\c.iA<=n*ce
 un:c.kind=5->nN n m c.unit
 ij:Jr b c.ij
 o1:c.kind=1->tE c.ij.kd c.ij.val.length=true
 d:Jr b c.d
 pl:c.b<=3
 e:WK c.e
 ln:c.a<8
 st:b.g.J c.gL c.kind c.ij c.unit c.iA
structure RV(b:Bd)(n m ce:Nat)(gJ:Int)(c:jn):Prop extends vV b n m ce c where
 a1:c.kind≠5->c.q.nodes≠[]\/c.kind≠1->c.iA<n*ce
 u0:c.kind=5->c.q.nodes=[]
 c2:c.q.A.kd=2->tE c.d.kd c.d.val.length=true/\c.kind=1
 q:QU b n m c.q
 nr:c.q.nodes≠[]->c.q.A.nr<=gJ
def ZC(n m:Nat)(lay:List (List Int)):Prop:=oj lay (iR n m)
structure Xk(b:Bd)(X:Cx):Prop where
 n1:1<=X.n/\X.n<=3
 m1:1<=X.m/\X.m<=3
 v1:1<=X.vo/\X.vo<=5
 v2:X.vo%2=1
 c1:1<=X.ce/\X.ce<=16
 id:1000<=X.id/\X.id<=1099
 lay:ZC X.n X.m X.lay
 e:0<=X.b/\X.b<=b.E
 t:0<=X.A/\X.A<=b.E+1
 me:0<=X.mv.b/\X.mv.b<=b.E+1
 ba:0<=X.M/\X.M<=b.B
 mb:0<=X.mv.M/\X.mv.M<=b.B
 h:0<=X.gJ/\X.gJ<=b.K
 i:(X.e.length:Int)<=b.N
 rv:∀r∈X.e,WK r
 pl:X.a.length<=8
 f:∀c∈X.a,RV b X.n X.m X.ce X.gJ c
 pr:QU b X.n X.m X.c
 sl:QU b X.n X.m X.mv.a
 vt:QW b X.vo X.mv.A
 bg:∀z∈X.mv.D,BM b z.2
 bl:X.mv.D.length<=14
 mv:X.mv.value.length<=255/\nX X.mv.value
 nk:JP X
 a:uf X
 g:∀k r,X.e[k]?=some r->(r.wh=0↔∃c∈X.a,c.gL=k)
 nB:∀(k:Nat) (r:Rz),b.g.R[k]?=some r->r.wh≠0->X.e[k]?=some r
 d:(X.n=b.g.n/\X.m=b.g.m)/\X.vo=b.g.v/\X.ce=b.g.c/\X.id=b.g.id
section
variable{b b':Bd}
def Jr.L{t:Ct}(h:Jr b t)(k:b.ln b'):Jr b' t:=⟨h.kd,h.cl,⟨h.ca.1,bt h.ca.2 k.n⟩,h.vl,h.a⟩
def Ei.L{t:An}(h:Ei b t)(k:b.ln b'):Ei b' t:=⟨h.wh,⟨h.ep.1,by have:=h.ep.2;have:=k.e;omega⟩,h.Xw,h.ct.L k,h.tk,h.w4⟩
def BM.L{t:Vo}(h:BM b t)(k:b.ln b'):BM b' t:=⟨h.wh,⟨h.pr.1,bt h.pr.2 k.ba⟩,⟨h.ba.1,bt h.ba.2 k.ba⟩,h.vl,h.a⟩
def YR.L{t:Rq}(h:YR b t)(k:b.ln b'):YR b' t:=⟨h.ln,⟨h.nr.1,bt h.nr.2 k.k⟩,⟨h.ep.1,by have:=h.ep.2;have:=k.e;omega⟩⟩
def OH.L{t:Rq}(h:OH b t)(k:b.ln b'):OH b' t:=⟨h.toYR.L k,h.kd,h.pl,h.ct.L k,h.c2,h.c0⟩
def Sp.L{t:Rq}(h:Sp b t)(k:b.ln b'):Sp b' t:=⟨h.toYR.L k,h.kd,⟨h.pl.1,bt h.pl.2 k.ba⟩,h.c0,h.vl,h.a,h.v0⟩
def QK.L{α:Type}{R y:Rq->Prop}{A j:α->Prop}{q:Qn α}(h:QK R A iQ q)(F:∀r,R r->y r)(H:∀a,A a->j a):QK y j iQ q:=⟨λe=>F _ (h.A e),h.nl,h.nd,h.id,λz L=>H _ (h.ak z L),h.ai,h.an,h.k0,h.v0⟩
def QK.zero{α:Type}{R:Rq->Prop}{h:α->Prop}:QK R h iQ (Qn.zero:Qn α):=⟨λe=>absurd rfl e,by simp[Qn.zero],by simp[Qn.zero],by simp[Qn.zero],by simp[Qn.zero],by simp[Qn.zero],by simp[Qn.zero],by simp[Qn.zero,Rq.zero],by simp[Qn.zero,Rq.zero,no]⟩
def QK.mi{α:Type}{R:Rq->Prop}{j:α->Prop}{q:Qn α}(h:QK R j iQ q)(d):QK R j iQ {q with mi:=d}:=⟨h.A,h.nl,h.nd,h.id,h.ak,h.ai,h.an,h.k0,h.v0⟩
def Qn.jL{α:Type}{q:Qn α}:q.M nr fr=true↔q.A.nr=nr/\fr∈q.nodes/\∀z∈q.D,z.1≠fr:=by unfold Qn.M Qn.T;constructor;all_goals simp_all
def QK.add{α:Type}{R:Rq->Prop}{j:α->Prop}{q:Qn α}(h:QK R j iQ q)(F:q.M nr fr=true){a:α}(P:j a):QK R j iQ (q.add fr a):=by
 obtain⟨Q,H,L⟩:=Qn.jL.1 F;refine⟨h.A,h.nl,h.nd,h.id,λz hz=>?_,λz hz=>?_,?_,h.k0,h.v0⟩
 .obtain hz|hz:=aT.1 hz
  .exact h.ak z hz
  simp_all
 .obtain hz|hz:=aT.1 hz
  .exact h.ai z hz
  simp at hz;subst hz;exact H
 show((q.D++[(fr,a)]).map _).Nodup;rw[aZ,cX];refine⟨h.an,bz,λx M y A=>?_⟩;simp at A;subst A;obtain⟨z,hz,rfl⟩:=aD.1 M;exact L z hz
def vV.L(h:vV b n m ce c)(k:b.ln b')(j:∀a b1 c d e,b.g.J a b1 c d e->b'.g.J a b1 c d e):vV b' n m ce c:=⟨h.kd,h.ad,h.un,h.ij.L k,h.o1,h.d.L k,h.pl,h.e,h.ln,j _ _ _ _ _ h.st⟩
def RV.L{j:Int}(h:RV b n m ce a c)(k:b.ln b')(y:∀a b1 c d e,b.g.J a b1 c d e->b'.g.J a b1 c d e)(A:a<=j):RV b' n m ce j c:=
 ⟨h.tovV.L k y,h.a1,h.u0,h.c2,h.q.L (λ_ e=>e.L k) λ_ e=>e.L k,λe=>bt (h.nr e) A⟩
def Xk.L(h:Xk b X)(k:b.le b'):Xk b' X:=by have Q:=k.e;have T:=k.ba;have W:=k.k;have Y:=k.n;exact⟨h.n1,h.m1,h.v1,h.v2,h.c1,h.id,h.lay,⟨h.e.1,gM h.e.2⟩,⟨h.t.1,gM h.t.2⟩,⟨h.me.1,gM h.me.2⟩,⟨h.ba.1,gM h.ba.2⟩,⟨h.mb.1,gM h.mb.2⟩,⟨h.h.1,gM h.h.2⟩,gM h.i,h.rv,h.pl,λc j=>(h.f c j).L k.toln k.g.J iG,h.pr.L (λ_ e=>e.L k.toln) λ_ e=>e.L k.toln,h.sl.L (λ_ e=>e.L k.toln) λ_ e=>e.L k.toln,h.vt.L (λ_ e=>e.L k.toln) λ_ e=>e.L k.toln,λz y=>(h.bg z y).L k.toln,h.bl,h.mv,h.nk,h.a,h.g,by rw[k.g.R];exact h.nB,by obtain⟨⟨A,F⟩,H,M,P⟩:=k.g.s;rw[A,F,H,M,P];exact h.d⟩
end
section
variable{b b':Bd}
def Bd.up(b:Bd)(k:Int):Bd:={b with K:=b.K+k}
def Bd.A(b:Bd)(h:0<=k):b.le (b.up k):=⟨⟨iG,by show b.K<=b.K+k;omega,iG,iG⟩,Gh.le.refl _⟩
def Bd.Ox{b:Bd}{j:Int}(h:k<=j):(b.up k).le (b.up j):=⟨⟨iG,by show b.K+k<=b.K+j;omega,iG,iG⟩,Gh.le.refl _⟩
def Bd.le.refl(b:Bd):b.le b:=⟨⟨iG,iG,iG,iG⟩,Gh.le.refl _⟩
def tH:∀n∈[1,2,3],∀m∈[1,2,3],(kB (iR n m)).Nodup/\(kB (iR n m)).length=n*m/\(∀u∈kB (iR n m),0<=u/\u<n*m)/\(iR n m).length=n/\(∀ch∈iR n m,ch.length=m):=bT
theorem oj.all{L:List (List Int)}(h:oj R L):(kB R).Sublist (kB L):=by
 induction L generalizing R with
 |nil=>have:=h.1;simp_all
 |cons ch L j=>
  cases R with
  |nil=>exact fp _
  |cons r R=>have y:oj R L:=⟨by have:=h.1;simpa using this,λi A c' F H=>h.2 (i+1) A c' (je F) (je H)⟩;exact ((h.2 0 r ch rfl rfl).1).append (j y)
def oj.H{L M:List (List Int)}(h:oj R L)(k:oj L M):oj R M:=by refine⟨h.1.H k.1,λi r ch j y=>?_⟩;have A:=(aj.1 j).1;have F:=h.1;have e:L[i]?=some L[i]:=ah C;exact⟨(h.2 i r _ j e).1.H (k.2 i _ ch e y).1,(h.2 i r _ j e).2⟩
def xP{k:Nat}(h:1<=k/\k<=3):k∈[1,2,3]:=by have:k=1\/k=2\/k=3:=C;simp_all
def Xk.first(h:Xk b X):(kB (iR X.n X.m)).Nodup/\(kB (iR X.n X.m)).length=X.n*X.m/\(∀u∈kB (iR X.n X.m),0<=u/\u<X.n*X.m)/\(iR X.n X.m).length=X.n/\(∀ch∈iR X.n X.m,ch.length=X.m):=by exact_mod_cast tH X.n (xP h.n1) X.m (xP h.m1)
def rj(h:n<=3)(j:m<=3):n*m<=9:=fF h j
def LL(h:n<=3)(j:m<=16):n*m<=48:=fF h j
def Xk.all(h:Xk b X):(kB X.lay).Nodup/\(kB X.lay).length<=9/\∀u∈kB X.lay,nN X.n X.m u:=by obtain⟨y,H,A,_⟩:=h.first;have j:=h.lay.all;have:=rj h.n1.2 h.m1.2;exact⟨y.sublist j,gM j.length_le,λu F=>by have:=A u (j.subset F);unfold nN;exact_mod_cast this⟩
def Xk.sS(h:Xk b X)(j:ch∈X.lay):ch.Nodup/\1<=ch.length/\ch.length<=3/\∀u∈ch,nN X.n X.m u:=by obtain⟨r,y,A,F⟩:=h.lay.mem j;obtain⟨M,_,_,_,H⟩:=h.first;have P:=h.m1;have Q:=H r y;have T:=A.length_le;have W:0<ch.length:=cU.2 F;refine⟨h.all.1.sublist (fE j),C,C,λu L=>h.all.2.2 u (fq.2 ⟨ch,j,L⟩)⟩
def Xk.uw(h:Xk b X)(_ha:0<=a):X.chain a∈X.lay:=by unfold Cx.chain;have j:=h.n1.1;have y:X.lay.length=X.n:=h.lay.1.H h.first.2.2.2.1;have A:=dq a (show(X.n:Int)≠0 by omega);have F:=de a (show(0:Int)<X.n by omega);simp_all
def jV(h:d∈(X.put c').a):d=c'\/(d∈X.a/\d.gL≠c'.gL):=by obtain⟨e,j,rfl⟩:=aD.1 h;by_cases y:e.gL=c'.gL;all_goals simp_all
def GK(k):(∃c∈X.a,c.gL=k)↔∃c∈(X.put c').a,c.gL=k:=by
 have j:∀d:jn,(if d.gL=c'.gL then c' else d).gL=d.gL:=λd=>by split<;>simp_all
 constructor
 .rintro⟨c,h,e⟩;exact⟨_,aD.2 ⟨c,h,rfl⟩,jf j e⟩
 rintro⟨c,h,e⟩;obtain⟨d,y,rfl⟩:=aD.1 h;exact⟨d,y,by rwa[j]at e⟩
def uf.eq(h:uf X)(H:c∈X.a)(L:c'∈X.a)(M:c.gL=c'.gL):c=c':=by
 obtain⟨i,A,rfl⟩:=aV.1 H;obtain⟨j,F,rfl⟩:=aV.1 L;have y:=dE.1 h.gL;obtain e|e|e:=fh i j
 .have:=y i j A F e;omega
 .simp_all
 have:=y j i F A e;omega
def uf.Zs(h:uf X)(A:c0∈X.a)(F:c'.gL=c0.gL)(H:c'.a=c0.a):uf (X.put c'):=by
 have L:∀d:jn,(if d.gL=c'.gL then c' else d).gL=d.gL:=λd=>by split<;>simp_all
 have M:∀d∈X.a,(if d.gL=c'.gL then c' else d).a=d.a:=λd j=>by
  split
  .rename_i e;rw[H,h.eq A j (by rw[<-F,e])]
  rfl
 refine⟨cj.2 (h.gL.imp λe=>by rw[L,L];exact e),λd j=>?_,cj.2 (List.Pairwise.imp_of_mem (λy P e=>by rw[M _ y,M _ P];exact e) h.a),λd j=>?_⟩
 .obtain rfl|⟨y,_⟩:=jV j
  .show d.gL<X.e.length;rw[F];exact h.lt c0 A
  exact h.lt d y
 obtain rfl|⟨y,_⟩:=jV j
 .rw[H];exact h.A c0 A
 exact h.A d y
def Xk.put(h:Xk b X)(P:c0∈X.a)(Q:c'.gL=c0.gL)(T:c'.a=c0.a)(W:RV b X.n X.m X.ce X.gJ c')(y:c'.q.nodes≠[]->∀d∈X.a,d.gL≠c'.gL->d.q.nodes≠[]->d.q.A.nr≠c'.q.A.nr):Xk b (X.put c'):=by
 refine⟨h.n1,h.m1,h.v1,h.v2,h.c1,h.id,h.lay,h.e,h.t,h.me,h.ba,h.mb,h.h,h.i,h.rv,by show(X.a.map _).length<=8;rw[ay];exact h.pl,λd A=>?_,h.pr,h.sl,h.vt,h.bg,h.bl,h.mv,λd A e Y j F L=>?_,h.a.Zs P Q T,λk r y=>(h.g k r y).H (GK k),h.nB,h.d⟩
 .obtain rfl|⟨j,_⟩:=jV A
  .exact W
  exact h.f d j
 obtain rfl|⟨Z,g2⟩:=jV A<;>obtain rfl|⟨M,g4⟩:=jV Y
 .rfl
 .exact absurd L.symm (y j e M g4 F)
 .simp_all
 exact h.nk d Z e M j F L
def Xk.N(h:Xk b X):Xk (b.up 1) {X with gJ:=X.gJ+1}:=by have j:=h.L (b.A (k:=1) bT);exact⟨h.n1,h.m1,h.v1,h.v2,h.c1,h.id,h.lay,j.e,j.t,j.me,j.ba,j.mb,⟨by have:=h.h.1;show 0<=X.gJ+1;omega,by have:=h.h.2;show X.gJ+1<=b.K+1;omega⟩,j.i,h.rv,h.pl,λc y=>(j.f c y).L (Bd.le.refl _).toln (λ_ _ _ _ _ e=>e) (by show X.gJ<=X.gJ+1;omega),j.pr,j.sl,j.vt,j.bg,h.bl,h.mv,h.nk,⟨h.a.gL,h.a.lt,h.a.a,h.a.A⟩,h.g,h.nB,h.d⟩
structure Zq(b:Bd)(X:Cx)(c:jn)(nodes:List Int)(kd pl:Int)(t:Ct):Prop where
 k5:c.kind≠5
 a1:c.iA<X.n*X.ce
 nl:nodes.length<=14
 nd:nodes.Nodup
 id:∀u∈nodes,nN X.n X.m u
 k3:kd=2\/kd=3
 p1:0<=pl/\pl<=48
 ct:Jr b t
 c2:kd=2->tE t.kd t.val.length=true/\tE c.d.kd c.d.val.length=true/\c.kind=1
 c0:kd≠2->t.val=[]
def Se(h:Xk b X):Jr b no:=⟨bT,bT,⟨bT,by have:=h.i;show 0<=b.N;omega⟩,bT,by simp[no,nX]⟩
def Xk.mK(h:Xk b X)(H:c0∈X.a)(L:c'.gL=c0.gL)(M:c'.a=c0.a)(y:vV b X.n X.m X.ce c'){nodes:List Int}{kd pl:Int}{t:Ct}(j:Zq b X c' nodes kd pl t):Xk (b.up 1) (X.mK c' nodes kd pl t):=by
 have A:=(b.A (k:=1) bz).toln;refine h.N.put H L M ?_ λ_ d P _ Q e=>?_
 .refine⟨⟨y.kd,y.ad,y.un,y.ij.L A,y.o1,y.d.L A,y.pl,y.e,y.ln,y.st⟩,λ_ _=>j.a1,λT=>absurd T j.k5,λe=>⟨(j.c2 e).2.1,(j.c2 e).2.2⟩,⟨λ_=>⟨⟨⟨eG _,by have:=y.ln;show(c'.a:Int)<10;omega⟩,⟨by have:=h.h.1;show 0<=X.gJ+1;omega,by have:=h.h.2;show X.gJ+1<=b.K+1;omega⟩,h.e.1,by have:=h.e.2;show X.b<=b.E+1;omega⟩,.inr j.k3,j.p1,j.ct.L A,λe=>(j.c2 e).1,j.c0⟩,j.nl,j.nd,j.id,λz F=>by simp[Qn.new]at F,λz F=>by simp[Qn.new]at F,by simp[Qn.new],?_,?_⟩,λ_=>iG⟩
  .obtain e|e:=j.k3<;>(show 0<=kd/\kd<=7;omega)
  have:=j.ct.vl;show t.val.length<=255;omega
 have:=(h.f d P).nr Q;change d.q.A.nr=X.gJ+1 at e;omega
end
section
variable{b b':Bd}
def Xk.Xe(h:Xk b X):((X.n:Int)*X.ce)<=48:=by have:=LL h.n1.2 h.c1.2;omega
def Xk.qI(h:Xk b X)(y:c0∈X.a)(A:c'.gL=c0.gL)(F:c'.a=c0.a)(j:vV b X.n X.m X.ce c')(P:c'.kind=2)(H:c'.iA<X.n*X.ce):Xk (b.up 1) (X.qI c'):=by obtain⟨L,Q,T,M⟩:=h.sS (h.uw j.ad.1);have:=h.Xe;have:=j.ad.1;exact h.mK y A F j ⟨C,H,C,L,M,.inr rfl,C,Se h,λe=>absurd e bz,λ_=>rfl⟩
theorem Xk.lK(h:Xk b X)(A:c0∈X.a)(F:c'.gL=c0.gL)(H:c'.a=c0.a)(j:vV b X.n X.m X.ce c')(L:c'.kind=1)(M:c'.iA<X.n*X.ce)(P:c'.b<(X.chain c'.iA).length)(y:tE c'.d.kd c'.d.val.length=true):Xk (b.up 1) (X.lK c'):=by
 obtain⟨Q,T,W,Y⟩:=h.sS (h.uw j.ad.1);have:=h.Xe;have:=j.ad.1;refine h.mK A F H j ⟨C,M,bz,bz,λu Z=>?_,.inl rfl,C,j.d,λ_=>⟨y,y,L⟩,λe=>absurd rfl e⟩
 grind
def Xk.fin(h:Xk b X)(M:c0∈X.a)(P:c.gL=c0.gL)(T:WK r)(L:r.wh≠0):Xk b (X.fin c r):=by
 have A:(X.fin c r).a.Sublist X.a:=cE;refine⟨h.n1,h.m1,h.v1,h.v2,h.c1,h.id,h.lay,h.e,h.t,h.me,h.ba,h.mb,h.h,by show((X.e.set c.gL r).length:Int)<=_;rw[bK];exact h.i,λx F=>?_,aF A.length_le h.pl,λd y=>h.f d (A.subset y),h.pr,h.sl,h.vt,h.bg,h.bl,h.mv,λd y e W=>h.nk d (A.subset y) e (A.subset W),⟨h.a.gL.sublist A,λd y=>by show d.gL<(X.e.set c.gL r).length;rw[bK];exact h.a.lt d (A.subset y),h.a.a.sublist A,λd y=>h.a.A d (A.subset y)⟩,λk x F=>?_,λk x F Q=>?_,h.d⟩
 rotate_left
 .have j:(X.e.set c.gL r)[k]?=some x:=F;by_cases H:c.gL=k
  .subst H;rw[aQ (by rw[P];exact h.a.lt c0 M)]at j;simp only[aJ]at j;subst j;refine⟨λe=>absurd e L,λ⟨d,y,e⟩=>?_⟩;have:=(aU.1 y).2;simp[e]at this
  rw[aH H]at j;rw[h.g k x j];exact⟨λ⟨d,y,e⟩=>⟨d,aU.2 ⟨y,ik⟩,e⟩,λ⟨d,y,e⟩=>⟨d,A.subset y,e⟩⟩
 .have j:=h.nB k x F Q;show(X.e.set c.gL r)[k]?=some x;by_cases H:c.gL=k
  .exact absurd ((h.g k x j).2 ⟨c0,M,j9 P H⟩) Q
  rw[aH H];exact j
 obtain Y|rfl:=fN F
 .exact h.rv x Y
 exact T
def xh(wh)(h:0<=wh/\wh<=10):WK ⟨wh,0,[]⟩:=⟨h,⟨aA 0,by show(0:Int)<=48;omega⟩,jR,by simp[nX]⟩
def Yv(a)(h:0<=a/\a<=48):WK ⟨1,a,[]⟩:=⟨⟨by show(0:Int)<=1;omega,by show(1:Int)<=10;omega⟩,h,jR,by simp[nX]⟩
def Sz{t:Ct}(h:Jr b t):WK (Cx.vh t):=⟨⟨h.kd.1,by have:=h.kd.2;show t.kd<=10;omega⟩,⟨aA 0,by show(0:Int)<=48;omega⟩,h.vl,h.a⟩
def J7(h:tE k n=true):k≠0:=by intro e;subst e;contradiction
theorem oG{l m:List Int}(F:l.Nodup)(h:∀x∈l,x∈m):l.length<=m.length:=by
 induction l generalizing m with
 |nil=>simp
 |cons x l H=>have j:=h x (aN ..);obtain⟨L,M⟩:=bY.1 F;have:=H (m:=m.erase x) M λy A=>(List.mem_erase_of_ne λe=>L (j9 e A)).2 (h y (aX _ A));rw[List.length_erase_of_mem j]at this;have:=cJ j;simp;omega
def yf{l m:List Int}(j:l.Nodup)(h:∀x∈l,x∈m)(H:m.length<=l.length){y:Int}(A:y∈m):y∈l:=by
 by_cases F:y∈l
 .omega
 have:=oG (bY.2 ⟨F,j⟩) λx hx=>by
  obtain rfl|hx:=bh.1 hx
  .exact A
  simp_all
 simp at this;omega
theorem Fv{q:Qn An}(h:QU b n m q)(L:q.nodes≠[])(F:q.nodes.length<=q.D.length)(j:q.count (λa=>a.wh==2)=q.nodes.length):∃z∈q.D,(((q.D.find? λz=>z.1==q.nodes.headD 0).map λz=>z.2.ct).getD no)=z.2.ct/\z.2.wh=2:=by
 have H:∀z∈q.D,z.2.wh=2:=by
  have T:(q.D.filter λz=>z.2.wh==2).length=q.D.length:=by
   have W:=oG h.an (λx M=>by
    obtain⟨z,A,rfl⟩:=aD.1 M
    exact h.ai z A)
   rw[ay]at W;unfold Qn.count at j;dsimp only at j;omega
  intro z A;have:=eh.1 T z A;simpa using this
 obtain⟨y,ys,Y⟩:=bQ L;have P:=yf h.an (λx M=>by
  obtain⟨z,A,rfl⟩:=aD.1 M
  exact h.ai z A) (by rw[ay];exact F) (show y∈q.nodes by rw[Y];exact aN ..)
 obtain⟨z,A,Z⟩:=aD.1 P
 cases e:q.D.find? _ with
 |none=>have:=bU.1 e z A;simp_all
 |some Q=>exact⟨Q,bu e,rfl,H Q (bu e)⟩
def Xk.dO(h:Xk b X)(A:c0∈X.a)(F:c'.gL=c0.gL)(H:c'.a=c0.a)(j:vV b X.n X.m X.ce c')(L:c'.kind≠5->c'.iA<X.n*X.ce):Xk (b.up 1) (X.dO c'):=by
 unfold Cx.dO;split
 .rename_i M;have y:vV b X.n X.m X.ce {c' with d:=c'.ij,b:=0}:=⟨j.kd,j.ad,j.un,j.ij,j.o1,j.ij,jR,j.e,j.ln,j.st⟩;exact h.lK A F H y M (L C) (h.sS (h.uw j.ad.1)).2.1 (j.o1 M)
 split
 .exact h.qI A F H j ‹_› (L C)
 exact h.L (b.A bz)
def Xk.kg(h:Xk b X)(y:c0∈X.a)(A:c'.gL=c0.gL)(F:c'.a=c0.a)(j:vV b X.n X.m X.ce c')(H:c'.kind=1)(M:c'.iA<X.n*X.ce)(P:tE c'.d.kd c'.d.val.length=true):Xk (b.up 1) (X.kg c'):=by
 obtain⟨Q,T,W,Y⟩:=h.sS (h.uw j.ad.1);have:=h.Xe;have:=j.ad.1;unfold Cx.kg;split
 .exact h.lK y A F ⟨j.kd,j.ad,j.un,j.ij,j.o1,j.d,by show c'.b+1<=3;omega,j.e,j.ln,j.st⟩ H M ‹_› P
 exact(h.fin y A (Yv c'.iA C) (show(1:Int)≠0 by decide)).L (b.A bz)
def Xk.drop(h:Xk b X)(y:c0∈X.a)(A:c'.gL=c0.gL)(F:c'.a=c0.a)(j:vV b X.n X.m X.ce c')(H:c'.kind=1):Xk b (X.put {c' with q:=Qn.zero}):=
 h.put y A F ⟨⟨j.kd,j.ad,j.un,j.ij,j.o1,j.d,j.pl,j.e,j.ln,j.st⟩,λ_ e=>by obtain e|e:=e<;>(first|exact absurd rfl e|exact absurd H e),λ_=>rfl,λe=>absurd (show(0:Int)=2 from e) bz,QK.zero,λe=>absurd rfl e⟩ λe=>absurd rfl e
def Xk.oe(h:Xk b X)(H:c∈X.a){A:An}(hA:Ei b A)(M:c.q.nodes≠[]):Xk (b.up 1) (X.oe c A):=by
 have P:=h.f c H;have F:=P.tovV;have y:=b.A (k:=1) bT;have j:Xk b (X.put c):=h.put H rfl rfl P λe d hd h1 h2 h3=>h1 (by rw[h.nk d hd c H h2 e h3]);have h5:c.kind≠5:=λe=>M (P.u0 e);have T:c.iA<X.n*X.ce:=P.a1 h5 (.inl M);unfold Cx.oe;split
 .unfold Cx.nV;split
  .exact j.L y
  split
  .rename_i a0 W;obtain⟨z,hz,e,Q⟩:=Fv P.q M C W;rw[e];have Y:=P.q.ak z hz;exact(h.fin H rfl (Sz (b:=b) Y.ct) (J7 (Y.tk Q))).L y
  exact(h.fin H rfl (xh 3 bT) bT).L y
 split
 .rename_i Z;obtain⟨g1,g2⟩:=P.c2 Z;unfold Cx.oy;split
  .exact h.kg H rfl rfl F g2 T g1
  split
  .rename_i Q;unfold Cx.pO;split
   .exact(h.drop H rfl rfl F g2).L y
   exact h.kg (c':={c with d:=A.ct}) H rfl rfl ⟨F.kd,F.ad,F.un,F.ij,F.o1,hA.ct,F.pl,F.e,F.ln,F.st⟩ g2 T (hA.tk Q)
  exact j.L y
 exact j.L y
def Xk.YZ(h:Xk b X)(F:c∈X.a)(H:c.q.M nr fr=true){A:An}(L:Ei b A):Xk b (X.put {c with q:=c.q.add fr A}):=by have y:=h.f c F;have j:=y.tovV;exact h.put F rfl rfl ⟨⟨j.kd,j.ad,j.un,j.ij,j.o1,j.d,j.pl,j.e,j.ln,j.st⟩,y.a1,y.u0,y.c2,y.q.add H L,y.nr⟩ λe d M P Q T=>P (by rw[h.nk d M c F Q e T])
def vx(h:c∈X.a)(j:c'.gL=c.gL):c'∈(X.put c').a:=aD.2 ⟨c,h,by rw[aE j.symm]⟩
end
section
variable{b b':Bd}
def C6(X:Cx):X.kE.Nodup/\X.kE.length=X.vo/\∀u∈X.kE,n9 X.vo u:=by
 unfold Cx.kE;refine⟨?_,bz,λu j=>?_⟩
 .refine cj.2 (List.Pairwise.imp (λh=>?_) dU);omega
 obtain⟨i,y,rfl⟩:=aD.1 j;have:=di.1 y;unfold n9;omega
def Xk.vk(h:Xk b X){M:Mv}(j:0<=M.b/\M.b<=b.E+1)(y:0<=M.M/\M.M<=b.B)(A:QU b X.n X.m M.a)(F:QW b X.vo M.A)(H:∀z∈M.D,BM b z.2)(L:M.D.length<=14)(mv:M.value.length<=255/\nX M.value):Xk b {X with mv:=M}:=
 ⟨h.n1,h.m1,h.v1,h.v2,h.c1,h.id,h.lay,h.e,h.t,j,h.ba,y,h.h,h.i,h.rv,h.pl,h.f,h.pr,A,F,H,L,mv,h.nk,⟨h.a.gL,h.a.lt,h.a.a,h.a.A⟩,h.g,h.nB,h.d⟩
def Xk.mv0(h:Xk b X)(j:0<=e/\e<=b.E+1)(ch):Xk b {X with mv:={Mv.zero with b:=e,c:=ch}}:=
 h.vk j ⟨aA 0,by have:=h.ba;show(0:Int)<=b.B;omega⟩ QK.zero QK.zero (λz y=>by simp[Mv.zero]at y) jR ⟨jR,by simp[Mv.zero,nX]⟩
def Xk.Jk(h:Xk b X):Xk b {X with mv:=Mv.zero}:=h.mv0 ⟨bT,gM h.e⟩ false
def Xk.kh(h:Xk b X){kd pl:Int}{val:List Int}(A:kd=5\/kd=6\/kd=7)(F:0<=pl/\pl<=b.B)(y:val.length<=255/\nX val)(H:kd≠6->val=[]):Xk (b.up 1) (X.kh kd pl val):=by obtain⟨L,Q,M⟩:=C6 X;have P:=h.v1;have j:=h.N;refine j.vk j.me j.mb j.sl ⟨λ_=>⟨⟨⟨by show(0:Int)<=9;omega,by show(9:Int)<10;omega⟩,⟨by have:=h.h.1;show 0<=X.gJ+1;omega,by have:=h.h.2;show X.gJ+1<=b.K+1;omega⟩,h.me⟩,A,F,⟨rfl,rfl,rfl⟩,y.1,y.2,H⟩,by show X.kE.length<=14;omega,L,M,by simp[Qn.new],by simp[Qn.new],by simp[Qn.new],by show 0<=kd/\kd<=7;omega,y.1⟩ j.bg j.bl j.mv
def Xk.iB(h:Xk b X):Xk (b.up 1) X.iB:=by have j:=h.e;have y:=h.t;exact(h.mv0 C _).kh (.inr (.inr rfl)) ⟨aA 0,gM h.ba⟩ ⟨jR,by simp[nX]⟩ λ_=>rfl
def LC(h:Xk b X){ln:Int}(j:0<=ln/\ln<10)(y:0<=e/\e<=b.E+1):QU (b.up 1) X.n X.m (Qn.new (kB X.lay) ⟨1,ln,X.gJ+1,e,0,no⟩):=by obtain⟨A,H,F⟩:=h.all;exact⟨λ_=>⟨⟨j,⟨by have:=h.h.1;show 0<=X.gJ+1;omega,by have:=h.h.2;show X.gJ+1<=b.K+1;omega⟩,y⟩,.inl rfl,⟨aA 0,by show(0:Int)<=48;omega⟩,(Se h).L (b.A bT).toln,λe=>absurd (show(1:Int)=2 from e) bT,λ_=>rfl⟩,by show(kB X.lay).length<=14;omega,A,F,by simp[Qn.new],by simp[Qn.new],by simp[Qn.new],by show(0:Int)<=1/\1<=7;omega,by simp[Qn.new,no]⟩
def Xk.jX(h:Xk b X):Xk (b.up 1) X.jX:=by have j:=h.N;have y:=h.e;exact⟨h.n1,h.m1,h.v1,h.v2,h.c1,h.id,h.lay,j.e,j.t,j.me,j.ba,j.mb,j.h,j.i,h.rv,h.pl,j.f,LC h bT C,j.sl,j.vt,j.bg,h.bl,h.mv,h.nk,⟨h.a.gL,h.a.lt,h.a.a,h.a.A⟩,h.g,h.nB,h.d⟩
def Xk.P5(h:Xk b X)(j:0<=e/\e<=b.E+1):Xk b {X with A:=e}:=
 ⟨h.n1,h.m1,h.v1,h.v2,h.c1,h.id,h.lay,h.e,j,h.me,h.ba,h.mb,h.h,h.i,h.rv,h.pl,h.f,h.pr,h.sl,h.vt,h.bg,h.bl,h.mv,h.nk,⟨h.a.gL,h.a.lt,h.a.a,h.a.A⟩,h.g,h.nB,h.d⟩
def Xk.gR(h:Xk b X)(j:0<=e/\e<=b.E+1):Xk (b.up 1) (X.gR e):=by
 unfold Cx.gR;split
 .exact h.L (b.A bT)
 split
 .exact(h.P5 j).iB
 exact(h.P5 j).L (b.A bT)
def Xk.waits(h:Xk b X)(wb wl):Xk b {X with wb:=wb,wl:=wl}:=
 ⟨h.n1,h.m1,h.v1,h.v2,h.c1,h.id,h.lay,h.e,h.t,h.me,h.ba,h.mb,h.h,h.i,h.rv,h.pl,h.f,h.pr,h.sl,h.vt,h.bg,h.bl,h.mv,h.nk,⟨h.a.gL,h.a.lt,h.a.a,h.a.A⟩,h.g,h.nB,h.d⟩
def Xk.oF(h:Xk b X):Xk (b.up 1) X.oF:=by have j:=h.N;exact j.vk j.me j.mb (LC h bT h.me) j.vt j.bg j.bl j.mv
def Bd.AS(b:Bd):Bd:={b with B:=b.B+200}
def Bd.DS(b:Bd):b.le b.AS:=⟨⟨iG,iG,iG,by show b.B<=b.B+200;omega⟩,Gh.le.refl _⟩
theorem yF:∀(l:List (Int×Vo)) (m B:Int),0<=m->m<=B->(∀z∈l,z.2.pr<=B)->0<=l.foldl (λb z=>max b z.2.pr) m/\l.foldl (λb z=>max b z.2.pr) m<=B
 |[],m,B,j,y,_=>⟨j,y⟩
 |z::l,m,B,j,y,h=>yF l (max m z.2.pr) B C (gM (h z (aN ..))) λz A=>h z (aX _ A)
def Xk.jv(h:Xk b X):0<=X.jv (j7 X.mv.D)/\X.jv (j7 X.mv.D)<=b.B+200:=by have j:=yF X.mv.D 0 b.B iG (gM h.ba) λz y=>(h.bg z y).pr.2;change 0<=j7 X.mv.D/\j7 X.mv.D<=b.B at j;unfold Cx.jv;have:=h.ba;have:=h.id;omega
def Xk.jS(h:Xk b X):Xk (b.AS.up 1) X.jS:=by
 unfold Cx.jS;split
 .exact(h.L b.DS).L (Bd.A _ bT)
 have j:=h.L b.DS;have y:=h.jv;generalize X.jv _=A at*;have F:Xk b.AS {X with M:=A}:=⟨h.n1,h.m1,h.v1,h.v2,h.c1,h.id,h.lay,j.e,j.t,j.me,y,j.mb,j.h,j.i,h.rv,h.pl,j.f,j.pr,j.sl,j.vt,j.bg,j.bl,j.mv,h.nk,⟨h.a.gL,h.a.lt,h.a.a,h.a.A⟩,h.g,h.nB,h.d⟩;exact(F.vk (M:={X.mv with M:=A}) j.me y j.sl j.vt j.bg j.bl j.mv).kh (.inl rfl) y ⟨jR,by simp[nX]⟩ λ_=>rfl
def Xk.jM(h:Xk b X):Xk (b.AS.up 2) X.jM:=by
 have y:X.mv.A.D.length<=14:=by
  have j:=h.vt.an;have A:(X.mv.A.D.map (·.1)).length<=X.mv.A.nodes.length:=by refine oG j λx F=>?_;obtain⟨z,H,rfl⟩:=aD.1 F;exact h.vt.ai z H
  have:=h.vt.nl;simp at A;omega
 unfold Cx.jM;split
 .exact((h.waits true X.wl).L b.DS).L (Bd.A _ bT)
 have j:Xk b {X with wb:=true,mv:={X.mv with D:=X.mv.A.D}}:=(h.waits true X.wl).vk h.me h.mb h.sl h.vt h.vt.ak y h.mv;dsimp only;split
 .exact j.jS.L (Bd.Ox bT)
 exact j.oF.jS.L ⟨⟨iG,by show b.K+1+1<=b.K+2;omega,iG,iG⟩,Gh.le.refl _⟩
end
section
variable{b b':Bd}
def Xk.ku(h:Xk b X)(j:c0∈X.a)(y:c.gL=c0.gL):Xk b (X.ku c):=by
 unfold Cx.ku;split
 .split
  .exact h.fin j y (xh 6 bT) bT
  omega
 exact h.fin j y (xh 1 bT) bT
def Qk(h:d∈X.a)(j:d.gL≠c'.gL):d∈(X.put c').a:=aD.2 ⟨d,h,by rw[az j]⟩
def QJ(h:d∈X.a)(j:d.gL≠c.gL):d∈(X.fin c r).a:=aU.2 ⟨h,je j⟩
theorem Ch(h:d∈X.a)(j:d.gL≠c.gL):d∈(X.kA c).a:=by
 unfold Cx.kA Cx.ku Cx.dO;repeat' split
 all_goals first
  |exact QJ h j
  |exact h
  |exact Qk h j
def Xk.kA(h:Xk b X)(j:c∈X.a):Xk (b.up 1) (X.kA c):=by
 have y:=h.f c j;unfold Cx.kA;split
 .exact(h.ku j rfl).L (b.A bz)
 rename_i A;split
 .exact h.L (b.A bz)
 rename_i F;refine h.dO j rfl rfl y.tovV λ_=>y.a1 A ?_;by_cases H:c.kind=1
 .left;intro e;apply F;simp[Cx.lD,H,Qn.N,e]
 omega
theorem Xk.yz:∀(l:List jn) {b:Bd} {X:Cx},Xk b X->(∀c∈l,c∈X.a)->l.Pairwise (λc d=>c.gL≠d.gL)->Xk (b.up l.length) (l.foldl Cx.kA X)
 |[],b,X,h,_,_=>h.L (b.A bz)
 |c::l,b,X,h,j,A=>by obtain⟨F,H⟩:=cI.1 A;have:=Xk.yz l (h.kA (j c (aN ..))) (λd y=>Ch (j d (aX _ y)) (F d y).symm) H;exact this.L ⟨⟨iG,by show b.K+1+_<=b.K+_;simp;omega,iG,iG⟩,Gh.le.refl _⟩
def Bd.go(b:Bd):Bd:={b with E:=b.E+1}
def Bd.Py(b:Bd):b.le b.go:=⟨⟨by show b.E<=b.E+1;omega,iG,iG,iG⟩,Gh.le.refl _⟩
def Xk.kX(h:Xk b X)(v):Xk (b.go.up 9) (X.kX v):=by
 unfold Cx.kX;split
 .exact(h.Jk.L b.Py).L (Bd.A _ bT)
 rename_i l F;have y:=(h.Jk.waits false false).L b.Py;have M:Xk b.go {X with b:=X.mv.b,lay:=l,mv:=Mv.zero,wb:=false,wl:=false}:=
  ⟨h.n1,h.m1,h.v1,h.v2,h.c1,h.id,(rO F).2.H h.lay,h.me,y.t,y.me,y.ba,y.mb,y.h,y.i,h.rv,h.pl,y.f,y.pr,y.sl,y.vt,y.bg,y.bl,y.mv,h.nk,⟨h.a.gL,h.a.lt,h.a.a,h.a.A⟩,h.g,h.nB,h.d⟩
 have Q:=h.pl;have A:=(Xk.yz X.a M (λc P=>P) (h.a.gL.imp λe=>C)).L (Bd.Ox (j:=8) C);dsimp only;split
 .exact A.iB.L ⟨⟨iG,by show b.K+8+1<=b.K+9;omega,iG,iG⟩,Gh.le.refl _⟩
 exact A.L (Bd.Ox bT)
theorem yB:∀(l:List (Int×Vo)) (s:Int×List Int),l.foldl (λb z=>pR b z.2) s=s\/∃z∈l,l.foldl (λb z=>pR b z.2) s=(z.2.ba,z.2.val)
 |[],s=>.inl rfl
 |z::l,s=>by
  obtain e|⟨y,h,e⟩:=yB l (pR s z.2)
  .show l.foldl _ (pR s z.2)=s\/_;rw[dF,e];unfold pR;split
   .exact .inr ⟨z,aN ..,rfl⟩
   exact .inl rfl
  exact .inr ⟨y,aX _ h,by rw[dF];exact e⟩
def oB(l):jC l=(0,[])\/∃z∈l,jC l=(z.2.ba,z.2.val):=yB l _
def yU(h:∀z∈l,BM b z.2):(jC l).2.length<=255/\nX (jC l).2:=by
 obtain e|⟨z,j,e⟩:=oB l
 .rw[e];exact⟨jR,by simp[nX]⟩
 rw[e];exact⟨(h z j).vl,(h z j).a⟩
def pY(X:Cx)(l):(X.lG l).Sublist l:=cE
def Xk.jN(h:Xk b X){v:List Int}(j:X.jN=some v):v.length<=255/\nX v:=by
 unfold Cx.jN at j;split at j
 .simp at j;subst j;exact yU λz A=>h.bg z ((pY X _).subset A)
 obtain⟨R,F,rfl⟩:=bN.1 j;obtain⟨M,P,H⟩:=h.all;have y:=(Cx.xZ F).1.all;have Q:=rj h.n1.2 h.m1.2;refine⟨gM y.length_le,λu L=>?_⟩;have:=H u (y.subset L);unfold nN at this;omega
theorem Xk.jB(h:Xk b X):Xk (b.up 1) X.jB:=by
 unfold Cx.jB;dsimp only;split
 .exact h.L (b.A bT)
 have y:∀z∈X.lG (kQ X.mv.A.D),BM b z.2:=λz A=>h.vt.ak z (List.filter_sublist.subset ((pY X _).subset A));have j:(if(jC (X.lG (kQ X.mv.A.D))).1=0 then X.jN.getD []else(jC (X.lG (kQ X.mv.A.D))).2).length<=255/\nX (if(jC (X.lG (kQ X.mv.A.D))).1=0 then X.jN.getD []else(jC (X.lG (kQ X.mv.A.D))).2):=by
  split
  .cases e:X.jN with
   |none=>exact⟨jR,by simp[nX]⟩
   |some v=>exact h.jN e
  exact yU y
 generalize (if(jC _).1=0 then X.jN.getD []else(jC _).2)=val at j|-;exact(h.vk (M:={X.mv with value:=val}) h.me h.mb h.sl h.vt h.bg h.bl j).kh (.inr (.inl rfl)) h.mb j λe=>absurd rfl e
def Xk.kx(h:Xk b X):Xk (b.go.up 9) X.kx:=by
 unfold Cx.kx;split
 .exact h.kX _
 exact(h.L b.Py).L (Bd.A _ bT)
def Bd.ev(b:Bd):Bd:=⟨b.E+1,b.B+200,b.K+10,b.N,b.g⟩
def Bd.Ve(b:Bd):b.le b.ev:=⟨⟨by show b.E<=b.E+1;omega,by show b.K<=b.K+10;omega,iG,by show b.B<=b.B+200;omega⟩,Gh.le.refl _⟩
def Bd.QG(b:Bd):(b.go.up 9).le b.ev:=⟨⟨iG,by show b.K+9<=b.K+10;omega,iG,by show b.B<=b.B+200;omega⟩,Gh.le.refl _⟩
def Bd.VA(b:Bd)(h:k<=10):(b.up k).le b.ev:=⟨⟨by show b.E<=b.E+1;omega,by show b.K+k<=b.K+10;omega,iG,by show b.B<=b.B+200;omega⟩,Gh.le.refl _⟩
def Bd.Lu(b:Bd)(h:k<=10):(b.AS.up k).le b.ev:=⟨⟨by show b.E<=b.E+1;omega,by show b.K+k<=b.K+10;omega,iG,iG⟩,Gh.le.refl _⟩
def Xk.kr(h:Xk b X):Xk b.ev X.kr:=by
 unfold Cx.kr;dsimp only;split
 .exact(h.kX _).L b.QG
 split
 .exact h.L b.Ve
 split
 .exact(h.kX _).L b.QG
 exact h.jM.L (b.Lu bT)
def Xk.ld(h:Xk b X):Xk b.ev X.ld:=by
 unfold Cx.ld;split
 .exact h.jS.L (b.Lu bT)
 split
 .exact h.jB.L (b.VA bT)
 exact h.L b.Ve
def Xk.pg(h:Xk b X){v:Vo}(F:BM b v)(H:X.mv.A.M nr fr=true):Xk b {X with mv:={X.mv with A:=X.mv.A.add fr v,D:=if X.mv.A.A.kd=7/\X.mv.D≠[]then X.mv.A.D++[(fr,v)]else X.mv.D}}:=by
 have j:=h.vt.add H F;have P:(X.mv.A.D++[(fr,v)]).length<=14:=by
  have y:((X.mv.A.add fr v).D.map _).length<=X.mv.A.nodes.length:=oG j.an λx L=>by obtain⟨z,M,rfl⟩:=aD.1 L;exact j.ai z M
  have:=h.vt.nl;rw[ay]at y;exact aF y this
 refine h.vk h.me h.mb h.sl j ?_ ?_ h.mv
 .dsimp only;split
  .exact j.ak
  exact h.bg
 dsimp only;split
 .omega
 exact h.bl
def Bd.D(b:Bd):Bd:=⟨b.E+1,b.B+200,b.K+20,b.N,b.g⟩
def Bd.wo(b:Bd):b.le b.D:=⟨⟨by show b.E<=b.E+1;omega,by show b.K<=b.K+20;omega,iG,by show b.B<=b.B+200;omega⟩,Gh.le.refl _⟩
def Bd.Q6(b:Bd)(h:k<=10):((b.up k).ev).le b.D:=⟨⟨by show b.E+1<=b.E+1;omega,by show b.K+k+10<=b.K+20;omega,iG,iG⟩,Gh.le.refl _⟩
def Bd.yi(b:Bd)(h:k<=20):(b.up k).le b.D:=⟨⟨by show b.E<=b.E+1;omega,by show b.K+k<=b.K+20;omega,iG,by show b.B<=b.B+200;omega⟩,Gh.le.refl _⟩
def Xk.kK(h:Xk b X){y:Int}{v:Vo}(F:BM b v)(H:0<=y/\y<=b.E+1):Xk b.D (X.kK fr nr y v):=by
 unfold Cx.kK;split
 .have A:=h.gR H;dsimp only;split
  .rename_i M;have j:=A.pg (F.L (b.A bT).toln) M;split
   .exact j.kr.L (b.Q6 bT)
   split
   .exact(j.jB.L (Bd.VA _ bT)).L (b.Q6 bT)
   split
   .exact(j.kx.L (Bd.QG _)).L (b.Q6 bT)
   exact j.L (b.yi bT)
  exact A.L (b.yi bT)
 exact h.L b.wo
def Xk.jJ(h:Xk b X){A:An}(j:Ei b A):Xk b.D (X.jJ fr nr A):=by
 unfold Cx.jJ;split
 .rename_i y;split
  .exact(h.gR j.ep).L (b.yi bT)
  exact Xk.L ⟨h.n1,h.m1,h.v1,h.v2,h.c1,h.id,h.lay,h.e,h.t,h.me,h.ba,h.mb,h.h,h.i,h.rv,h.pl,h.f,h.pr.add y j,h.sl,h.vt,h.bg,h.bl,h.mv,h.nk,⟨h.a.gL,h.a.lt,h.a.a,h.a.A⟩,h.g,h.nB,h.d⟩ b.wo
 split
 .rename_i y;split
  .exact(h.gR j.ep).L (b.yi bT)
  have F:=(h.vk (M:={X.mv with a:=X.mv.a.add fr A}) h.me h.mb (h.sl.add y j) h.vt h.bg h.bl h.mv).ld;exact F.L ⟨⟨iG,by show b.K+10<=b.K+20;omega,iG,iG⟩,Gh.le.refl _⟩
 split
 .exact h.L b.wo
 rename_i c H;split
 .exact(h.gR j.ep).L (b.yi bT)
 have P:=bu H;have y:c.q.M nr fr=true:=cR (p:=λc:jn=>c.q.M nr fr) H;have F:=h.YZ P y j;refine(F.oe (vx P rfl) j ?_).L (b.yi bT);obtain⟨_,Q,_⟩:=Qn.jL.1 y;intro e;change c.q.nodes=[]at e;rw[e]at Q;simp at Q
end
section
variable{b b':Bd}
def Xk.kG(h:Xk b X):Xk b.D X.kG:=by
 have h1:Xk b {X with wl:=X.wb,A:=0,mv:=Mv.zero,a:=X.a.map λ(c:jn)=>{c with q:={c.q with mi:=true}}}:=by
  have L:=((h.P5 (e:=0) ⟨bT,gM h.e⟩).Jk).waits X.wb X.wb;have P:∀c∈X.a.map (λ(c:jn)=>{c with q:={c.q with mi:=true}}),∃d∈X.a,c={d with q:={d.q with mi:=true}}:=λc F=>by obtain⟨d,j,rfl⟩:=aD.1 F;exact⟨d,j,rfl⟩
  refine⟨h.n1,h.m1,h.v1,h.v2,h.c1,h.id,h.lay,h.e,L.t,L.me,h.ba,L.mb,h.h,h.i,h.rv,by rw[ay];exact h.pl,λc F=>?_,h.pr,L.sl,L.vt,L.bg,L.bl,L.mv,λc F d j e1 e2 e3=>?_,⟨cj.2 h.a.gL,λc F=>?_,cj.2 h.a.a,λc F=>?_⟩,λk r hr=>(h.g k r hr).H ⟨λ⟨d,j,e⟩=>⟨_,aD.2 ⟨d,j,rfl⟩,e⟩,λ⟨d,j,e⟩=>by obtain⟨T,M,rfl⟩:=P d j;exact⟨T,M,e⟩⟩,h.nB,h.d⟩
  .obtain⟨d,j,rfl⟩:=P c F;have Q:=h.f d j;have y:=Q.tovV;exact⟨⟨y.kd,y.ad,y.un,y.ij,y.o1,y.d,y.pl,y.e,y.ln,y.st⟩,Q.a1,Q.u0,Q.c2,Q.q.mi true,Q.nr⟩
  .obtain⟨c',W,rfl⟩:=P c F;obtain⟨T,M,rfl⟩:=P d j;rw[h.nk c' W T M e1 e2 e3]
  .obtain⟨d,j,rfl⟩:=P c F;exact h.a.lt d j
  obtain⟨d,j,rfl⟩:=P c F;exact h.a.A d j
 have h2:∀Y:Cx,Xk b Y->Xk (b.up 1) (if Y.iX.length<Y.a.length then Y.jX else Y):=λY hY=>by
  split
  .exact hY.jX
  exact hY.L (b.A bT)
 have h3:∀Z:Cx,Xk (b.up 1) Z->Xk b.D (if Z.iJ then Z.iB else Z):=λZ hZ=>by
  split
  .exact hZ.iB.L ⟨⟨by show b.E<=b.E+1;omega,by show b.K+1+1<=b.K+20;omega,iG,by show b.B<=b.B+200;omega⟩,Gh.le.refl _⟩
  exact hZ.L (b.yi bT)
 exact h3 _ (h2 _ h1)
theorem Xk.jE(h:Xk b X):Xk b X.jE:=by
 have L:∀c∈X.jE.a,∃d∈X.a,c={d with q:=d.q.jE}:=λc A=>by
  obtain⟨d,j,rfl⟩:=aD.1 A
  grind
 refine⟨h.n1,h.m1,h.v1,h.v2,h.c1,h.id,h.lay,h.e,h.t,h.me,h.ba,h.mb,h.h,h.i,h.rv,by show(X.a.map _).length<=8;rw[ay];exact h.pl,λc A=>?_,h.pr.mi false,h.sl.mi false,h.vt.mi false,h.bg,h.bl,h.mv,λc A d j T W Y=>?_,⟨cj.2 h.a.gL,λc A=>?_,cj.2 h.a.a,λc A=>?_⟩,λk r Z=>(h.g k r Z).H ⟨λ⟨d,j,e⟩=>⟨_,aD.2 ⟨d,j,rfl⟩,e⟩,λ⟨d,j,e⟩=>by obtain⟨P,F,rfl⟩:=L d j;exact⟨P,F,e⟩⟩,h.nB,h.d⟩
 .obtain⟨d,j,rfl⟩:=L c A;have M:=h.f d j;have y:=M.tovV;exact⟨⟨y.kd,y.ad,y.un,y.ij,y.o1,y.d,y.pl,y.e,y.ln,y.st⟩,M.a1,M.u0,M.c2,M.q.mi false,M.nr⟩
 .obtain⟨c',Q,rfl⟩:=L c A;obtain⟨P,F,rfl⟩:=L d j;rw[h.nk c' Q P F T W Y]
 .obtain⟨d,j,rfl⟩:=L c A;exact h.a.lt d j
 obtain⟨d,j,rfl⟩:=L c A;exact h.a.A d j
theorem Xk.UL(_h:Xk b X)(H:X.a.length<8):X.nz<8/\∀c∈X.a,c.a≠X.nz:=by
 unfold Cx.nz
 cases e:(List.range 8).find? _ with
 |some l=>simp_all
 |none=>
  have j:(List.map (λl:Nat=>(l:Int)) (List.range 8)).length<=(X.a.map λc=>(c.a:Int)).length:=oG bT λx y=>by obtain⟨l,A,rfl⟩:=aD.1 y;have:=(bU.1 e) l A;simp only[Bool.not_eq_true,Bool.not_eq_false',cK]at this;obtain⟨c,F,h⟩:=this;exact aD.2 ⟨c,F,by simp at h;rw[h]⟩
  simp at j;omega
def Xk.begin(h:Xk b X)(h8:X.a.length<8)(hn:c.gL=X.e.length)(hl:c.a=X.nz)(hB:vV {b with N:=b.N+1} X.n X.m X.ce c)(Q:c.kind=1\/c.kind=5\/c.iA<X.n*X.ce)(F:c.q=Qn.zero):Xk {b with N:=b.N+1} (X.jb c):=by
 have T:b.le {b with N:=b.N+1}:=⟨⟨iG,iG,by show b.N<=b.N+1;omega,iG⟩,Gh.le.refl _⟩;have A:=h.L T;obtain⟨f1,f2⟩:=h.UL h8;have L:∀d∈(X.jb c).a,d∈X.a\/d=c:=λd j=>by
  obtain e|e:=aT.1 j
  .exact .inl e
  simp at e;exact .inr e
 refine⟨h.n1,h.m1,h.v1,h.v2,h.c1,h.id,h.lay,A.e,A.t,A.me,A.ba,A.mb,A.h,?_,λr P=>?_,?_,λd j=>?_,A.pr,A.sl,A.vt,A.bg,h.bl,h.mv,λd j e H M W h3=>?_,⟨?_,λd j=>?_,?_,λd j=>?_⟩,λk r P=>?_,λk r P hw=>?_,h.d⟩
 .have:=h.i;show((X.e++[Rz.zero]).length:Int)<=b.N+1;simp;omega
 .obtain e|e:=aT.1 P
  .exact h.rv r e
  simp at e;subst e;exact xh 0 bT
 .show(X.a++[c]).length<=8;simp;omega
 .obtain e|e:=L d j
  .exact A.f d e
  subst e;refine⟨hB,λg5 g=>?_,λ_=>by rw[F];rfl,λe=>by rw[F]at e;exact absurd (show(0:Int)=2 from e) bT,by rw[F];exact QK.zero,λe=>by rw[F]at e;exact absurd rfl e⟩;obtain g|g:=g
  .rw[F]at g;exact absurd rfl g
  obtain k|k|k:=Q
  .exact absurd k g
  .exact absurd k g5
  exact k
 .obtain g|g:=L d j<;>obtain g'|g':=L e H
  .exact h.nk d g e g' M W h3
  .subst g';rw[F]at W;exact absurd rfl W
  .subst g;rw[F]at M;exact absurd rfl M
  rw[g,g']
 .show(X.a++[c]).Pairwise _;refine cu.2 ⟨h.a.gL,bz,λd j e H=>?_⟩;simp at H;subst H;have:=h.a.lt d j;omega
 .show d.gL<(X.e++[Rz.zero]).length;obtain e|e:=L d j
  .have:=h.a.lt d e;simp;omega
  subst e;simp;omega
 .show(X.a++[c]).Pairwise _;refine cu.2 ⟨h.a.a,bz,λd j e H=>?_⟩;simp at H;subst H;rw[hl];exact f2 d j
 .obtain e|e:=L d j
  .exact h.a.A d e
  subst e;omega
 .have y:(X.e++[Rz.zero])[k]?=some r:=P;by_cases Q:k<X.e.length
  .rw[aB Q]at y;rw[h.g k r y];refine⟨λ⟨d,j,e⟩=>⟨d,dG _ j,e⟩,λ⟨d,j,e⟩=>?_⟩;obtain g|g:=L d j
   .exact⟨d,g,e⟩
   subst g;omega
  have Y:=(aj.1 y).1;simp at Y;have Z:k=X.e.length:=C;subst Z;rw[aC jr]at y;simp at y;subst y;exact⟨λ_=>⟨c,cM _ (cw.2 rfl),hn⟩,λ_=>rfl⟩
 have M:=h.nB k r P hw;show(X.e++[Rz.zero])[k]?=some r;rw[aB (aj.1 M).1];exact M
def Bd.nc(b:Bd):Bd:=⟨b.E+1,b.B+200,b.K+20,b.N+1,b.g⟩
def tV(X:Cx)(c):c∈(X.jb c).a:=cM _ (cw.2 rfl)
def J8(h:Xk b X)(j:0<=k/\k<=9){val:List Int}(y:val.length<=8)(A:nX val):Jr {b with N:=b.N+1} ⟨k,X.id,X.e.length,val⟩:=by have:=h.id;have:=h.i;exact⟨j,⟨by show 0<=X.id;omega,by show X.id<=1099;omega⟩,⟨eG _,by show(X.e.length:Int)<=b.N+1;omega⟩,y,A⟩
def Jb(h:Xk b X):Jr {b with N:=b.N+1} no:=(Se h).L ⟨iG,iG,by show b.N<=b.N+1;omega,iG⟩
def PG(b:Bd)(h:k<=20):(Bd.up {b with N:=b.N+1} k).le b.nc:=⟨⟨by show b.E<=b.E+1;omega,by show b.K+k<=b.K+20;omega,iG,by show b.B<=b.B+200;omega⟩,Gh.le.refl _⟩
def Xk.append(h:Xk b X)(j:X.a.length<8){val:List Int}(y:b.g.J X.e.length 1 ⟨8,X.id,X.e.length,val⟩ 0 0)(A:1<=val.length)(F:val.length<=8)(H:nX val):Xk b.nc (X.append val):=by have:=h.begin j (c:={X.jW 1 with ij:={(X.jW 1).ij with kd:=8,val:=val}}) rfl rfl ⟨.inl rfl,⟨aA 0,by show(0:Int)<=X.n*X.ce;exact_mod_cast jR⟩,λe=>absurd (show(1:Int)=5 from e) bT,J8 h bT F H,λ_=>by show tE 8 val.length=true;simp[tE];omega,Jb h,jR,xh 0 bT,(h.UL j).1,y⟩ (.inl rfl) rfl;exact this.L ⟨⟨by show b.E<=b.E+1;omega,by show b.K<=b.K+20;omega,iG,by show b.B<=b.B+200;omega⟩,Gh.le.refl _⟩
def Xk.EG(h:Xk b X)(y:X.a.length<8)(F:b.g.J X.e.length 2 ⟨0,X.id,X.e.length,[]⟩ 0 a)(H:X.T a):Xk b.nc (X.EG a):=by obtain⟨M,j⟩:=H;have A:vV {b with N:=b.N+1} X.n X.m X.ce {X.jW 2 with iA:=a}:=⟨.inr (.inl rfl),⟨M,fZ j⟩,λe=>absurd (show(2:Int)=5 from e) bz,J8 h bz jR (by simp[nX]),λe=>absurd (show(2:Int)=_ from e) bz,Jb h,jR,xh 0 bz,(h.UL y).1,F⟩;exact((h.begin y rfl rfl A (.inr (.inr j)) rfl).dO (tV X _) rfl rfl A λ_=>j).L (PG b bz)
theorem Xk.change(h:Xk b X)(j:X.a.length<8){u:Int}(A:b.g.J X.e.length 5 ⟨0,X.id,X.e.length,[]⟩ u 0)(F:nN X.n X.m u):Xk b.nc (X.change u):=by
 have H:vV {b with N:=b.N+1} X.n X.m X.ce {X.jW 5 with unit:=u}:=⟨.inr (.inr rfl),⟨aA 0,by show(0:Int)<=X.n*X.ce;exact_mod_cast jR⟩,λ_=>F,J8 h bz jR (by simp[nX]),λe=>absurd (show(5:Int)=_ from e) bz,Jb h,jR,xh 0 bz,(h.UL j).1,A⟩;have y:=(h.begin j rfl rfl H (.inr (.inl rfl)) rfl).ku (c:={X.jW 5 with unit:=u}) (tV X _) rfl;unfold Cx.change;dsimp only;split
 .exact y.iB.L (PG b (by grind))
 exact(y.L (Bd.A _ (k:=1) bz)).L (PG b bT)
theorem Xk.jK(h:Xk b X){k:Nat}{t:Int}(M:∀c∈X.a,c.gL=k->b.g.J c.gL c.kind c.ij c.unit t):Xk b.D (X.jK k t):=by
 unfold Cx.jK;split
 .exact h.L b.wo
 rename_i c P;have y:=bu P;have F:=h.f c y;have j:=F.tovV;split
 .rename_i A;unfold Cx.oO at A;simp at A;have H:vV b X.n X.m X.ce {c with iA:=t}:=⟨j.kd,⟨A.1,fZ A.2⟩,j.un,j.ij,j.o1,j.d,j.pl,j.e,j.ln,M c y (by grind)⟩;exact((h.put y (c':={c with iA:=t}) rfl rfl ⟨H,λ_ _=>A.2,F.u0,F.c2,F.q,F.nr⟩ λe d Q T W Y=>T (by rw[h.nk d Q c y W e Y])).dO (vx y rfl) rfl rfl H λ_=>A.2).L (b.yi bz)
 exact(h.fin y rfl (xh 7 bT) bT).L b.wo
def Xk.new{h:Nat}{id:Int}(A:1<=n/\n<=3)(F:1<=m/\m<=3)(M:1<=h/\h<=5)(P:h%2=1)(c1:1<=ce/\ce<=16)(gN:1000<=id/\id<=1099)(j:0<=b.E/\0<=b.B/\0<=b.K/\0<=b.N)(H:b.g.R=[]/\(n=b.g.n/\m=b.g.m)/\h=b.g.v/\ce=b.g.c/\id=b.g.id):Xk b (Cx.new n m h ce id):=by
 have y:∀{α:Type} {R:Rq->Prop} {Q:α->Prop} {iQ:Int->Prop},QK R Q iQ _:=QK.zero;obtain⟨_,_,_,_,T⟩:=tH n (xP A) m (xP F);refine⟨A,F,M,P,c1,gN,⟨rfl,λi r ch W L=>?_⟩,⟨aA 0,j.1⟩,⟨aA 0,by show(0:Int)<=b.E+1;omega⟩,⟨aA 0,by show(0:Int)<=b.E+1;omega⟩,⟨aA 0,j.2.1⟩,⟨aA 0,j.2.1⟩,⟨aA 0,j.2.2.1⟩,j.2.2.2,by simp[Cx.new],by simp[Cx.new],by simp[Cx.new],y,y,y,by simp[Cx.new,Mv.zero],by simp[Cx.new,Mv.zero],⟨jR,by simp[Cx.new,Mv.zero,nX]⟩,by simp[JP,Cx.new],⟨by simp[Cx.new],by simp[Cx.new],by simp[Cx.new],by simp[Cx.new]⟩,by simp[Cx.new],om H.1,H.2⟩;have e:r=ch:=by have:=W.symm.H L;simp_all
 subst e;refine⟨dy _,λe=>?_⟩;have:=T r (aR L);rw[e]at this;simp at this;omega
def Xk.base(h:Xk b X):Xk {b with g:=⟨X.e,X.n,X.m,X.vo,X.ce,X.id,b.g.J⟩} X:=
 ⟨h.n1,h.m1,h.v1,h.v2,h.c1,h.id,h.lay,h.e,h.t,h.me,h.ba,h.mb,h.h,h.i,h.rv,h.pl,λc j=>(h.f c j).L ⟨iG,iG,iG,iG⟩ (λ_ _ _ _ _ e=>e) iG,h.pr.L (λ_ e=>e.L ⟨iG,iG,iG,iG⟩) λ_ e=>e.L ⟨iG,iG,iG,iG⟩,h.sl.L (λ_ e=>e.L ⟨iG,iG,iG,iG⟩) λ_ e=>e.L ⟨iG,iG,iG,iG⟩,h.vt.L (λ_ e=>e.L ⟨iG,iG,iG,iG⟩) λ_ e=>e.L ⟨iG,iG,iG,iG⟩,λz y=>(h.bg z y).L ⟨iG,iG,iG,iG⟩,h.bl,h.mv,h.nk,h.a,h.g,λ_ _ e _=>e,⟨⟨rfl,rfl⟩,rfl,rfl,rfl⟩⟩
end
section
variable{b b':Bd}
structure VE(b:Bd)(s:St):Prop where
 ep:0<=s.ep/\s.ep<=b.E+1
 Xw:s.mark=0
 ct:∀i,Jr b (s.ct i)
 c1:∀i,(s.ct i).kd≠0->tE (s.ct i).kd (s.ct i).val.length=true
structure Sv(b:Bd)(s:VS):Prop where
 pr:∀e,0<=(s.E e).pr/\(s.E e).pr<=b.B
 ba:∀e,0<=(s.E e).ba/\(s.E e).ba<=b.B
 vl:∀e,(s.E e).val.length<=255
 a:∀e,nX (s.E e).val
 lt:0<=s.lt/\s.lt<=b.E+1
def VE.L(h:VE b s)(k:b.ln b'):VE b' s:=⟨⟨h.ep.1,by have:=h.ep.2;have:=k.e;omega⟩,h.Xw,λi=>(h.ct i).L k,h.c1⟩
def Sv.L{s:VS}(h:Sv b s)(k:b.ln b'):Sv b' s:=⟨λe=>⟨(h.pr e).1,bt (h.pr e).2 k.ba⟩,λe=>⟨(h.ba e).1,bt (h.ba e).2 k.ba⟩,h.vl,h.a,⟨h.lt.1,by have:=h.lt.2;have:=k.e;omega⟩⟩
def Y8(h:0<=b.N):Jr b ⟨0,0,0,[]⟩:=⟨bT,bT,⟨bT,h⟩,bT,by simp[nX]⟩
def Lq(h:0<=b.N){j y mk:Int}(F:0<=j/\j<=10)(A:j≠2/\j≠4)(H:0<=y/\y<=b.E+1)(L:0<=mk/\mk<=48):Ei b (an j y mk):=⟨F,H,L,Y8 h,λe=>absurd e A.1,A.2⟩
def KH(F:0<=b.E)(y:0<=b.N){b1 c d ch:Int}(h:VE b s)(H:0<=x):Ei b (tB a b1 c d ch s x):=by
 unfold tB mw;have j:(0:Int)<=0/\0<=b.E+1:=⟨bz,C⟩;split
 .exact⟨bT,j,bz,Y8 y,λe=>absurd (show(6:Int)=2 from e) bz,bT⟩
 rw[az (by rw[h.Xw];omega)];split
 .exact⟨bT,j,bT,Y8 y,λe=>absurd (show(3:Int)=2 from e) bT,bT⟩
 rename_i A;exact⟨⟨by show(0:Int)<=2;omega,by show(2:Int)<=10;omega⟩,j,⟨aA 0,by show(0:Int)<=48;omega⟩,h.ct _,λ_=>h.c1 _ A,by show(2:Int)≠4;decide⟩
def UF{ch:Int}{r:Rq}(L:0<=b.E)(y:0<=b.N)(h:VE b s)(j:OH b r):Ei b (mh n m v ce ch s r).1/\VE b (mh n m v ce ch s r).2:=by
 have A:VE b ⟨r.ep,s.mark,s.ct⟩:=⟨j.ep,h.Xw,h.ct,h.c1⟩;have F:Ei b (an 5 s.ep 0):=Lq y bT bT h.ep bT;unfold mh;split
 .unfold rb;split
  .exact⟨F,h⟩
  exact⟨Lq y bT bT j.ep bT,A⟩
 split
 .rename_i H;unfold oP;split
  .exact⟨F,h⟩
  split
  .exact⟨Lq y bT bT ⟨bT,C⟩ bT,A⟩
  split
  .refine⟨Lq y bT bT ⟨bT,C⟩ bT,⟨j.ep,h.Xw,λi=>?_,λi=>?_⟩⟩
   .show Jr b (if i=_ then _ else _);split
    .exact j.ct
    exact h.ct i
   show(if i=_ then _ else _:Ct).kd≠0->tE (if i=_ then _ else _:Ct).kd (if i=_ then _ else _:Ct).val.length=true;split
   .exact λ_=>j.c2 H
   exact h.c1 i
  exact⟨KH L y h j.pl.1,A⟩
 unfold qn;split
 .exact⟨F,h⟩
 exact⟨KH L y h j.pl.1,A⟩
def Sv.vX{s:VS}(h:Sv b s){j y:Int}{val:List Int}{l:Int}(F:0<=j/\j<=b.B)(H:0<=y/\y<=b.B)(L:val.length<=255)(M:nX val)(A:0<=l/\l<=b.E+1):Sv b ⟨oh s.E e ⟨j,y,val⟩,l⟩:=by
 refine⟨λk=>?_,λk=>?_,λk=>?_,λk=>?_,A⟩<;>(simp only[oh];split)
 .omega
 .exact h.pr k
 .omega
 .exact h.ba k
 .omega
 .exact h.vl k
 .omega
 exact h.a k
def Ur{s:VS}{r:Rq}(H:0<=b.B)(h:Sv b s)(j:Sp b r):BM b (nL s r).1/\Sv b (nL s r).2:=by
 have A:∀p:Prop,[Decidable p]->0<=(if p then max s.lt r.ep else s.lt)/\(if p then max s.lt r.ep else s.lt)<=b.E+1:=λp _=>by have:=h.lt;have:=j.ep;split<;>omega
 have F:∀l,(0<=l/\l<=b.E+1)->Sv b ⟨s.E,l⟩:=λl A=>⟨h.pr,h.ba,h.vl,h.a,A⟩;have L:BM b ⟨6,(s.E r.ep).pr,0,[]⟩:=⟨⟨by show(0:Int)<=6;omega,by show(6:Int)<=10;omega⟩,h.pr _,⟨aA 0,H⟩,jR,by simp[nX]⟩;have w1:(0:Int)<=1/\(1:Int)<=10:=bT;unfold nL;dsimp only;refine⟨?_,?_⟩
 .unfold pM;split
  .split
   .exact L
   exact⟨w1,j.pl,h.ba _,h.vl _,h.a _⟩
  split
  .split
   .exact L
   exact⟨w1,j.pl,⟨aA 0,H⟩,jR,by simp[nX]⟩
  exact⟨w1,h.pr _,h.ba _,h.vl _,h.a _⟩
 generalize P:(if(pM s.E r.kd r.ep r.pl r.ct.val).1.wh=1/\r.kd≠7 then max s.lt r.ep else s.lt)=M;have y:0<=M/\M<=b.E+1:=by rw[<-P];exact A _
 unfold pM;split
 .split
  .exact F _ y
  exact h.vX j.pl (h.ba _) (h.vl _) (h.a _) y
 split
 .split
  .exact F _ y
  exact h.vX j.pl j.pl j.vl j.a y
 exact F _ y
def VU(b:Bd):Pk->Prop
 | .rep nr A=>(0<=nr/\nr<=b.K)/\Ei b A
 | .vot nr lt v=>(0<=nr/\nr<=b.K)/\(0<=lt/\lt<=b.E+1)/\BM b v
 |_=>False
theorem VU.L{p:Pk}(h:VU b p)(k:b.ln b'):VU b' p:=by
 have j:=k.e;have y:=k.k
 cases p with
 |rep nr A=>exact⟨⟨h.1.1,gM h.1.2⟩,h.2.L k⟩
 |vot nr F v=>exact⟨⟨h.1.1,gM h.1.2⟩,⟨h.2.1.1,gM h.2.1.2⟩,h.2.2.L k⟩
 |req r=>exact h
def WG(x:Int):Prop:=∃i,i<8/\x=ja i
def ui(b:Bd)(n m v:Nat)(l:Le):Prop:=match l.pk with
 | .req r=>WG l.fr/\((nN n m l.tt/\OH b r)\/(n9 v l.tt/\Sp b r))
 |p=>1000<=l.tt/\VU b p
theorem ui.L{l:Le}(h:ui b n m v l)(k:b.ln b'):ui b' n m v l:=by
 obtain⟨fr,tt,p⟩:=l
 cases p with
 |req r=>
  refine⟨h.1,?_⟩;obtain⟨j,y⟩|⟨j,y⟩:=h.2
  .exact .inl ⟨j,y.L k⟩
  exact .inr ⟨j,y.L k⟩
 |rep nr A=>exact⟨h.1,VU.L h.2 k⟩
 |vot nr F v=>exact⟨h.1,VU.L h.2 k⟩
structure Vn(b:Bd)(e:Qe):Prop where
 cl:WG e.cl
 ln:0<=e.ln/\e.ln<10
 pk:VU b e.pk
def Qe.key(e:Qe):Int:=10*((e.cl-1000)/7)+e.ln
structure LQ(b:Bd)(q:List Qe):Prop where
 e:∀x∈q,Vn b x
 nd:(q.map Qe.key).Nodup
def Vn.L{e:Qe}(h:Vn b e)(k:b.ln b'):Vn b' e:=⟨h.cl,h.ln,h.pk.L k⟩
def LQ.L{q:List Qe}(h:LQ b q)(k:b.ln b'):LQ b' q:=⟨λx j=>(h.e x j).L k,h.nd⟩
def LQ.nil:LQ b []:=⟨bz,bz⟩
def N0{e:Qe}(h:Vn b e):0<=e.key/\e.key<80:=by obtain⟨i,y,j⟩:=h.cl;have:=h.ln;unfold Qe.key;rw[j];unfold ja;omega
def LQ.len{q:List Qe}(h:LQ b q):q.length<=80:=by
 have:=oG (m:=(List.range 80).map λi:Nat=>i) h.nd λx j=>by obtain⟨e,y,rfl⟩:=aD.1 j;have:=N0 (h.e e y);exact aD.2 ⟨e.key.toNat,di.2 C,C⟩
 simp_all
def Q7{x a:Qe}(h:Vn b x)(y:Vn b a):x.is a.cl a.ln=true↔x.key=a.key:=by obtain⟨i,H,A⟩:=h.cl;obtain⟨j,L,F⟩:=y.cl;have M:=h.ln;have P:=y.ln;unfold Qe.is Qe.key;simp;rw[A,F];unfold ja;omega
def LQ.add{q:List Qe}(h:LQ b q){a:Qe}(j:Vn b a):LQ b (uU q a):=by
 unfold uU;split
 .rename_i H;refine⟨λx hx=>?_,?_⟩
  .obtain hx|hx:=aT.1 hx
   .exact h.e x hx
   simp at hx;subst hx;exact j
  rw[aZ,cX];refine⟨h.nd,bz,λx hx y A=>?_⟩;simp at A;subst A;obtain⟨e,F,rfl⟩:=aD.1 hx;intro L;exact bU.1 H e F ((Q7 (h.e e F) j).2 L)
 split
 .exact h
 have M:∀x∈q,(if x.is a.cl a.ln then a else x).key=x.key:=λx hx=>by
  split
  .rename_i e;exact((Q7 (h.e x hx) j).1 e).symm
  rfl
 refine⟨λx hx=>?_,?_⟩
 .obtain⟨y,A,rfl⟩:=aD.1 hx;split
  .exact j
  exact h.e y A
 rw[br];have:q.map (Qe.key∘λb=>if b.is a.cl a.ln then a else b)=q.map Qe.key:=bf λx hx=>M x hx;rw[this];exact h.nd
def Lh(b:Bd)(n m v i:Nat):kC->Prop
 | .unit ch s=>i<n*m/\ch=(i/m:Nat)/\VE b s
 | .voter s=>n*m<=i/\i<n*m+v/\Sv b s
def Lh.L{p:kC}(h:Lh b n m v i p)(k:b.ln b'):Lh b' n m v i p:=by
 cases p<;>exact⟨h.1,h.2.1,h.2.2.L k⟩
structure Oq(b:Bd)(n m v i:Nat)(P:Pl):Prop where
 part:Lh b n m v i P.part
 q:LQ b P.q
def Oq.L{P:Pl}(h:Oq b n m v i P)(k:b.ln b'):Oq b' n m v i P:=⟨h.part.L k,h.q.L k⟩
theorem Oq.recv{P:Pl}(h:Oq b n m v i P)(Z:0<=b.E)(hB:0<=b.B)(hN:0<=b.N)(hm:n*m<=9){l:Le}(hl:ui b n m v l)(a0:jP n m i=l.tt):Oq b n m v i (P.recv n m v ce l.fr l.pk):=by
 obtain⟨fr,tt,p⟩:=l
 cases p with
 |req r=>
  obtain⟨W,Y⟩:=hl;obtain⟨y,q,up,nf⟩:=P
  cases y with
  |unit ch s=>
   obtain⟨H,M,Q⟩:=h.part;have gN:jP n m i=i:=by unfold jP;rw[aE H]
   obtain⟨F,j⟩|⟨F,j⟩:=Y
   .obtain⟨T,L⟩:=UF (n:=n) (m:=m) (v:=v) (ch:=ch) Z hN Q j;exact⟨⟨H,M,L⟩,h.q.add ⟨W,j.ln,⟨j.nr,T⟩⟩⟩
   unfold n9 at F;omega
  |voter s=>
   obtain⟨H,M,Q⟩:=h.part;have gN:jP n m i=100+i-(n*m:Nat):=by unfold jP;rw[az C]
   obtain⟨F,j⟩|⟨F,j⟩:=Y
   .unfold nN at F;omega
   obtain⟨T,L⟩:=Ur hB Q j;exact⟨⟨H,M,L⟩,h.q.add ⟨W,j.ln,⟨j.nr,L.lt,T⟩⟩⟩
 |rep nr A=>exact h
 |vot nr lt v=>exact h
def Oq.jE{P:Pl}(h:Oq b n m v i P):Oq b n m v i P.jE:=⟨h.part,LQ.nil⟩
end
end Go.Proofs.YtbghhbpacijmmaaGreat
