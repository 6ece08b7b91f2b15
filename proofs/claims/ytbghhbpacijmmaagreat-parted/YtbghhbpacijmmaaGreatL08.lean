import Derived.Sort.OwnSortedInts
import Derived.Test.YtbghhbpacijmmaaGreatL07
open Go.Proofs.Tryz
namespace Go.Proofs.YtbghhbpacijmmaaGreat
set_option maxRecDepth 99999
set_option maxHeartbeats 0
set_option linter.defProp false
open Go.RowKit Go.Maps Go.Shelf Go.Sort
attribute [local go_sem ↓] Go.wp_at_zero Go.wp_at_succ
open Go.ChangeMaps (setBlock)
variable {w w' w1 W1:World} {cP qb fz:Nat->Nat} {ps qs:List (Int×List Int)} {t p ga g:Nat} {c c':jn} {X X':Cx} {V V':CV} {v u:Value} {xs:List Value} {cv cv':lE} {ds:List Int} {zz:List (Int×Vo)} {T:Nat->Prop} {Q:Exit->Act->World->Prop} {q:Qn An} {es:Array MapEntry} {wn:MapEntry->Bool} {ke:MapEntry->Int} {kd:Int}
def yI(h:∀z∈zz,nX z.2.val):nX (jC zz).2:=by
 rw[zW];rcases(Dx (zz.map (·.2)) (0,[])).1 with e|⟨v,j,e⟩
 .rw[e];exact λd y=>mR y
 rw[e];obtain⟨z,A,rfl⟩:=aD.1 j;exact h z A
def Ka(h:∀z∈zz,nX z.2.val)(m):nX (qE zz m).2:=by unfold qE;exact yI λz j=>h z (aU.1 j).1
theorem Gf(h:jy w cP t p qb X V)(a0:100<=t)(ho:G1 X)(hB:nX X.mv.value):iU 254 #[ptr p] w λen w'=>en=iF/\CS w cP t p qb X.kx w':=by
 obtain⟨a5,a1⟩:=h.R 52 28 rfl;have lp:=h.A;obtain⟨mb,a2⟩:=h.r.vt.D.t.D;have HD:=gN (F7 h.r.vt.D.t);rw[a2]at a5 HD;obtain⟨va,vc,M⟩:=h.r.b.D;rw[ay]at M;have P:=h.r.b;rw[M]at a1 P;have a3:Hid (∀W,Bl w W->_):=λW hW=>tZ (h.bl hW (fz:=cP) ib) ho.x;have HA:Hid (∀W,Bl w W->iU 276 #[ptr p,gK va X.mv.value.length vc] W λen w'=>en=iF/\CS w cP t p qb (X.kX X.mv.value) w'):=λW hW=>(FD (h.bl hW (fz:=cP) ib) a0 ho va vc X.mv.value (P.bl hW λ_ _ e=>e) hB).L λen w'⟨e1,e2⟩=>⟨e1,CS.M hW e2⟩;have H:=gN h;obtain⟨Y,hY⟩:=gG X.kx;rw[hY];unfold Cx.kx at hY;have a7:X.mf<=3:=by obtain⟨_,_,_,_,v1,v5,_⟩:=ho.x.A;unfold Cx.mf;omega
 clear h ho hB P M a2;by_cases a4:X.mf<=(kQ X.mv.A.D).length
 .rw[aE a4]at hY;rw[hY]at HA;generalize j:(kQ X.mv.A.D).length=n at*;have F:((X.mf:Nat):Int)<=((n:Nat):Int):=C;have S:=gN j;clear j;go_enter func254,ntmps254;go_wp2_with(first|(go_at_call 279;refine HD.L ?_;rintro en w2⟨v2,rfl,Z,hb⟩;obtain⟨a6,rfl⟩:=Z.D;have y:=Z.Be;rw[S.o]at y;have a8:=(hb.cell lp).H a1;have a9:=af lp hb.lt;have A:=gN hb;clear HD Z hb)|(go_at_call 275;refine gS (a3 _ A) λw6 h6=>?_;have e6:=h6.symm;clear h6;subst e6)|(go_at_call 276;refine jA (HA _ A) λw5 HS=>?_));go_end0;exact⟨rfl,HS⟩
 rw[az a4]at hY;subst hY;generalize j:(kQ X.mv.A.D).length=n at*;have F:¬((X.mf:Nat):Int)<=((n:Nat):Int):=C;have aa:decide (((X.mf:Nat):Int)<=((n:Nat):Int))=false:=je F;have S:=gN j;clear j;go_enter func254,ntmps254;go_wp2_with(first|(go_at_call 279;refine HD.L ?_;rintro en w2⟨v2,rfl,Z,hb⟩;obtain⟨a6,rfl⟩:=Z.D;have y:=Z.Be;rw[S.o]at y;have A:=gN hb;clear HD Z hb)|(go_at_call 275;refine gS (a3 _ A) λw6 h6=>?_;have e6:=h6.symm;clear h6;subst e6));go_end0;exact⟨rfl,CS.D ⟨V,H⟩ A⟩
def jy.YA(h:jy w cP t p qb X V):jy (w.setCell (U p 53) (.bool true)) cP t p qb {X with wb:=true} V:=
 h.uV ((gI.refl (λb=>b=p) w).setCell (U p 53) (.inl rfl) _) (jO 53 _ w _ h.hp) ⟨h.r.lay,h.r.e,h.r.tb,h.r.mp,h.r.bo,h.r.bn,h.r.pr,h.r.sl,h.r.vt,h.r.bg,h.r.b,h.r.f,h.r.a.gL,h.r.a.lt,h.r.a.a,h.r.a.A⟩
def jy.Yb(h:jy w cP t p qb X V)(y:X.mv.A.A.kd=7)(j:X.mv.A.D≠[]):jy (w.setCell (U p 26) V.vt.av) cP t p qb {X with mv:={X.mv with D:=X.mv.A.D}} {V with bg:=V.vt.av}:=
 h.uV ((gI.refl (λb=>b=p) w).setCell (U p 26) (.inl rfl) _) (jO 26 _ w _ h.hp) ⟨h.r.lay,h.r.e,h.r.tb,h.r.mp,h.r.bo,h.r.bn,h.r.pr,h.r.sl,h.r.vt,.inr (.inl ⟨y,rfl,rfl,j⟩),h.r.b,h.r.f,h.r.a.gL,h.r.a.lt,h.r.a.a,h.r.a.A⟩
def Cx.Iz(X:Cx):Cx:={X with wb:=true,mv:={X.mv with D:=X.mv.A.D}}
structure QY(X:Cx):Prop where
 ad:G1 X
 sl:A6 X
 sn:X.mv.a.nodes.length<=100
 v:Jp X.mv.A.D
 kd:X.mv.A.A.kd=7
 ne:X.mv.A.D≠[]
 b:0<=X.M/\X.M<=1000000000000000
 id:1000<=X.id/\X.id<=1099
theorem DP(h:jy w cP t p qb X V)(a0:100<=t)(ho:QY X):iU 278 #[ptr p] w λen w'=>en=iF/\CS w cP t p qb X.jM w':=by
 have ad:=h.cellAt 53 rfl;have ag:=h.N 53;have lp:=h.A;have P:=h.YA;have O1:gI (λb=>b=p) w (w.setCell (U p 53) (.bool true)):=(gI.refl (λb=>b=p) w).setCell (U p 53) (.inl rfl) _;obtain⟨W1,a8⟩:=gG (w.setCell (U p 53) (.bool true));rw[a8]at P O1;have HC:=gN (mS P ho.ad.r ho.ad.l);have ai:({X with wb:=true}:Cx).iJ=X.iJ:=rfl;rw[ai]at HC;obtain⟨a4,ak⟩:=P.R 54 52 rfl;have a9:=P.A;obtain⟨al,am,H⟩:=iI O1 P h;obtain⟨y,a5⟩:=gO ho a8;obtain⟨Y,hY⟩:=gG X.jM;rw[hY];unfold Cx.jM at hY;obtain⟨mb,aa⟩:=h.r.vt.D.t.D;rw[aa]at ak;have ar:=gN aa;clear h ho a8 P O1 ai aa;generalize au:X.iJ=hc at*;clear au;by_cases j:(!hc&& !X.wl)=true
 .rw[aE j]at hY;simp only[bL,eK]at j;obtain⟨rfl,S⟩:=j;rw[S]at a4;clear S;have HS:Hid (∀W,Bl W1 W->CS w cP t p qb Y W):=λW hW=>by rw[<-hY];exact CS.gR (H.nF al) (CS.D ⟨V,am⟩ hW)
  clear hY;go_enter func278,ntmps278;go_upto_region 1 with fail;rw[a5.o];clear a5 ad ag;go_wp2_with(go_at_call 91;refine gS HC λw2 M=>?_;have an:=(M.cell a9).H a4;have av:=af a9 M.lt;have ab:=gN M;clear M);refine aG (v:= .tuple #[]) (by simp[results,results278,go_sem]) rfl ?_;exact⟨rfl,HS _ ab⟩
 .rw[az j]at hY;have HY:Hid ((if X.Iz.mv.a.N=true then X.Iz else X.Iz.oF).jS=Y):=hY;clear hY
  cases hc
  case' false=>
   cases S:X.wl
   case false=>exact absurd (by rw[S];rfl) j
   rw[S]at a4;clear S j
  all_goals
   go_enter func278,ntmps278;go_upto_region 1 with fail;rw[a5.o];clear a5 ad ag;go_upto_region 2 with(go_at_call 91;refine gS HC λw2 M=>?_;obtain⟨an,aw⟩:=M.D a9 a4 ak;have a1:=am.bl M (fz:=cP) ib;have av:=a1.A;have aY:=a1.cellAt 26 rfl;have b0:=a1.N 26;obtain⟨b1,ab⟩:=gO a1 M;clear M a1);have a2:=b1.Yb y.kd y.ne;rw[ar.o]at a2;have O3:gI (λb=>b=p) w2 (w2.setCell (U p 26) (.map mb)):=(gI.refl (λb=>b=p) w2).setCell (U p 26) (.inl rfl) _;have a6:=gN ((al.H (gI.D ab)).H O3);go_upto_region 3 with fail;obtain⟨W3,ap⟩:=gG (w2.setCell (U p 26) (.map mb));rw[ap]at a2 a6|-;have HA:=gN (Bp (a2.Ku y.sn));have Z:oM (X.Iz):=⟨y.ad.x.oE,y.ad.x.ll,y.ad.x.ne,y.ad.x.a0,y.ad.x.a1⟩;have a7:Hid (jy W3 cP t p qb X.Iz _):=a2;clear a2 O3 ap aw aY b0 an
   cases F:X.mv.a.N with
   |true=>
    have A:X.Iz.mv.a.N=true:=F;have ac:Hid (iU 155 #[.pointer (some (U p 29))] W3 λe w'=>e=gU (.bool true)/\w'=W3):=by have:=HA.o;rw[<-F];exact this
    have HP:Hid (iU 287 #[ptr p] W3 λen w'=>en=iF/\CS w cP t p qb Y w'):=(vz a7 a0 Z ⟨y.sl.ids,y.sl.len⟩ y.ad.u y.ad.r y.ad.l y.v.a ⟨y.b,y.id,y.v.pr⟩).L λen w'⟨e1,e2⟩=>⟨e1,by
     have a3:=HY.o
     rw[show(if X.Iz.mv.a.N=true then X.Iz else X.Iz.oF)=X.Iz from aE A]at a3
     rw[<-a3]
     exact CS.gR (H.nF a6) e2⟩
    have b2:=a7.A;clear HA F A;go_wp2_with(first|(go_at_call 155;refine gS ac λw6 h6=>?_;have e6:=h6.symm;clear h6;subst e6)|(go_at_call 287;refine jA HP λw5 HS=>?_));go_end0;exact⟨rfl,HS⟩
   |false=>
    have A:X.Iz.mv.a.N=false:=F;have ac:Hid (iU 155 #[.pointer (some (U p 29))] W3 λe w'=>e=gU (.bool false)/\w'=W3):=by have:=HA.o;rw[<-F];exact this
    have b3:=gN (Ua a7 a0 Z);have HP:Hid (∀w4,CS W3 cP t p qb X.Iz.oF w4->iU 287 #[ptr p] w4 λen w'=>en=iF/\CS w cP t p qb Y w'):=λw4 ⟨b5,k1,⟨V4,k2⟩,k3⟩=>(vz k2 a0 ⟨Z.oE,Z.ll,Z.ne,by have:=Z.a0;show 0<=X.gJ+1;have h1:0<=X.gJ:=this;omega,by have:=y.ad.a;show X.gJ+1<=_;omega⟩ ⟨λz hz=>by simp[Cx.oF,Qn.new]at hz,by simp[Cx.oF,Qn.new]⟩ y.ad.u y.ad.r y.ad.l y.v.a ⟨y.b,y.id,y.v.pr⟩).L λen w'⟨e1,e2⟩=>⟨e1,by
     have a3:=HY.o
     rw[show(if X.Iz.mv.a.N=true then X.Iz else X.Iz.oF)=X.Iz.oF from az (om A)]at a3
     rw[<-a3]
     have hl:=a6.size
     exact CS.wA ((H.nF a6).H k3) (λb hb=>k1 b C) e2⟩
    have b2:=a7.A;clear HA F A;go_wp2_with(first|(go_at_call 155;refine gS ac λw6 h6=>?_;have e6:=h6.symm;clear h6;subst e6)|(go_at_call 298;refine gS b3 λw4 aq=>?_;have b4:=gN (HP w4 aq);clear aq)|(go_at_call 287;refine jA b4 λw5 HS=>?_));go_end0;exact⟨rfl,HS⟩
def Qc(W)(x0 x1 x2)(va)(vn vc):(Instr.field 222 (.agg #[I x0,I x1,I x2,gK va vn vc]) 3).run prog W=.ok (gK va vn vc) W:=rfl
theorem FW(h:jy w cP t p qb X V)(a4:100<=t)(ho:QY X):iU 252 #[ptr p] w λy w'=>y=iF/\CS w cP t p qb X.kr w':=by
 obtain⟨am,a3⟩:=h.R 52 25 rfl;have lp:=h.A;obtain⟨gm,iC,l,a7,_,hM⟩:∃gm iC l,V.vt.av=.map (some gm)/\cP gm=t+6/\Mm w gm iC l X.mv.A.D (oN.ev w cP (t+3)):=by
  obtain⟨_,e⟩|⟨gm,iC,l,e1,e2,e3⟩:=h.r.vt.D
  .exact absurd e ho.ne
  exact⟨gm,iC,l,e1,e2,e3⟩
 rw[a7]at am;have M:=gN (JH hM ho.v.a ho.v.ba ho.v.len X.mf);have P:Hid (∀W,Bl w W->_):=λW hW=>tZ (h.bl hW (fz:=cP) ib) ho.ad.x;have a8:Hid (∀W val va vc,Bl w W->Rd W cP (t+3) 5 (mP va val vc) (val.map B8)->nX val->iU 276 #[ptr p,gK va val.length vc] W λy w'=>y=iF/\CS w cP t p qb (X.kX val) w'):=λW val va vc hW S hB=>(FD (h.bl hW (fz:=cP) ib) a4 ho.ad va vc val S hB).L λy w'⟨e1,e2⟩=>⟨e1,CS.M hW e2⟩;have a9:Hid (∀W,Bl w W->iU 278 #[ptr p] W λy w'=>y=iF/\CS w cP t p qb X.jM w'):=λW hW=>(DP (h.bl hW (fz:=cP) ib) a4 ho).L λy w'⟨e1,e2⟩=>⟨e1,CS.M hW e2⟩;have aa:Hid (∀W,Bl w W->iU 277 #[.map (some gm)] W λy w'=>∃(x0 x1:Int) (Z:Option Addr) (sc:Nat),y=gU (.agg #[I x0,I x1,I (jC X.mv.A.D).1,gK Z (jC X.mv.A.D).2.length sc])/\Rd w' cP (t+3) 5 (gK Z (jC X.mv.A.D).2.length sc) ((jC X.mv.A.D).2.map B8)/\Bl W w'):=λW hW=>(rP (.inr ⟨gm,iC,l,rfl,hM.bl hW⟩) ho.v.a).L λy w'⟨x0,x1,s,e1,e2,e3⟩=>by obtain⟨Z,sc,hs⟩:=e2.D;rw[ay]at hs;subst hs;exact⟨x0,x1,Z,sc,e1,e2,e3⟩
 have a6:Hid (∀W,Bl w W->(Builtin.len_ #[104] 3 #[.map (some gm)]).run prog W=.ok (I X.mv.A.D.length) W):=λW hW=>qL.Be (.inr ⟨gm,iC,l,rfl,hM.bl hW⟩);obtain⟨ab,ac,H⟩:=iI (Ka ho.v.a X.mf) (yI ho.v.a) h;obtain⟨Y,F⟩:=gG X.kr;rw[F];unfold Cx.kr at F;simp only at F;have au:X.mf<=3:=by obtain⟨_,_,_,_,v1,v5,_⟩:=ho.ad.x.A;unfold Cx.mf;omega
 have av:=ho.v.len;have hf:=Qc;clear h ho a7 hM;generalize qE X.mv.A.D X.mf=ag at*;obtain⟨a1,a2⟩:=ag;simp only at F M ab;by_cases h0:0<a1
 .rw[aE h0]at F;have j:=gN λW va vc=>a8.o W a2 va vc;rw[F]at j;have hd:decide (0<a1)=true:=je h0;rw[hd]at M;clear F hd;go_enter func252,ntmps252;go_wp2_with(first|(go_at_call 275;refine gS (P _ jZ) λw6 h6=>?_;have e6:=h6.symm;clear h6;subst e6)|(go_at_call 274;refine M.L ?_;rintro y w2⟨x0,x1,s,rfl,S,A⟩;obtain⟨Z,sc,hs⟩:=S.D;rw[ay]at hs;subst hs;obtain⟨HR,HB⟩:=gO S A;clear S A)|(go_at_call 276;refine jA (j _ _ _ (HB.alloc _) (HR.bl (jZ.alloc _) λ_ _ e=>e) ab) λw5 HS=>?_));refine aG (v:= .tuple #[]) (by simp[results,results252,go_sem]) rfl ?_;exact⟨rfl,HS⟩
 rw[az h0]at F;have hd:decide (0<a1)=false:=je h0;rw[hd]at M;clear hd;generalize ad:X.mv.A.D.length=ln at*;have aw:=gN ad;clear ad;by_cases jt:ln<X.mf
 .rw[aE jt]at F;subst F;have ai:((ln:Nat):Int)<((X.mf:Nat):Int):=C;go_enter func252,ntmps252;go_wp2_with(first|(go_at_call 274;refine M.L ?_;rintro y w2⟨x0,x1,s,rfl,S,A⟩;obtain⟨Z,sc,hs⟩:=S.D;rw[ay]at hs;subst hs;have a5:=a6 _ (A.alloc (ig (rH x0 x1 a1 Z a2 sc) 222));have HB:=gN (A.alloc (ig (rH x0 x1 a1 Z a2 sc) 222));clear S A)|(go_at_call 275;(first|refine(P _ jZ).L ?_|refine(P _ HB).L ?_);rintro y w6⟨rfl,h6⟩;have e6:=h6.symm;clear h6;subst e6));refine aG (v:= .tuple #[]) (by simp[results,results252,go_sem]) rfl ?_;exact⟨rfl,CS.D ⟨V,H⟩ HB⟩
 rw[az jt]at F;have ai:¬((ln:Nat):Int)<((X.mf:Nat):Int):=C
 cases a0:X.mv.c with
 |true=>rw[aE a0]at F;rw[a0]at a3;have j:=gN λW va vc=>a8.o W (jC X.mv.A.D).2 va vc;rw[F]at j;clear F a0;generalize jC X.mv.A.D=hi at*;obtain⟨h1,h2⟩:=hi;simp only at aa j ac;go_enter func252,ntmps252;go_wp2_with(first|(go_at_call 274;refine M.L ?_;rintro y w2⟨x0,x1,s,rfl,S,A⟩;obtain⟨Z,sc,hs⟩:=S.D;rw[ay]at hs;subst hs;have a5:=a6 _ (A.alloc (ig (rH x0 x1 a1 Z a2 sc) 222));have hB:=A.alloc (ig (rH x0 x1 a1 Z a2 sc) 222);have an:=(A.cell lp).H a3;have ap:=af lp A.lt;have HB:=gN hB;clear S A hB)|(go_at_call 275;(first|refine(P _ jZ).L ?_|refine(P _ HB).L ?_);rintro y w6⟨rfl,h6⟩;have e6:=h6.symm;clear h6;subst e6)|(go_at_call 277;refine(aa _ HB).L ?_;rintro y w3⟨y0,y1,ta,tc,rfl,ak,al⟩;obtain⟨aq,ar⟩:=gO ak (HB.H al);clear ak al)|(go_at_call 276;refine jA (j _ _ _ ar aq ac) λw5 HS=>?_));refine aG (v:= .tuple #[]) (by simp[results,results252,go_sem]) rfl ?_;exact⟨rfl,HS⟩
 |false=>rw[az (om a0)]at F;rw[a0]at a3;rw[F]at a9;clear F a0;go_enter func252,ntmps252;go_wp2_with(first|(go_at_call 274;refine M.L ?_;rintro y w2⟨x0,x1,s,rfl,S,A⟩;obtain⟨Z,sc,hs⟩:=S.D;rw[ay]at hs;subst hs;have a5:=a6 _ (A.alloc (ig (rH x0 x1 a1 Z a2 sc) 222));have hB:=A.alloc (ig (rH x0 x1 a1 Z a2 sc) 222);have an:=(A.cell lp).H a3;have ap:=af lp A.lt;have HB:=gN hB;clear S A hB)|(go_at_call 275;(first|refine(P _ jZ).L ?_|refine(P _ HB).L ?_);rintro y w6⟨rfl,h6⟩;have e6:=h6.symm;clear h6;subst e6)|(go_at_call 278;refine jA (a9 _ HB) λw5 HS=>?_));go_end0;exact⟨rfl,HS⟩
structure MC(X:Cx):Prop where
 x:oM X
 u:BI X
 sl:A6 X
 v:Jp X.mv.A.D
 bg:Jp X.mv.D
 b:0<=X.M/\X.M<=1000000000000000
 id:1000<=X.id/\X.id<=1099
 r:X.e.length<=1000000000
 l:X.a.length<=8
theorem MW(h:jy w cP t p qb X V)(A:100<=t)(j:MC X)(x0 x1 x2 x3 x4 x5)(va)(vn vc):iU 271 #[ptr p,.agg #[I x0,I x1,I x2,I x3,I x4,I x5,gK va vn vc]] w λF w'=>F=iF/\CS w cP t p qb X.ld w':=by
 have M:=h.cellAt 41 rfl;have lp:=h.A;have P:=(Bl.refl w).alloc (ig #[I x0,I x1,I x2,I x3,I x4,I x5,gK va vn vc] 215);have W:=h.bl P (fz:=cP) ib;have HP:Hid (iU 287 #[ptr p] _ λF w'=>F=iF/\CS w cP t p qb X.jS w'):=(vz W A j.x j.sl j.u j.r j.l j.bg.a ⟨j.b,j.id,j.bg.pr⟩).L λF w'⟨Z,e2⟩=>⟨Z,CS.M P e2⟩;have HD:Hid (iU 253 #[ptr p] _ λF w'=>F=iF/\CS w cP t p qb X.jB w'):=(yh W A j.x j.sl j.u j.r j.l j.bg j.v).L λF w'⟨Z,e2⟩=>⟨Z,CS.M P e2⟩;have HF:=gN (CS.D (w':=_) ⟨V,h⟩ P);obtain⟨Y,y⟩:=gG X.ld;rw[y];unfold Cx.ld at y;clear h j W P;by_cases H:X.mv.A.A.kd=7
 .rw[aE H]at y;rw[H]at M;rw[y]at HP;clear y H;go_enter func271,ntmps271;go_wp2_with(go_at_call 287;refine jA HP λw5 HS=>?_);go_end0;exact⟨rfl,HS⟩
 rw[az H]at y;have a0:(X.mv.A.A.kd==7)=false:=je H;by_cases S:X.mv.A.A.kd=5
 .rw[aE S]at y;rw[S]at M;rw[y]at HD;clear y S H a0;go_enter func271,ntmps271;go_wp2_with(go_at_call 253;refine jA HD λw5 HS=>?_);go_end0;exact⟨rfl,HS⟩
 rw[az S]at y;have a1:(X.mv.A.A.kd==5)=false:=je S;rw[y]at HF;clear y;generalize X.mv.A.A.kd=kd at*;go_enter func271,ntmps271;go_wp2;go_end0;exact⟨rfl,HF⟩
abbrev Vk(v:Vo)(va:Option Addr)(vc:Nat):Value:= .agg #[I v.wh,I v.pr,I v.ba,.slice va v.val.length vc]
def Cx.pg(Y:Cx)(fr:Int)(v:Vo):Cx:={Y with mv:={Y.mv with A:=Y.mv.A.add fr v,D:=if Y.mv.A.A.kd=7/\Y.mv.D≠[]then Y.mv.A.D++[(fr,v)]else Y.mv.D}}
def jy.Zb(h:jy w cP t p qb X V)(hn:X.mv.A.nodes≠[]){fr:Int}(hf:X.mv.A.T fr=false)(A)(v)(hv:oN.ev w cP (t+3) A v):∃y P l,w.cell? (U p 52)=some (.map (some y))/\w.heap[y]?=some (.map (ie l) P)/\(∀e∈l,e.k≠fr)/\jy (rI w y P l fr v) cP t p qb (X.pg fr A) V/\gI (λb=>Mc t (cP b)) w (rI w y P l fr v):=by
 obtain⟨y,P,l,Z,F,e3,e4,e5,j⟩:=h.r.vt.add C hn hf A v hv;have W:=h.cellAt 52 rfl;rw[Z]at W;have Y:∀b,b<w.heap.size->cP b=cP b:=λ_ _=>rfl;have S:∀b,b<w.heap.size->b=y->cP b≠t+3:=λb _ e=>by rw[e,F];omega
 have hB:NF (rI w y P l fr v) cP t (X.pg fr A).mv V.bg V.vt.av:=by
  obtain⟨L,M⟩|⟨L,M,g3,g4⟩|⟨L,M,g3⟩:=h.r.bg
  .refine .inl ⟨L,?_⟩;show(if _ then _ else _)=[];rw[az (om M)];exact M
  .refine .inr (.inl ⟨L,M,?_,?_⟩)
   .show(if _ then _ else _)=_;rw[aE ⟨L,g4⟩];rfl
   show(if _ then _ else _)≠_;rw[aE ⟨L,g4⟩];simp
  refine .inr (.inr ⟨L,M,?_⟩);show oS _ cP (t+6) (t+3) V.bg (if _ then _ else _);rw[az (mZ L)];refine g3.only j S (λb hb e=>?_) (λ_ _ e=>e) ib;rw[e]at hb;exact M (hb.H Z.symm)
 refine⟨y,P,l,W,e3,e4,⟨(j.block p h.A λe=>by have:=h.tp;rw[e,F]at this;omega).H h.hp,h.tp,h.r.lay.only j S λ_ _ e=>e,h.r.e.only j S (λb _ e=>by rw[e,F];omega) Y,h.r.tb,(j.block _ h.r.lb λe=>by have:=h.r.tb;rw[e,F]at this;omega).H h.r.mp,h.r.bo,h.r.bn,h.r.pr.only j S (λb _ e=>by rw[e,F];omega) Y,h.r.sl.only j S (λb _ e=>by rw[e,F];omega) Y,e5,hB,h.r.b.only j S λ_ _ e=>e,λd hd=>?_,h.r.a.gL,h.r.a.lt,h.r.a.a,h.r.a.A⟩,j.L λb _ e=>by rw[e,F];unfold Mc;omega⟩;obtain⟨dv,hk⟩:=h.r.f d hd;exact⟨dv,hk.only j (λb _ e=>by rw[e,F];omega) Y⟩
theorem QS(h:jy w cP t p qb X V)(M:100<=t)(hx:oM X)(hn:XN X)(hl:X.mv.A.nodes.length<=100)(fr nr lt)(jt:0<=lt/\lt<=1000000000000000)(v)(va)(vc)(hv:Rd w cP (t+3) 5 (gK va v.val.length vc) (v.val.map B8))(b8:(X.gR lt).mv.A.nodes.length<=100)(h7:(X.gR lt).mv.A.M nr fr=true->(X.gR lt).mv.A.A.kd=7->QY ((X.gR lt).pg fr v))(h5:(X.gR lt).mv.A.M nr fr=true->(X.gR lt).mv.A.A.kd=5->MC ((X.gR lt).pg fr v))(h6:(X.gR lt).mv.A.M nr fr=true->(X.gR lt).mv.A.A.kd=6->G1 ((X.gR lt).pg fr v)/\nX (X.gR lt).mv.value):iU 216 #[ptr p,I fr,I nr,I lt,Vk v va vc] w λF w'=>F=iF/\CS w cP t p qb (X.kK fr nr lt v) w':=by
 obtain⟨W,hW⟩:=gG (w.alloc (ig #[I v.wh,I v.pr,I v.ba,gK va v.val.length vc] 222));have bW:=(Bl.refl w).alloc (ig #[I v.wh,I v.pr,I v.ba,gK va v.val.length vc] 222);have hX:=ao w (ig #[I v.wh,I v.pr,I v.ba,gK va v.val.length vc] 222);rw[hW]at bW hX;have lr:=(ae.1 hX).1;have aa:∀b,b<w.heap.size->ir cP w.heap.size 5 b=cP b:=λb j=>gV _ _ _ _ j;have hK:=h.bl bW (fz:=ir cP w.heap.size 5) aa;have S:=gN (sX (hK.JX hl) nr fr);have lp:=hK.A;obtain⟨Y,hY⟩:=gG (X.kK fr nr lt v);rw[hY];unfold Cx.kK at hY;simp only at hY;obtain⟨HW,BW,HX,HK⟩:=kN hW bW hX hK;obtain⟨H,ak,b9⟩:=iI h (And.intro hx hn) jt;obtain⟨Hl,Hv⟩:=gO hl hv;have al:Hid (∀Z W',CS W (ir cP w.heap.size 5) t p qb Z W'->CS w cP t p qb Z W'):=λZ W' hc=>CS.BL bW aa hc;clear h hx hn hl hv hW bW hX hK jt;by_cases ha:X.mv.A.M nr fr=true
 .rw[aE ha]at hY;rw[ha]at S;have am:Hid (∀W2,Bl W W2->iU 250 #[ptr p,I lt] W2 λF w'=>F=iF/\CS W2 (ir cP w.heap.size 5) t p qb (X.gR lt) w'):=λW2 j=>Cj (HK.bl j (fz:=ir cP w.heap.size 5) ib) M ak.1 ak.2 lt b9;generalize X.gR lt=B at*;have an:=gN hY;clear hY ha;have ap:Hid (∀w3 tag3 V3 W4,jy w3 tag3 t p qb B V3->Bl w3 W4->iU 251 #[.pointer (some (U p 41)),I nr,I fr] W4 λF w'=>F=gU (.bool (B.mv.A.M nr fr))/\Bl W4 w'):=λw3 tag3 V3 W4 hk j=>sX ((hk.bl j (fz:=tag3) ib).JX b8) nr fr;go_enter func216,ntmps216;go_upto_region 1 with fail;rw[HW.o];clear HW;go_wp2_with fail;refine jA S λw2 y=>?_;go_wp2_with fail;refine gS (am _ y) λw3 ba=>?_;obtain⟨tag3,k1,⟨V3,K3⟩,O3⟩:=ba;obtain⟨aq,ar,a5⟩:=iI K3 k1 O3;clear k1 K3 O3;go_wp2_with fail;refine gS (ap w3 tag3 V3 _ aq jZ) λw4 au=>?_;have a6:=gN au;clear au ap am S;have av:Hid (∀Z W',CS w4 tag3 t p qb Z W'->CS w cP t p qb Z W'):=λZ W' hc=>by have l1:=y.lt;refine al _ _ (CS.wA ((gI.D y).H (a5.H (gI.D a6))) (λb j=>ar.o b C) hc)
  have a0:=aq.bl a6 (fz:=tag3) ib;by_cases j:B.mv.A.M nr fr=true
  .rw[j];obtain⟨_,_,aw,bb⟩:=pW j;have l1:=y.lt;have l3:=a5.size;have lw:=BW.lt;have aY:w4.heap[w.heap.size]?=some (ig #[I v.wh,I v.pr,I v.ba,gK va v.val.length vc] 222 (0,0)):=(a6.heap C).H ((a5.block w.heap.size C (by rw[jc _ _ _ _ jr];unfold Mc;omega)).H ((y.heap lr).H HX));have b0:Rd w4.drew tag3 (t+3) 5 (gK va v.val.length vc) (v.val.map B8):=by have r1:=Hv.bl (BW.H y) (fz:=ir cP w.heap.size 5) (λb j e=>by rw[gV _ _ _ _ j];exact e);have r2:=r1.only a5 (λb j e=>by unfold Mc at e;omega) (fz:=tag3) (λb j e=>by rw[ar.o b j];exact e);exact r2.bl (a6.drew) λ_ _ e=>e
   obtain⟨gm,iC,l,b1,ab,ac,b2,ho⟩:=(a0.bl ((Bl.refl w4).drew) (fz:=tag3) ib).Zb bb aw v (Vk v va vc) ⟨_,rfl,b0⟩;have b3:w4.cell? (U p 52)=some (.map (some gm)):=b1;have a3:=AA w4 gm iC l ab fr (Vk v va vc) ac;have a4:=AA w4.drew gm iC l ab fr (Vk v va vc) ac;obtain⟨r0,r1,r2,r3,bg⟩:=sj aY;have bi:=a0.A;have HZ:Hid (CS w cP t p qb (B.pg fr v) (rI w4.drew gm iC l fr (Vk v va vc))):=av _ _ (CS.M ((Bl.refl w4).drew) (CS.mk b2 ho));obtain⟨W5,ad⟩:=gG (rI w4.drew gm iC l fr (Vk v va vc));have P:_=Result.ok () W5:=a4.H (by rw[<-ad]);rw[ad]at HZ;unfold Vk at a3 P;clear ad a4 b2 ho b1 ab ac aY b0 a0;go_upto_region 5 with fail;go_cut[] λwx=>Hid (CS w cP t p qb (B.pg fr v) wx)
   case first=>
    go_region;all_goals(go_wp2_with fail;go_meet)
    all_goals exact HZ
   case rest=>
    obtain⟨b4,q1,⟨V5,K5⟩,O5⟩:=hcut.o;have a7:=K5.cellAt 41 rfl;have bl:=K5.A;have b5:(B.pg fr v).mv.A.A.kd=B.mv.A.A.kd:=rfl;rw[b5]at a7;have ag:=an.o;rw[aE j]at ag;have a8:Hid ((if B.mv.A.A.kd=7 then(B.pg fr v).kr else if B.mv.A.A.kd=5 then(B.pg fr v).jB else if B.mv.A.A.kd=6 then(B.pg fr v).kx else B.pg fr v)=Y):=ag;have HG:Hid (∀Z W',CS wc b4 t p qb Z W'->CS w cP t p qb Z W'):=λZ W' hc=>CS.wA O5 q1 hc;obtain⟨a9,H7,H5,H6⟩:=kN K5 (h7 j) (h5 j) (h6 j);clear hcut K5 O5 q1 b5 ag h7 h5 h6 HZ a3 P b3 r0 r1 r2 r3 j;by_cases e7:B.mv.A.A.kd=7
    .have HC:Hid (iU 252 #[ptr p] wc λF w'=>F=iF/\CS w cP t p qb Y w'):=(FW a9 M (H7 e7)).L λF w'⟨a1,a2⟩=>⟨a1,by
      have:=a8.o
      rw[aE e7]at this
      rw[<-this];exact HG _ _ a2⟩
     rw[e7]at a7;clear e7;go_wp2_with(go_at_call 252;refine jA HC λw5 HS=>?_);go_end0;exact⟨rfl,HS⟩
    have b6:(B.mv.A.A.kd==7)=false:=by simpa using e7
    by_cases e5:B.mv.A.A.kd=5
    .have A:=H5 e5;have HC:Hid (iU 253 #[ptr p] wc λF w'=>F=iF/\CS w cP t p qb Y w'):=(yh a9 M A.x A.sl A.u A.r A.l A.bg A.v).L λF w'⟨a1,a2⟩=>⟨a1,by
      have:=a8.o
      rw[az e7,aE e5]at this
      rw[<-this];exact HG _ _ a2⟩
     rw[e5]at a7;clear e5 e7 b6 A;go_wp2_with(go_at_call 253;refine jA HC λw5 HS=>?_);go_end0;exact⟨rfl,HS⟩
    have bc:(B.mv.A.A.kd==5)=false:=by simpa using e5
    by_cases e6:B.mv.A.A.kd=6
    .obtain⟨g1,g2⟩:=H6 e6;have HC:Hid (iU 254 #[ptr p] wc λF w'=>F=iF/\CS w cP t p qb Y w'):=(Gf a9 M g1 g2).L λF w'⟨a1,a2⟩=>⟨a1,by
      have:=a8.o
      rw[az e7,az e5,aE e6]at this
      rw[<-this];exact HG _ _ a2⟩
     rw[e6]at a7;clear e5 e7 b6 e6 bc g1 g2;go_wp2_with(go_at_call 254;refine jA HC λw5 HS=>?_);go_end0;exact⟨rfl,HS⟩
    have bm:(B.mv.A.A.kd==6)=false:=by simpa using e6
    have HS:Hid (CS w cP t p qb Y wc):=by have:=a8.o;rw[az e7,az e5,az e6]at this;unfold Hid;rw[<-this];exact HG _ _ (CS.D ⟨_,a9⟩ jZ)
    generalize B.mv.A.A.kd=kd at*;go_wp2;go_end0;exact⟨rfl,HS⟩
  have b7:B.mv.A.M nr fr=false:=by simpa using j
  rw[b7];have HS:Hid (CS w cP t p qb Y w4):=by have:=an.o;rw[az j]at this;unfold Hid;rw[<-this];exact av _ _ (CS.D ⟨_,a0⟩ jZ)
  clear j b7 a0;go_wp2;refine aG (v:= .tuple #[]) (by simp[results,results216,go_sem]) rfl ?_;exact⟨rfl,HS⟩
 rw[az ha]at hY;have ai:X.mv.A.M nr fr=false:=je ha;rw[ai]at S;subst hY;have bd:Hid (∀W2,Bl W W2->iU 251 #[.pointer (some (U p 41)),I nr,I fr] W2 λF w'=>F=gU (.bool false)/\Bl W2 w'):=λW2 j=>by have:=sX ((HK.bl j (fz:=ir cP w.heap.size 5) ib).JX Hl) nr fr;rwa[ai]at this
 clear ha ai;go_enter func216,ntmps216;go_upto_region 1 with fail;rw[HW.o];clear HW;go_wp2_with fail;refine jA S λw2 y=>?_;go_wp2_with fail;refine jA (bd _ y) λw3 be=>?_;go_wp2;refine aG (v:= .tuple #[]) (by simp[results,results216,go_sem]) rfl ?_;exact⟨rfl,al _ _ (CS.D ⟨V,HK⟩ (y.H be))⟩
def Cx.uZ(X:Cx)(nr fr:Int):Bool:=X.c.M nr fr||X.mv.a.M nr fr||X.a.any λc=>c.q.M nr fr
theorem M8(h:jy w cP t p qb X V)(M:B4 X)(fr nr):iU 249 #[O p,I fr,I nr] w λj w'=>Bl w w'/\((X.uZ nr fr=true/\∃g o f a,j=gU (.tuple #[.pointer (some (U g o)),.func f #[] a]))\/(X.uZ nr fr=true/\∃g o f a,j=gU (.tuple #[.pointer (some (U g o)),.func f a #[]]))\/(X.uZ nr fr=false/\j=gU (.tuple #[.pointer none,.nilFunc]))):=by
 cases y:X.c.M nr fr with
 |true=>exact(yL h M fr nr y).L λj w'⟨e,A⟩=>⟨A,.inl ⟨by simp[Cx.uZ,y],_,_,_,_,e⟩⟩
 |false=>
  cases F:X.mv.a.M nr fr with
  |true=>exact(yV h M fr nr y F).L λj w'⟨e,A⟩=>⟨A,.inr (.inl ⟨by simp[Cx.uZ,F],_,_,_,_,e⟩)⟩
  |false=>
   refine(zX h M fr nr y F).L λj w'⟨A,W⟩=>⟨A,?_⟩;obtain⟨c,P,S,Y,Z,e,_⟩|⟨H,e⟩:=W
   .exact .inl ⟨by simp only[Cx.uZ,y,F,fb,cK];exact⟨c,P,S⟩,_,_,_,_,e⟩
   refine .inr (.inr ⟨?_,e⟩);simp only[Cx.uZ,y,F,fb,dm];exact λc P=>by rw[H c P];simp
theorem ND(X:Cx)(fr nr)(A)(h:A.wh=5):X.jJ fr nr A=if X.uZ nr fr=true then X.gR A.ep else X:=by
 unfold Cx.jJ Cx.uZ
 cases F:X.c.M nr fr with
 |true=>simp[h]
 |false=>
  cases H:X.mv.a.M nr fr with
  |true=>simp[h]
  |false=>
   cases j:X.a.find? (λc=>c.q.M nr fr)with
   |none=>
    have:(X.a.any λc=>c.q.M nr fr)=false:=by rw[dm];exact λc y=>bU.1 j c y
    simp[this]
   |some c=>
    have:(X.a.any λc=>c.q.M nr fr)=true:=by rw[cK];exact⟨c,bu j,cR (p:=λc:jn=>c.q.M nr fr) j⟩
    simp[this,h]
theorem EF(h:jy w cP t p qb X V)(Z:100<=t)(hx:oM X)(hn:XN X)(hl:B4 X)(fr nr)(A)(h5:A.wh=5)(he:0<=A.ep/\A.ep<=1000000000000000)(va)(vc):iU 214 #[O p,I fr,I nr,sL A va vc] w λen w'=>en=iF/\CS w cP t p qb (X.jJ fr nr A) w':=by
 rw[ND X fr nr A h5];obtain⟨W,hW⟩:=gG (w.alloc (vK A va vc));have bW:=(Bl.refl w).alloc (vK A va vc);have F:=ao w (vK A va vc);rw[hW]at bW F;have H:=h.bl bW (fz:=cP) ib;obtain⟨⟨r0,r1,r2,r3,r4,r5,r6⟩,_,lr⟩:=GX F;have HA:=gN (M8 H hl fr nr);have a1:Hid (∀M,Bl W M->iU 250 #[ptr p,I A.ep] M λen w'=>en=iF/\CS w cP t p qb (X.gR A.ep) w'):=λM hb=>(Cj (H.bl hb (fz:=cP) ib) Z hx hn A.ep he).L λen w'⟨e1,e2⟩=>⟨e1,CS.M (bW.H hb) e2⟩;have HF:Hid (∀M,Bl W M->CS w cP t p qb X M):=λM hb=>CS.D ⟨V,h⟩ (bW.H hb);have HW:=gN hW;rw[h5]at r0;obtain⟨Y,P⟩:=gG (if X.uZ nr fr=true then X.gR A.ep else X);rw[P];clear h H hW bW F hx hn hl he;unfold sL;unfold vK at HW;rw[h5]at HW|-;clear h5;go_enter func214,ntmps214;go_upto_region 1 with fail;rw[HW.o];clear HW;go_wp2_with fail;refine HA.L ?_;rintro en w2⟨j,⟨S,g,o,f,a,rfl⟩|⟨S,g,o,f,a,rfl⟩|⟨S,rfl⟩⟩;iterate 2
  .rw[aE S]at P;have y:=gN (a1 _ j);rw[P]at y;obtain⟨s0,s1⟩:=j.D lr r0 r1;have a3:=af lr j.lt;clear P j HA r0 r1 S;go_wp2_with(go_at_call 250;refine jA y λw5 a2=>?_);go_end0;exact⟨rfl,a2⟩
 rw[az (om S)]at P;have a0:=gN (HF _ j);rw[P]at a0;clear P j HA S;go_wp2;first
  |go_end0
  |((try simp only[Exit.inBlock,Exit.then]);refine aG (v:= .tuple #[]) (by simp[results,results214,go_sem]) rfl ?_)
 exact⟨rfl,a0⟩
theorem BS(h:jy w cP t p qb X V)(a9:100<=t)(hl:B4 X)(fr nr)(hw:X.c.M nr fr=false)(hs:X.mv.a.M nr fr=true)(A)(h5:A.wh≠5)(ho:MC {X with mv:={X.mv with a:=X.mv.a.add fr A}})(va)(vc)(ht:Rd w cP (t+3) 5 (gK va A.ct.val.length vc) (A.ct.val.map B8)):iU 214 #[O p,I fr,I nr,sL A va vc] w λen w'=>en=iF/\CS w cP t p qb (X.jJ fr nr A) w':=by
 have ak:Hid (X.jJ fr nr A=({X with mv:={X.mv with a:=X.mv.a.add fr A}}:Cx).ld):=by unfold Hid Cx.jJ;rw[az (om hw),aE hs,az h5]
 obtain⟨W,hW⟩:=gG (w.alloc (vK A va vc));have bW:=(Bl.refl w).alloc (vK A va vc);have Z:=ao w (vK A va vc);rw[hW]at bW Z;have a0:=h.bl bW (fz:=cP) ib;obtain⟨⟨r0,r1,r2,r3,r4,r5,r6⟩,_,lr⟩:=GX Z;obtain⟨HA,HW,al⟩:=iI (yV a0 hl fr nr hw hs) hW a0;obtain⟨Ht,aa,BW⟩:=iI (ht.bl bW (fz:=cP) λ_ _ e=>e) (pW hs) bW;have ap:(A.wh==5)=false:=je h5;obtain⟨Hh,Ho⟩:=gO h ho;clear h a0 hW bW Z ht ho;unfold sL;unfold vK at HW;go_enter func214,ntmps214;go_upto_region 1 with fail;rw[HW.o];clear HW;go_wp2_with(go_at_call 249;refine gS HA λP j=>?_;have a1:=al.bl j (fz:=cP) ib;have aq:=a1.A;obtain⟨s0,s1,s2,s3⟩:=j.N lr r0 r1 r2 r3;obtain⟨s4,s5,s6⟩:=j.M lr r4 r5 r6;have a2:=af lr j.lt;obtain⟨a3,am⟩:=gO j a1;clear j a1);obtain⟨_,_,S,ab⟩:=aa.o;have ac:oN.ev P.drew cP (t+3) A (sL A va vc):=⟨_,rfl,Ht.bl (a3.drew) λ_ _ e=>e⟩;obtain⟨Y,iC,l,ad,a4,a5,a6,ho⟩:=(am.bl ((Bl.refl P).drew) (fz:=cP) ib).Zx ab S A _ ac;have ag:P.cell? (U p 40)=some (.map (some Y)):=ad;have a7:=pU P Y iC l a4 fr (sL A va vc) a5;have F:=pU P.drew Y iC l a4 fr (sL A va vc) a5;have ai:Y≠w.heap.size:=λe=>by have y:=((BW.H a3).cell Hh.A).H (Hh.cellAt 40 rfl);rw[ag]at y;have:=(Hh.r.sl.D.map (b:=Y) (by simpa using y.symm)).1;omega
 have L:gI (λb=>b=Y) P.drew (rI P.drew Y iC l fr (sL A va vc)):=kS _ _ _;obtain⟨W3,a8⟩:=gG (rI P.drew Y iC l fr (sL A va vc));have M:_=Result.ok () W3:=F.H (by rw[<-a8]);rw[a8]at a6 ho L;have ar:w.heap.size<W3.heap.size:=af a2 L.size;obtain⟨t0,t1,t2,t3⟩:=L.N a2 (Ne.symm ai) s0 s1 s2 s3;obtain⟨t4,t5,t6⟩:=L.M a2 (Ne.symm ai) s4 s5 s6;obtain⟨HF,HO⟩:=gO (MW a6 a9 Ho A.wh A.ep A.mark A.ct.kd A.ct.cl A.ct.ca va A.ct.val.length vc) ho;unfold sL at a7 M;clear ho L a8 a4 a5 ac a6 F ad S ab;go_region;all_goals
  go_wp2_with(go_at_call 271;refine jA HF λw5 an=>?_);go_end0;refine⟨rfl,?_⟩;rw[ak.o];exact CS.M (BW.H (a3.drew)) (CS.gR HO an)
structure XG(X:Cx)(fr nr:Int)(A:An):Prop where
 x:oM X
 n:XN X
 q:B4 X
 nk:JP X
 ep:0<=A.ep/\A.ep<=1000000000000000
 w4:A.wh≠4
 se:X.mv.a.M nr fr=true->MC {X with mv:={X.mv with a:=X.mv.a.add fr A}}
 go:∀c∈X.a,c.q.M nr fr=true->TK (X.put {c with q:=c.q.add fr A}) {c with q:=c.q.add fr A}
theorem JD(h:jy w cP t p qb X V)(y:100<=t)(fr nr)(A)(j:XG X fr nr A)(va)(vc)(H:Rd w cP (t+3) 5 (gK va A.ct.val.length vc) (A.ct.val.map B8)):iU 214 #[O p,I fr,I nr,sL A va vc] w λP w'=>P=iF/\CS w cP t p qb (X.jJ fr nr A) w':=by
 by_cases F:A.wh=5
 .exact EF h y j.x j.n j.q fr nr A F j.ep va vc
 cases L:X.c.M nr fr with
 |true=>exact BK h j.q fr nr L A F va vc H
 |false=>
  cases M:X.mv.a.M nr fr with
  |true=>exact BS h y j.q fr nr L M A F (j.se M) va vc H
  |false=>exact DJ h y j.x j.q j.nk fr nr L M A F j.w4 j.go va vc H
def sJ.only(h:sJ w v ds)(y:gI T w w')(F:∀b,v.ownBlock=some b->¬T b):sJ w' v ds:=by obtain⟨b,o,c,rfl,A,L,M,P⟩:=h;exact⟨b,o,c,rfl,af A y.size,L,M,λj d S=>(y.cell A (F b rfl)).H (P j d S)⟩
def sJ.D(h:sJ w v ds):∃a c,v=gK a ds.length c:=by obtain⟨b,o,c,rfl,_⟩:=h;simp_all
def sJ.lt(h:sJ w v ds):∀b,v.ownBlock=some b->b<w.heap.size:=by obtain⟨b,o,c,rfl,y,_⟩:=h;intro b' j;simp only[Value.ownBlock,aJ]at j;omega
def AI{h val:List Int}(A:0<=kd)(F:kd<=255)(H:h.length<=255)(L:val.length<=255)(M:∀d∈val,0<=d/\d<=255):∀d∈j5 kd h val,0<=d/\d<=255:=by
 intro d hd;unfold j5 at hd;simp only[aT,bh,eB,dB,or_false]at hd;obtain (rfl|rfl|rfl)|⟨x,_,y⟩|hd:=hd
 .omega
 .omega
 .omega
 .unfold te at y;obtain⟨j,_,rfl⟩:=aD.1 y;exact wN x j
 simp_all
theorem Ki(h:jy w cP t p qb X V)(y:100<=t)(fr nr)(A)(hR:XG X fr nr A)(v)(hv:sJ w v (j5 101 [nr,A.wh,A.ep,A.mark,A.ct.kd,A.ct.cl,A.ct.ca] A.ct.val))(S:Rc.Ok xI ⟨101,[nr,A.wh,A.ep,A.mark,A.ct.kd,A.ct.cl,A.ct.ca],A.ct.val⟩)(Y:∀b,v.ownBlock=some b->¬Mc t (cP b)):iU 162 #[O p,I fr,v] w λen w'=>en=iF/\CS w cP t p qb (X.jJ fr nr A) w':=by
 have HR:=gN (BN v nr A.wh A.ep A.mark A.ct.kd A.ct.cl A.ct.ca A.ct.val w hv S);have Z:∀d∈j5 101 [nr,A.wh,A.ep,A.mark,A.ct.kd,A.ct.cl,A.ct.ca] A.ct.val,0<=d/\d<=255:=AI bT bT bz S.v1 S.ZE;have F:(j5 101 [nr,A.wh,A.ep,A.mark,A.ct.kd,A.ct.cl,A.ct.ca] A.ct.val).length<=1100000000000:=by exact aF (JU S) bT
 have HV:Hid (∀W,sJ W v (j5 101 [nr,A.wh,A.ep,A.mark,A.ct.kd,A.ct.cl,A.ct.ca] A.ct.val)->_):=λW hW=>Fj v _ W hW (by simp[j5]) F Z (by simp[j5]);obtain⟨Hh,Hp,a6⟩:=iI h hv Y;obtain⟨a7,a0⟩:=gO hR y;obtain⟨vb,a1,a8⟩:=hv.D;subst a8;clear h hv S Y Z hR F y;generalize (j5 101 [nr,A.wh,A.ep,A.mark,A.ct.kd,A.ct.cl,A.ct.ca] A.ct.val)=ds at*;go_enter func162,ntmps162;go_wp2_with fail;refine HR.L ?_;rintro en w1⟨va,vc,rfl,H,L⟩;have bX:=(Bl.refl w1).alloc (vK A va vc);have j:∀b,b<w.heap.size->ir cP w.heap.size (t+3) b=cP b:=λb P=>gV _ _ _ _ P;have HO:=gN j;have a2:=Hh.bl (H.H bX) (fz:=ir cP w.heap.size (t+3)) j;obtain⟨HP,M⟩:=gO (JD a2 a0 fr nr A a7 va vc ((Rd.qW (cP:=ir cP w.heap.size (t+3)) (t:=t+3) L λb P=>jc _ _ _ _ (L.lt b P).1).bl bX λ_ _ e=>e)) (H.H bX);unfold sL at HP;unfold vK at HP bX M;clear HR H L a2 bX j;go_wp2_with(go_at_call 214;refine gS HP λw2 hs=>?_;have HS:=gN hs;clear hs HP);have a3:sJ w2 (mP vb ds a1) ds:=by
  obtain⟨_,_,_,o2⟩:=HS.o;exact(Hp.bl M).only o2 (λb P e=>by
   rw[HO.o b (Hp.lt b P)]at e
   exact a6 b P e)
 have a4:=gN (HV w2 a3);clear a3 HV;refine gS a4 λw3 a5=>?_;have a9:=gN a5;clear a4 a5;go_wp2;go_end0;exact⟨rfl,CS.BL M HO (HS.post (a9.alloc _))⟩
structure Yk(X:Cx)(fr nr lt:Int)(v:Vo):Prop where
 x:oM X
 n:XN X
 l1:X.mv.A.nodes.length<=100
 jt:0<=lt/\lt<=1000000000000000
 l2:(X.gR lt).mv.A.nodes.length<=100
 h7:(X.gR lt).mv.A.M nr fr=true->(X.gR lt).mv.A.A.kd=7->QY ((X.gR lt).pg fr v)
 h5:(X.gR lt).mv.A.M nr fr=true->(X.gR lt).mv.A.A.kd=5->MC ((X.gR lt).pg fr v)
 h6:(X.gR lt).mv.A.M nr fr=true->(X.gR lt).mv.A.A.kd=6->G1 ((X.gR lt).pg fr v)/\nX (X.gR lt).mv.value
theorem Nl(h:jy w cP t p qb X V)(A:100<=t)(fr nr lt)(u)(hR:Yk X fr nr lt u)(v)(hv:sJ w v (j5 102 [nr,lt,u.wh,u.pr,u.ba] u.val))(L:Rc.Ok xW ⟨102,[nr,lt,u.wh,u.pr,u.ba],u.val⟩):iU 162 #[O p,I fr,v] w λen w'=>en=iF/\CS w cP t p qb (X.kK fr nr lt u) w':=by
 have M:∀d∈j5 102 [nr,lt,u.wh,u.pr,u.ba] u.val,0<=d/\d<=255:=AI bT bT bz L.v1 L.ZE;have F:(j5 102 [nr,lt,u.wh,u.pr,u.ba] u.val).length<=1100000000000:=by exact aF (JU L) bT
 have HR:=gN (Ew v _ w hv (by simp[j5]) F M (by simp[j5]));have HV:Hid (∀W,sJ W v (j5 102 [nr,lt,u.wh,u.pr,u.ba] u.val)->_):=λW P=>Ea v nr lt u.wh u.pr u.ba u.val W P L;obtain⟨Hh,Hp,j,S⟩:=kN h hv hR A;obtain⟨vb,a5,a2⟩:=hv.D;subst a2;clear h hv L M hR F A;generalize (j5 102 [nr,lt,u.wh,u.pr,u.ba] u.val)=ds at*;go_enter func162,ntmps162;go_wp2_with fail;refine gS HR λw1 Y=>?_;have a3:=gN Y;clear HR Y;obtain⟨W,P⟩:=gG (w1.alloc Mo);have bW:=a3.alloc Mo;rw[P]at bW;obtain⟨Z,BW,HW⟩:=iI (HV W (Hp.bl bW)) bW P;clear HV P bW;go_wp2_with fail;rw[HW.o];refine Z.L ?_;rintro en w2⟨va,vc,rfl,a0,H⟩;have bX:=(Bl.refl w2).alloc (ig #[I u.wh,I u.pr,I u.ba,gK va u.val.length vc] 222);have y:∀b,b<w.heap.size->ir cP w.heap.size (t+3) b=cP b:=λb hb=>gV _ _ _ _ hb;have bb:=BW.H (a0.H bX);have a1:=Hh.bl bb (fz:=ir cP w.heap.size (t+3)) y;obtain⟨HP,HO,a4⟩:=iI (QS a1 S j.x j.n j.l1 fr nr lt j.jt u va vc ((Rd.qW (cP:=ir cP w.heap.size (t+3)) (t:=t+3) H λb hb=>jc _ _ _ _ (aF BW.lt (H.lt b hb).1)).bl bX λ_ _ e=>e) j.l2 j.h7 j.h5 j.h6) y bb;unfold Vk ptr at HP;clear Z a0 H a1 bX y bb;go_wp2_with(go_at_call 216;refine gS HP λw3 hs=>?_;have HS:=gN hs;clear hs HP);go_end0;exact⟨rfl,CS.BL a4 HO HS⟩
theorem ym(fr)(v)(Q:World->Prop)(h:iU 162 #[O p,I fr,v] w λj w'=>j=iF/\Q w'):iU 102 #[O p,I fr,v] w λj w'=>j=iF/\Q w':=by
 have H:=gN h;clear h;go_enter func102,ntmps102;go_wp2_with fail;refine gS H λw' y=>?_;have A:=gN y;clear H y;go_wp2;go_end0;exact⟨rfl,A⟩
def NC(h:List Int)(w)(base)(A:w.ownsRow base 3 1 v h.length (h.map I))(hn:h.length<=100):iU 95 #[v] w λe w'=>e=iF/\gI (λk=>v.ownBlock=some k) w w'/\w'.ownsRow base 3 1 v h.length ((h.mergeSort leI).map I):=by
 obtain⟨F,H⟩|⟨M,j,P,S,W,y,Y,Z,hs,ht⟩:=A.2
 .subst F;have hz:h=[]:=List.eq_nil_of_length_eq_zero H;subst hz;refine(C7 none 0 w).L ?_;rintro e w'⟨rfl,rfl⟩;exact⟨rfl,vO,je A⟩
 subst S;refine(Any.slices_Sort_int Tryz.L5 M 0 j h w (holds_of_blockI y (je ht)) (ae.1 y).1 C).L ?_;rintro e w'⟨rfl,n,os,rfl⟩;exact⟨rfl,(gI.A (grownBy_sortedI _)).L λk _ e=>by simpa [Value.ownBlock]using e.symm,ownsRow_sortedI (by rw[List.length_mergeSort]) W y Y Z hs⟩
theorem WJ{bm iC:Nat}(c8:w.cell? (U p 8)=some (.map (some bm)))(_lp:p<w.heap.size)(hm:w.heap[bm]?=some (.map es iC))(bo:∀x∈es.toList,x.born<iC)(nd:(es.toList.map (·.born)).Nodup)(hv:∀x∈es.toList,x.key=I (ke x)/\∃q,x.val= O q/\∀W,Bl w W->iU 94 #[O q] W λe w'=>e=gU (.bool (wn x))/\w'=W)(hs:es.size<=8):iU 51 #[O p] w λen w'=>∃v,en=gU v/\w'.ownsRow w.heap.size 3 1 v (es.toList.filter wn).length ((((es.toList.filter wn).map ke).mergeSort leI).map I)/\Bl w w':=by
 obtain⟨i3,ji,ab,ac,ad⟩:=fx Tryz.tJ;obtain⟨HM,ag,ai⟩:=iI hm bo nd;obtain⟨HV,HS⟩:=gO hv hs;have lm:=(ae.1 hm).1;clear hm bo nd hv hs;go_enter func51,ntmps51;go_wp2_with(at_range;refine kR _ rfl _ 98 rfl 3 163 underlying98 bm es iC rfl HM ag ai ?_;intro hI;generalize hr:w.heap.size=r at hI|-;obtain⟨HI,HR⟩:=gO hI hr;clear hr hI);go_frame;go_loopw[3](λv wr=>∃(h:List MapEntry) (y:List Int),Hid (Bl w wr)/\Hid (wr.ownsRow r 3 1 v y.length (y.map I))/\Hid (y.Perm ((h.filter wn).map ke))/\Hid (It wr r bm es iC h)) λ_ wr=>es.size-(wr.iterSeen r).size
 case atStart=>exact⟨[],[],jZ.alloc _,m7,fK _,HI⟩
 obtain⟨h,y,HB,HG,HZ,HJ⟩:=hrel;go_wp2_with(at_next;refine lJ _ rfl _ rfl r bm iC es h rfl HJ ?_ ?_)
 .intro h0;have a1:y.Perm ((es.toList.filter wn).map ke):=HZ.H ((h0.filter wn).map ke);have hl:y.length=(es.toList.filter wn).length:=by rw[a1.length_eq];simp
  have ak:(es.toList.filter wn).length<=8:=aF (bF _ _) (je HS.o);have a0:=mergeSort_of_perm_i a1;have HC:=gN (NC y wr r HG C);rw[a0,hl]at HC;have al:=gN HG.lt;clear a0 hl ak a1;go_wp2_with fail;refine HC.L ?_;rintro en w2⟨rfl,a6,a7⟩;obtain⟨am,an⟩:=gO a6 a7;clear a6 a7;go_wp2;go_ret;have ap:=HR.o;subst ap;exact⟨_,rfl,an,HB.A am λk e=>(al k e).1⟩
 intro e W he L hO aq;obtain⟨ar,q,hq,a8⟩:=HV e (je he);rw[hq,ar]at aq|-;have Y:Bl w W:=HB.A hO λb hb=>gM HR.o;have HC:=gN (a8 W Y);have Z:W.ownsRow r 3 1 u3 y.length (y.map I):=hO.jH HG λg e e'=>by obtain⟨cc,j⟩:=qf HG g e;have:=HJ.it;rw[e']at j;rw[this]at j;simp at j
 have a9:Hid (u3.ownBlock≠some r/\u3.ownBlock≠some bm):=⟨λe=>by
  obtain⟨cc,j⟩:=qf Z _ e
  rw[L.it]at j;simp at j,λe=>by
  obtain⟨cc,j⟩:=qf Z _ e
  rw[L.mp]at j;simp at j⟩
 obtain⟨a2,HO,a3,aa⟩:=kN L hO Z Y;have au:y.length+1<=9:=by have h1:=HZ.length_eq;have h2:=HJ.len;have h3:=HS.o;have h4:=bF wn h;rw[ay]at h1;omega
 have av:Hid (y.length+1<=maxLen):=nZ;have aw:Hid ((y.length+1)*8<=140737488355328):=nC;have aY:=gN L.lr;have b2:=Y.lt;have M:Hid (∀w3:World,It w3 r bm es iC (e::h)->es.size-(w3.iterSeen r).size<es.size-(wr.iterSeen r).size):=λw3 h3=>by
  have e1:w3.iterSeen r=((e::h).map (·.born)).reverse.toArray:=by unfold World.iterSeen;rw[h3.it]
  have e2:wr.iterSeen r=(h.map (·.born)).reverse.toArray:=by unfold World.iterSeen;rw[HJ.it]
  have:=h3.len;rw[e1,e2];simp at this|-;omega
 clear Z Y L hO he HG a8 au
 cases F:wn e with
 |false=>
  rw[F]at HC;have a4:=gN F;clear F;go_wp2_with(go_at_call 94;refine HC.L ?_;rintro en w2⟨rfl,rfl⟩);go_roundw
  case rel=>exact⟨e::h,y,aa,a3,by unfold Hid;rw[cT,az (om a4.o)];exact HZ,a2⟩
  exact M _ a2
 |true=>
  rw[F]at HC;have a4:=gN F;clear F;go_wp2_with fail;refine HC.L ?_;rintro en w2⟨rfl,rfl⟩;generalize hk:ke e=kk at*;have Hk:=gN hk;clear hk;go_wp2_with(at_builtin;refine fm _ rfl _ _ 24 rfl r 3 i3 (I 0) 1 8 underlying24 ji ab ac ad rfl bT u3 y.length _ rfl (a3.alloc _) (U w2.heap.size 0) 1 1 [I kk] rfl rfl (ZV _ _ _) tx bT av aw (by have:=aY.o;simp;omega) (w2.heap.size+1) bz ?_);intro g' cap w3 P S b0 b1;have O3:=gI.A S;have b3:Bl w w3:=(aa.alloc _).A O3 λk e=>by have:=(a3.lt k e.symm).1;have:=HR.o;omega
  have r3:It w3 r bm es iC (e::h):=(a2.bl ((Bl.refl w2).alloc _)).only O3 (λe=>a9.1 e.symm) λe=>a9.2 e.symm;have a5:Hid (w3.ownsRow r 3 1 (gK (G g') (y.length+1) cap) (y++[kk]).length ((y++[kk]).map I)):=by unfold Hid;simpa using P
  obtain⟨R3,B3⟩:=gO r3 b3;clear P S b0 O3 b3 r3;go_wp2;go_roundw
  case rel=>refine⟨e::h,y++[kk],B3,a5,?_,R3⟩;unfold Hid;rw[cT,aE a4.o,bj,Hk.o];exact(gk).H (HZ.cons kk)
  case measure=>exact M _ R3
theorem Ga(h:jy w cP t p qb X V)(Y:X.a.length<=8)(Z:∀c∈X.a,c.q.nodes.length<=100):iU 51 #[O p] w λP w'=>∃v,P=gU v/\w'.ownsRow w.heap.size 3 1 v X.iX.length (X.iX.map λ(n:Nat)=>I (n:Int))/\Bl w w':=by
 have y:∀x∈(NB X qb V).toList,∃c∈X.a,x=(kU qb V.bo c).A:=λx F=>by obtain⟨e,he,rfl⟩:=my F;obtain⟨c,j,rfl⟩:=aD.1 he;exact⟨c,j,rfl⟩
 have e1:(NB X qb V).toList=X.a.map λc=>(kU qb V.bo c).A:=by simp[ie,Function.comp_def]
 obtain⟨wn,H⟩:∃wn:MapEntry->Bool,∀c∈X.a,wn (kU qb V.bo c).A=Cx.lD c:=by
  refine⟨λx=>((X.a.find? λc=>Go.RowKit.intOf x.key==((c.gL:Nat):Int)).map Cx.lD).getD false,λc j=>?_⟩;have:X.a.find? (λd=>((c.gL:Nat):Int)==((d.gL:Nat):Int))=some c:=by
   cases e:X.a.find? (λd=>((c.gL:Nat):Int)==((d.gL:Nat):Int))with
   |none=>have:=bU.1 e c j;simp at this
   |some d=>have M:=cR (p:=λd:jn=>((c.gL:Nat):Int)==((d.gL:Nat):Int)) e;simp at M;rw[rS h.r.a.gL (bu e) j C]
  show((X.a.find? λd=>((c.gL:Nat):Int)==((d.gL:Nat):Int)).map Cx.lD).getD false=Cx.lD c;rw[this];rfl
 have S:((NB X qb V).toList.filter wn)=(X.a.filter Cx.lD).map λc=>(kU qb V.bo c).A:=by rw[e1,dZ];congr 1;exact dH λc j=>H c j
 have hl:((NB X qb V).toList.filter wn).length=X.iX.length:=by rw[S];simp[Cx.iX]
 have hk:(((NB X qb V).toList.filter wn).map λx=>Go.RowKit.intOf x.key)=X.iX.map λ(n:Nat)=>(n:Int):=by rw[S,br];unfold Cx.iX;rw[br];rfl
 have hs:(X.iX.map λ(n:Nat)=>(n:Int)).mergeSort leI=X.iX.map λ(n:Nat)=>(n:Int):=by refine fI ?_;unfold Cx.iX;rw[br,cj];refine(h.r.a.gL.filter _).imp fun{a b} hh=>?_;unfold leI;simp;omega
 refine(WJ (ke:=λx=>Go.RowKit.intOf x.key) (wn:=wn) (h.cellAt 8 rfl) h.A h.r.mp (λx F=>?_) ?_ (λx F=>?_) (by simpa [ie]using Y)).L ?_
 .obtain⟨c,j,rfl⟩:=y x F;exact h.r.bo c j
 .have:(NB X qb V).toList.map (·.born)=X.a.map λc=>V.bo c.gL:=by simp[ie,Function.comp_def,Ae.A,kU]
  rw[this];exact h.r.bn
 .obtain⟨c,j,rfl⟩:=y x F;refine⟨rfl,qb c.gL,rfl,λW hW=>?_⟩;obtain⟨cv,k⟩:=(h.bl hW (fz:=cP) ib).r.f c j;rw[H c j];exact qT k (Z c j)
 rintro P w'⟨v,rfl,M,h2⟩;rw[hl,hk,hs,br]at M;exact⟨v,rfl,M,h2⟩
def jn.tU(c:jn):jn:={c with q:={c.q with mi:=true}}
def Cx.B6(X:Cx)(s:List Int):Cx:={X with a:=X.a.map λc=>if s.contains (c.gL:Int)then c.tU else c}
def Cx.RP(X:Cx):X.B6 []=X:=by unfold Cx.B6;simp
def Cx.Qa(X:Cx)(s)(h:∀c∈X.a,(c.gL:Int)∈s):X.B6 s={X with a:=X.a.map jn.tU}:=by unfold Cx.B6;simp_all
def Cx.Mk(X)(h:uf X)(j:c∈X.a)(s):X.B6 ((c.gL:Int)::s)=(X.B6 s).put (if s.contains (c.gL:Int)then c.tU else c).tU:=by
 have y:(if s.contains (c.gL:Int)then c.tU else c).tU=c.tU:=by split<;>rfl
 rw[y];unfold Cx.B6 Cx.put;simp only[br];congr 1;refine bf λd A=>?_;simp only[Function.comp_apply];by_cases e:d.gL=c.gL
 .have:=rS h.gL A j e;subst this;rw[aE bz,aE (by split<;>simp[jn.tU])]
 have F:¬(if s.contains (d.gL:Int)then d.tU else d).gL=c.tU.gL:=by split<;>simpa [jn.tU]using e
 rw[az F];have:((c.gL:Int)::s).contains (d.gL:Int)=s.contains (d.gL:Int):=by rw[List.contains_cons];have:((d.gL:Int)==(c.gL:Int))=false:=ik;rw[this,fb]
 rw[this]
def Cx.F5(X:Cx)(h:c∈X.a)(s):(if s.contains (c.gL:Int)then c.tU else c)∈(X.B6 s).a:=aD.2 ⟨c,h,rfl⟩
def jy.tU(h:jy w cP t p qb X V)(j:c∈X.a):jy (w.setCell (U (qb c.gL) 27) (.bool true)) cP t p qb (X.put c.tU) V/\gI (λb=>Mc t (cP b)) w (w.setCell (U (qb c.gL) 27) (.bool true)):=by obtain⟨cv,k⟩:=h.r.f c j;have y:gI _ w (w.setCell (U (qb c.gL) 27) (.bool true)):=(gI.refl (λb=>b=qb c.gL) w).setCell (U (qb c.gL) 27) (.inl rfl) _;exact h.T5 j k y (k.A y (jO 27 _ w _ k.hq) rfl k.ij k.d k.e ⟨k.q.val,k.q.nodes,k.q.D,k.q.nil⟩) rfl rfl
def jy.WD(h:jy w cP t p qb X V):jy (lT ((w.setCell (U p 54) (.bool X.wb)).setCell (U p 22) (I 0)) p 24 (tY 0 false)) cP t p qb {X with wl:=X.wb,A:=0,mv:=Mv.zero} {V with bg:= .map none,b:= OO,sl:=QV.zero,vt:=QV.zero}:=by
 have j:jy _ cP t p qb {X with wl:=X.wb,A:=0} V:=
  h.uV (((gI.refl (λb=>b=p) w).setCell (U p 54) (.inl rfl) _).setCell (U p 22) (.inl rfl) _) (jO 22 _ _ _ (jO 54 _ w _ h.hp)) ⟨h.r.lay,h.r.e,h.r.tb,h.r.mp,h.r.bo,h.r.bn,h.r.pr,h.r.sl,h.r.vt,h.r.bg,h.r.b,h.r.f,h.r.a.gL,h.r.a.lt,h.r.a.a,h.r.a.A⟩
 exact j.zx 0 false
theorem TC(h:jy w cP t p qb X V)(an:100<=t)(hx:oM X)(hn:XN X)(ha:X.gJ<=999999999999999)(hr:X.e.length<=1000000000)(h8:X.a.length<=8)(hq:∀c∈X.a,c.q.nodes.length<=100):iU 97 #[O p] w λen w'=>en=iF/\CS w cP t p qb X.kG w':=by
 obtain⟨X1,M⟩:∃X1:Cx,X1={X with wl:=X.wb,A:=0,mv:=Mv.zero}:=⟨_,rfl⟩;obtain⟨Y,hY⟩:∃Y:Cx,Y={X1 with a:=X1.a.map jn.tU}:=⟨_,rfl⟩;have hT:X.kG=(if(if Y.iX.length<Y.a.length then Y.jX else Y).iJ then(if Y.iX.length<Y.a.length then Y.jX else Y).iB else(if Y.iX.length<Y.a.length then Y.jX else Y)):=by subst hY M;rfl
 have b5:oM Y:=by subst hY M;exact⟨hx.oE,hx.ll,hx.ne,hx.a0,hx.a1⟩
 have b6:oM Y.jX:=by subst hY M;exact⟨hx.oE,hx.ll,hx.ne,by show 0<=X.gJ+1;have:=hx.a0;omega,by show X.gJ+1<=_;omega⟩
 have al:XN Y:=by subst hY M;exact⟨hn.e,by show(0:Int)<=0/\(0:Int)<=_;omega⟩
 have b7:XN Y.jX:=⟨al.e,al.t⟩;have b8:Y.e.length<=1000000000:=by subst hY M;exact hr
 have b9:Y.a.length<=8:=by subst hY M;simpa using h8
 have ba:∀c∈Y.a,c.q.nodes.length<=100:=by subst hY M;intro c hc;obtain⟨d,hd,rfl⟩:=aD.1 hc;exact hq d hd
 have H1:=h.WD;rw[<-M]at H1;generalize ({V with bg:= .map none,b:= OO,sl:=QV.zero,vt:=QV.zero}:CV)=V1 at H1;have O1:gI (λb=>b=p) w (lT ((w.setCell (U p 54) (.bool X.wb)).setCell (U p 22) (I 0)) p 24 (tY 0 false)):=kD (S:=λb=>b=p) (.inl rfl) (tY 0 false) 24 _ (((gI.refl (λb=>b=p) w).setCell (U p 54) (.inl rfl) _).setCell (U p 22) (.inl rfl) _);have au:=h.nF O1;obtain⟨W1,av⟩:=gG (lT ((w.setCell (U p 54) (.bool X.wb)).setCell (U p 22) (I 0)) p 24 (tY 0 false));rw[av]at H1 au;obtain⟨c0,c1⟩:=h.R 53 22 rfl;have c2:=h.N 22;have c3:=h.cellAt 54 rfl;have c4:=h.N 54;have bb:Hid (((w.setCell (U p 54) (.bool X.wb)).setCell (U p 22) (I 0)).there p 24 (tY 0 false).toArray.size):=λj hj=>by have hh:=jO 22 (I 0) _ _ (jO 54 (.bool X.wb) w _ h.hp);refine⟨?_,aP _ p _ _ 114 hh⟩;rw[ax _ p _ _ 114 (0,0) hh];have:j<29:=hj;simp[ry];omega
 have lp:=h.A;obtain⟨bc,P,c5,HT⟩:=kN av H1 au hT;obtain⟨bd,c6,c7,c8⟩:=kN b5 b6 al b7;obtain⟨be,aw,c9⟩:=iI b8 b9 ba;obtain⟨HY,a2⟩:=gO hY an;clear h av H1 O1 au hT b5 b6 al b7 b8 b9 ba hY M hx hn hr h8 hq ha an;go_enter func97,ntmps97;have bi:(prog.info? 108).map (·.size)=some (tY 0 false).toArray.size:=iu;have ap:(tY 0 false).toArray.all (·.oneCell')=true:=iu;go_upto_region 2 with((show Go.wpList _ _ _ [{dst:=none,op:=Op.store 108 _ _,type:=_,pos:=_,after:=_,guard:=_}] _ _);refine wpList_store_mid rfl 108 (.tmp 19) (.tmp 15) rfl p 24 (tY 0 false).toArray rfl rfl bb bi ap ?_);have hE:((w.setCell (U p 54) (.bool X.wb)).setCell (U p 22) (I 0)).setCells p 24 (tY 0 false).toArray.toList=W1:=(wJ p _ 24 _).H bc;rw[hE];have d8:=P.cellAt 8 rfl;have cq:=P.A;have bl:=gN P.r.mp;have bn:Hid (∀x∈(ie (X1.a.map (kU qb V1.bo))).toList,x.born<V1.iC):=λx hx=>by obtain⟨e,he,rfl⟩:=my hx;obtain⟨c,hc,rfl⟩:=aD.1 he;exact P.r.bo c hc
 have bo:Hid (((ie (X1.a.map (kU qb V1.bo))).toList.map (·.born)).Nodup):=by
  have:(ie (X1.a.map (kU qb V1.bo))).toList.map (·.born)=X1.a.map λc=>V1.bo c.gL:=by simp[ie,Function.comp_def,Ae.A,kU]
  unfold Hid;rw[this];exact P.r.bn
 have ca:=P.r.lb;have cb:=gN P.r.tb;clear c1 c2 c3 c4 c0 bi ap bb bc hE;generalize bp:V1.bm=bm at*;generalize aq:V1.iC=iC at*;obtain⟨bq,co⟩:=gO bp aq;clear bp aq;obtain⟨es,aY⟩:=gG (ie (X1.a.map (kU qb V1.bo)));rw[aY]at bl bn bo;have bs:=gN aY;clear aY;go_wp2_with(at_range;refine kR _ rfl _ 98 rfl 3 163 underlying98 bm es iC rfl bl bn bo ?_;intro hI;generalize hr:W1.heap.size=r at hI|-;obtain⟨HI,HR⟩:=gO hI hr;clear hr hI);obtain⟨F,a3⟩:=gG (ir cP W1.heap.size 5);have a5:Hid (∀b,b<W1.heap.size->F b=cP b):=λb hb=>by rw[<-a3];exact gV _ _ _ _ hb
 have bv:Hid (F r=5):=by unfold Hid;rw[<-a3,<-HR.o];exact jc _ _ _ _ jr
 have cc:Hid (F bm=t+1):=(a5 bm ca).H cb;clear a3;go_frame;go_loopw[](λwr=>∃y:List MapEntry,Hid (jy wr F t p qb (X1.B6 (y.map λx=>Go.RowKit.intOf x.key)) V1)/\Hid (gI (λb=>Mc t (cP b)) W1 wr)/\Hid (It wr r bm es iC y)) λwr=>es.size-(wr.iterSeen r).size
 case atStart=>exact⟨[],by unfold Hid;rw[eT,Cx.RP];exact P.bl (jZ.alloc _) a5,(gI.refl _ W1).alloc _,HI⟩
 obtain⟨y,HC,HO,HJ⟩:=hrel;go_wp2_with(at_next;refine lJ _ rfl _ rfl r bm iC es y rfl HJ ?_ ?_)
 .intro h0;have bw:X1.B6 (y.map λx=>Go.RowKit.intOf x.key)=Y:=by rw[HY.o];refine Cx.Qa X1 _ λc hc=>aD.2 ⟨(kU qb V1.bo c).A,h0.mem_iff.2 ?_,rfl⟩;rw[<-bs.o];simp only[ie];exact aD.2 ⟨_,aD.2 ⟨c,hc,rfl⟩,rfl⟩
  have hK:=HC.o;rw[bw]at hK;have HK:=gN hK;have e8:=hK.cellAt 8 rfl;rw[bq.o]at e8;have cr:=hK.A;have b0:=hK.r.mp;rw[bq.o]at b0;have bx:=Qh wr bm _ _ b0;rw[ay]at bx;have bA:=gN (Ga hK aw c9);have HG:Hid (∀w2 Z,CS wr F t p qb Z w2->CS w cP t p qb Z w2):=λw2 Z hs=>CS.wA c5 ib (CS.wA HO a5 hs)
  clear hK b0 bw HC h0 d8 HJ;go_wp2_with fail;refine bA.L ?_;rintro en w2⟨v,rfl,bB,bC⟩;obtain⟨va,cp,rfl⟩:=jk bB;have a6:=gN bC;clear bA bB bC;have a7:=gN (HK.bl a6 (fz:=F) ib);have cd:=a7.A;by_cases hw:Y.iX.length<Y.a.length
  .rw[aE hw]at HT;have b1:=gN (BP a7 a2 bd);have ce:(Y.iX.length:Int)<(Y.a.length:Int):=C;clear hw;unfold ptr at b1;go_wp2_with fail;refine gS b1 λw3 bD=>?_;have a8:=gN bD;clear bD b1;obtain⟨tag3,a9,⟨V3,a0⟩,aa⟩:=a8.o;have a4:=gN (mS a0 (by exact be) (by exact aw));have HM:Hid (∀W,Bl w3 W->iU 93 #[ptr p] W λen w'=>en=iF/\CS w2 F t p qb (Y.jX).iB w'):=λW hW=>(pI (a0.bl hW (fz:=tag3) ib) a2 c6 c8).L λen w'⟨e1,e2⟩=>⟨e1,CS.wA aa a9 (CS.BL hW ib e2)⟩
   have cf:=a0.A;unfold ptr at a4 HM;clear a9 a0 aa;go_wp2_with fail;refine gS a4 λw4 ab=>?_;have ac:=gN ab;clear ab a4
   cases a1:(Y.jX).iJ with
   |false=>rw[a1,az bz]at HT;clear a1;go_wp2;go_end0;refine⟨rfl,?_⟩;rw[HT.o];exact HG _ _ (CS.M a6 (a8.post ac))
   |true=>rw[a1,aE rfl]at HT;have ad:=gN (HM w4 ac);clear a1 HM;go_wp2_with fail;refine gS ad λw5 ag=>?_;have b2:=gN ag;clear ag ad;go_wp2;go_end0;refine⟨rfl,?_⟩;rw[HT.o];exact HG _ _ (CS.M a6 b2)
  rw[az hw]at HT;have ce:¬(Y.iX.length:Int)<(Y.a.length:Int):=C;clear hw;obtain⟨w3,bE⟩:=gG w2;have a8:Hid (CS w2 F t p qb Y w3):=by rw[<-bE];exact CS.D ⟨V1,a7⟩ jZ
  obtain⟨tag3,a9,⟨V3,a0⟩,aa⟩:=a8.o;have a4:=gN (mS a0 (by exact be) (by exact aw));have HM:Hid (∀W,Bl w3 W->iU 93 #[ptr p] W λen w'=>en=iF/\CS w2 F t p qb (Y).iB w'):=λW hW=>(pI (a0.bl hW (fz:=tag3) ib) a2 bd c7).L λen w'⟨e1,e2⟩=>⟨e1,CS.wA aa a9 (CS.BL hW ib e2)⟩
  have cf:=a0.A;unfold ptr at a4 HM;clear a9 a0 aa;rw[bE]at cd|-;go_wp2_with fail;refine gS a4 λw4 ab=>?_;have ac:=gN ab;clear ab a4
  cases a1:(Y).iJ with
  |false=>rw[a1,az bz]at HT;clear a1;go_wp2;go_end0;refine⟨rfl,?_⟩;rw[HT.o];exact HG _ _ (CS.M a6 (a8.post ac))
  |true=>rw[a1,aE rfl]at HT;have ad:=gN (HM w4 ac);clear a1 HM;go_wp2_with fail;refine gS ad λw5 ag=>?_;have b2:=gN ag;clear ag ad;go_wp2;go_end0;refine⟨rfl,?_⟩;rw[HT.o];exact HG _ _ (CS.M a6 b2)
 intro e W he bR hO cg;obtain⟨c,hc,b3⟩:∃c∈X1.a,e=(kU qb V1.bo c).A:=by rw[<-bs.o]at he;obtain⟨e',ch,rfl⟩:=my (je he);obtain⟨c,hc,rfl⟩:=aD.1 ch;exact⟨c,hc,rfl⟩
 have ai:e.key=I (c.gL:Int):=by rw[b3];rfl
 have ar:e.val= O (qb c.gL):=by rw[b3];rfl
 rw[ai,ar]at cg|-;have b4:=HC.only hO (fz:=F) (λb _ e=>by rw[e,bv.o];have:=a2.o;omega) ib;obtain⟨K2,O2⟩:=b4.tU (X1.F5 hc (y.map λx=>Go.RowKit.intOf x.key));rw[<-Cx.Mk X1 P.r.a hc]at K2;have ak:(if(y.map λx=>Go.RowKit.intOf x.key).contains (c.gL:Int)then c.tU else c).gL=c.gL:=by split<;>rfl
 rw[ak]at K2 O2;obtain⟨cv,k⟩:=b4.r.f _ (X1.F5 hc (y.map λx=>Go.RowKit.intOf x.key));rw[ak]at k;have cs:=k.cellAt 27 rfl;have ct:=k.N 27;have lq:=k.lt;have tq:=k.tq;have am:Hid (qb c.gL≠r/\qb c.gL≠bm):=⟨λe=>by rw[e,bv.o]at tq;have:=a2.o;omega,λe=>by rw[e,cc.o]at tq;omega⟩;obtain⟨a7,ci,bV,ck⟩:=kN K2 O2 bR hO;have bW:Hid (gI (λb=>b=qb c.gL) W (W.setCell (U (qb c.gL) 27) (.bool true))):=(gI.refl (λb=>b=qb c.gL) W).setCell (U (qb c.gL) 27) (.inl rfl) _;have cl:Hid (Go.RowKit.intOf e.key=(c.gL:Int)):=by unfold Hid;rw[ai];rfl
 clear K2 O2 bR hO b4 k tq ai ar b3 he ak;generalize cn:qb c.gL=q at*;clear cn;go_wp2;go_roundw
 case rel=>
  refine⟨e::y,?_,?_,bV.only bW (λe=>am.1 e.symm) λe=>am.2 e.symm⟩
  .unfold Hid;rw[bj,cl.o];exact a7
  unfold Hid;have h1:gI (λb=>Mc t (cP b)) W1 W:=HO.andThen ck λb hb e=>gM HR.o;exact h1.andThen ci λb hb e=>by rw[<-a5.o b hb];exact e
 case measure=>
  have bX:=bV.only bW (λe=>am.1 e.symm) λe=>am.2 e.symm;have e1:(W.setCell (U q 27) (.bool true)).iterSeen r=((e::y).map (·.born)).reverse.toArray:=by unfold World.iterSeen;rw[bX.it]
  have e2:wr.iterSeen r=(y.map (·.born)).reverse.toArray:=by unfold World.iterSeen;rw[HJ.it]
  have:=bX.len;rw[e1,e2];simp at this|-;omega
structure sI(base:Nat)(w:World)(v:Value)(ps:List (Int×List Int))(xs:List Value):Prop where
 ij:w.ownsRow base 179 2 v ps.length xs
 kY:∀i z,ps[i]?=some z->xs[2*i]?=some (I z.1)/\∃u,xs[2*i+1]?=some u/\w.ownsRow base 5 1 u z.2.length (z.2.map B8)
 ap:∀i j u v b,i<j->xs[2*i+1]?=some u->xs[2*j+1]?=some v->u.ownBlock=some b->v.ownBlock≠some b
def sI.nil(base)(w):sI base w OO [] []:=⟨m7,λi z h=>mR h,λi j u v b _ h=>mR h⟩
def sI.only{base:Nat}(h:sI base w v ps xs)(A:gI T w w')(F:∀b,base<=b->b<w.heap.size->¬T b):sI base w' v ps xs:=
 ⟨A.jH h.ij λb j=>F b (h.ij.lt b j).1 (h.ij.lt b j).2,λi z H=>by
  obtain⟨L,u,M,y⟩:=h.kY i z H
  exact⟨L,u,M,A.jH y λb j=>F b (y.lt b j).1 (y.lt b j).2⟩,h.ap⟩
def sI.bl{base:Nat}(h:sI base w v ps xs)(j:Bl w w'):sI base w' v ps xs:=h.only (gI.D j) λ_ _ _ e=>e
def sI.push{base:Nat}{w2:World}{tt:Int}{cap:Nat}(h:sI base w v ps xs)(hb:Bl w w1)(hu:w1.ownsRow w.heap.size 5 1 u ds.length (ds.map B8))(F:base<=w.heap.size)(W:w2.ownsRow base 179 2 (gK (G g) (ps.length+1) cap) (ps.length+1) (xs++[I tt,u]))(M:(w1.alloc (ig #[I tt,u] 179)).grownBy w2 v.ownBlock):sI base w2 (gK (G g) (ps.length+1) cap) (ps++[(tt,ds)]) (xs++[I tt,u]):=by
 have y:xs.length=2*ps.length:=by have:=h.ij.1;omega
 have h1:=h.bl hb;have O2:gI (λb=>v.ownBlock=some b) w1 w2:=(gI.D ((Bl.refl w1).alloc _)).H ((gI.A M).L λk _ e=>e.symm);have nB:∀{m:Nat} {z:Value} {ys:List Value},w1.ownsRow base 5 1 z m ys->w2.ownsRow base 5 1 z m ys:=λA=>O2.jH A λb P e=>lH A h1.ij bT b P e;refine⟨by rw[aO];exact W,λi z A=>?_,λi j a c b a0 Y S Z=>?_⟩
 .by_cases jt:i<ps.length
  .rw[aB jt]at A;obtain⟨k1,u',k2,k3⟩:=h1.kY i z A;exact⟨by rw[aB C];exact k1,u',by rw[aB C];exact k2,nB k3⟩
  have hi:i=ps.length:=by have:=(aj.1 A).1;simp at this;omega
  subst hi;rw[aC jr]at A;simp at A;subst A;refine⟨by rw[aC C,y];simp,u,by rw[aC C,y];simp,nB (iE hu λb P=>aF F (hu.lt b P).1)⟩
 have a1:2*j+1<(xs++[I tt,u]).length:=(aj.1 S).1;simp[y]at a1;have a2:i<ps.length:=C;rw[aB C]at Y;by_cases jt:j<ps.length
 .rw[aB C]at S;exact h.ap i j a c b a0 Y S Z
 have hj:j=ps.length:=C;subst hj;rw[aC C,y]at S;simp at S;subst S;obtain⟨_,u',k2,k3⟩:=h.kY i ps[i] (ah a2);rw[k2]at Y;simp only[aJ]at Y;subst Y;intro e;have h1:=(k3.lt b Z).2;have h2:=(hu.lt b e).1;omega
def sI.app{base B:Nat}{v':Value}{ys:List Value}(h:sI base w v ps xs)(jt:∀i u b,xs[2*i+1]?=some u->u.ownBlock=some b->b<B)(k:sI B w u qs ys)(hB:base<=B)(P:w'.ownsRow base 179 2 v' (ps.length+qs.length) (xs++ys))(ho:gI (λb=>v.ownBlock=some b) w w'):sI base w' v' (ps++qs) (xs++ys):=by
 have y:xs.length=2*ps.length:=by have:=h.ij.1;omega
 have nB:∀{c m:Nat} {z:Value} {ls:List Value},w.ownsRow c 5 1 z m ls->w'.ownsRow c 5 1 z m ls:=λA=>ho.jH A λb Y e=>lH A h.ij bT b Y e;refine⟨by rw[aO];exact P,λi z A=>?_,λi j a c b Z S F H=>?_⟩
 .by_cases hl:i<ps.length
  .rw[aB hl]at A;obtain⟨k1,W,L,M⟩:=h.kY i z A;exact⟨by rw[aB C];exact k1,W,by rw[aB C];exact L,nB M⟩
  rw[aC C]at A;obtain⟨k1,W,L,M⟩:=k.kY _ z A;refine⟨?_,W,?_,nB (iE M λb hb=>aF hB (M.lt b hb).1)⟩
  .rw[aC C,y,<-Nat.mul_sub];exact k1
  rw[aC C,y,show 2*i+1-2*ps.length=2*(i-ps.length)+1 by omega];exact L
 by_cases hi:i<ps.length
 .rw[aB C]at S;by_cases hj:j<ps.length
  .rw[aB C]at F;exact h.ap i j a c b Z S F H
  rw[aC C,y,show 2*j+1-2*ps.length=2*(j-ps.length)+1 by omega]at F;intro e;have h1:=jt i a b S H;have a0:=(aj.1 F).1;have a1:ys.length=2*qs.length:=by have:=k.ij.1;omega
  obtain⟨_,W,L,M⟩:=k.kY (j-ps.length) qs[j-ps.length] (ah C);rw[F]at L;simp only[aJ]at L;subst L;have:=(M.lt b e).1;omega
 rw[aC C,y,show 2*i+1-2*ps.length=2*(i-ps.length)+1 by omega]at S;rw[aC C,y,show 2*j+1-2*ps.length=2*(j-ps.length)+1 by omega]at F;exact k.ap _ _ a c b C S F H
def sI.low{base:Nat}(h:sI base w v ps xs):∀i u b,xs[2*i+1]?=some u->u.ownBlock=some b->b<w.heap.size:=λi u b y A=>by
 have F:xs.length=2*ps.length:=by have:=h.ij.1;omega
 have:=(aj.1 y).1;obtain⟨_,L,j,H⟩:=h.kY i ps[i] (ah C);rw[y]at j;simp only[aJ]at j;subst j;exact(H.lt b A).2
def sI.one{base:Nat}(h:sI base w v ps xs):∀u∈xs,u.oneCell'=true:=λu L=>by
 have M:xs.length=2*ps.length:=by have:=h.ij.1;omega
 obtain⟨i,H,rfl⟩:=aV.1 L;have y:i/2<ps.length:=C;obtain⟨A,S,F,P⟩:=h.kY (i/2) ps[i/2] (ah y);by_cases W:i%2=0
 .have j:2*(i/2)=i:=C;rw[j,ah H]at A;simp only[aJ]at A;rw[A];rfl
 have j:2*(i/2)+1=i:=C;rw[j,ah H]at F;simp only[aJ]at F;rw[F];exact EH P
def nY{P:Program}(w){F:Array Oper}{A:List Oper}{o:Oper}{a:Act}(hg:o.guard=none)(s y)(t)(H:o.op=Op.call {callee:=Callee.builtin Builtin.append,args:=#[s,y],argTypes:=#[t,t]})(base)(e)(i)(z)(size bytes)(h1:P.underlying t=some (.slice e))(h2:P.info? e=some i)(h3:i.zero=some z)(h4:i.size=size)(h5:i.bytes=bytes)(h6:z.cells.size=size)(h7:0<size)(v)(n)(xs)(hs:a.eval s=v)(h:w.ownsRow base e size v n xs)(u)(m b0)(news)(hu:a.eval y=u)(M:w.ownsRow b0 e size u m news)(Z:∀q∈news,q.oneCell'=true)(b1:n+m<=maxLen)(b2:(n+m)*bytes<=140737488355328)(hb:base<=w.heap.size)(hK:∀S w',w'.ownsRow base e size S (n+m) (xs++news)->gI (λb=>v.ownBlock=some b) w w'->(∀b,S.ownBlock=some b->v.ownBlock=some b\/w.heap.size<=b)->wpList P F Q A (a.put o.dst S) w'):wpList P F Q (o::A) a w:=by
 obtain⟨a0,a1⟩|⟨g,cap,a2,W,_⟩:=M.2
 .have hl:=M.1;subst a1;obtain rfl:news=[]:=aW.1 C;refine wpList_append_own_none hg s y t H base e i size h1 h2 v n xs hs h (hu.H a0) ?_;exact hK v w (je h) vO λb hb=>.inl hb
 refine wpList_append_own_at w hg s y t H base e i z size bytes h1 h2 h3 h4 h5 h6 h7 v n xs hs h (U g 0) m cap news (hu.H W) M.1 (λj x hj=>?_) Z b1 b2 hb ?_
 .rw[nW,bP];subst W;rw[M.cellAt j (by have:=(aj.1 hj).1;have:=M.1;omega)];exact hj
 intro S w' r1 r2 _ r4;refine hK S w' r1 ((gI.A r2).L λk _ e=>e.symm) λb Y=>?_;obtain r4|r4:=r4
 .exact .inl (j9 r4 Y)
 rw[Y]at r4;simp at r4;exact .inr C
def WA(r:Rq):List Int:=j5 r.kd [r.ln,r.nr,r.ep,r.pl,r.ct.kd,r.ct.cl,r.ct.ca] r.ct.val
def Qn.JE{α:Type}(q:Qn α)(k:Nat):List (Int×List Int):=((q.nodes.take k).filter λnd=> !q.T nd).map λnd=>(nd,WA q.A)
def Qn.R{α:Type}(q:Qn α):List (Int×List Int):=q.iH.map λz=>(z.1,WA z.2)
def Qn.UY{α:Type}(q:Qn α)(k):(q.JE k).length<=k:=by unfold Qn.JE;rw[ay];refine aF (bF _ _) ?_;rw[bH];omega
def Qn.SE{α:Type}(q:Qn α)(k)(h:k<q.nodes.length)(j:q.T q.nodes[k]=true):q.JE (k+1)=q.JE k:=by unfold Qn.JE;rw[aM h,cz];simp[j]
def Qn.Xs{α:Type}(q:Qn α)(k)(h:k<q.nodes.length)(j:q.T q.nodes[k]=false):q.JE (k+1)=q.JE k++[(q.nodes[k],WA q.A)]:=by unfold Qn.JE;rw[aM h,cz];simp[j]
def Qn.Lj{α:Type}(q:Qn α)(h:q.mi=true):q.JE q.nodes.length=q.R:=by unfold Qn.JE Qn.R Qn.iH;rw[bZ,aE h,br];rfl
structure QC{α:Type}[oN α](w:World)(cP:Nat->Nat)(ga t g o:Nat)(q:Qn α)(V:QV):Prop where
 r:QR w cP ga t q V
 c0:w.cell? (U g o)=some (I q.A.kd)
 c1:w.cell? (U g (o+1))=some (I q.A.ln)
 c2:w.cell? (U g (o+2))=some (I q.A.nr)
 c3:w.cell? (U g (o+3))=some (I q.A.ep)
 c4:w.cell? (U g (o+4))=some (I q.A.pl)
 c5:w.cell? (U g (o+5))=some (I q.A.ct.kd)
 c6:w.cell? (U g (o+6))=some (I q.A.ct.cl)
 c7:w.cell? (U g (o+7))=some (I q.A.ct.ca)
 c8:w.cell? (U g (o+8))=some V.vv
 c9:w.cell? (U g (o+9))=some V.nv
 UO:w.cell? (U g (o+11))=some V.av
 lg:g<w.heap.size
def QC.bl{α:Type}[oN α]{o:Nat}{q:Qn α}{V:QV}(h:QC w cP ga t g o q V)(j:Bl w w'):QC w' cP ga t g o q V:=
 ⟨h.r.only (jY j) (λ_ _ e=>e.elim) (λ_ _ e=>e.elim) ib,(j.cell h.lg).H h.c0,(j.cell h.lg).H h.c1,(j.cell h.lg).H h.c2,(j.cell h.lg).H h.c3,(j.cell h.lg).H h.c4,(j.cell h.lg).H h.c5,(j.cell h.lg).H h.c6,(j.cell h.lg).H h.c7,(j.cell h.lg).H h.c8,(j.cell h.lg).H h.c9,(j.cell h.lg).H h.UO,af h.lg j.lt⟩
def Xq{V:QV}(W:QR w cP ga t q V)(x):∃(Y Z x2 x3 x4 x5:Int) (va:Option Addr) (vn vc:Nat),(Instr.lookup 101 V.av (I x) true).run prog w=.ok (.tuple #[.agg #[I Y,I Z,I x2,I x3,I x4,I x5,gK va vn vc],.bool (q.T x)]) w:=by
 obtain⟨A,e⟩|⟨M,P,l,A,_,h⟩:=W.D
 .have:q.T x=false:=by unfold Qn.T;rw[e];rfl
  rw[this];exact⟨0,0,0,0,0,0,none,0,0,by rw[A];exact yC w x⟩
 rw[A];have a0:=h.len;by_cases F:∃e∈l,e.k=x
 .obtain⟨j,e,S,e2,e3⟩:=yE w M P l h.mp x F;have hj:=(aj.1 S).1;have H:j<q.D.length:=C;obtain⟨f1,s,f2,f3⟩:=h.kY j e q.D[j] S (ah H);obtain⟨a,cc,rfl⟩:=f3.D;have:q.T x=true:=by unfold Qn.T;rw[cK];exact⟨q.D[j],aL _,by simpa using f1.symm.H e2⟩
  rw[this];exact⟨_,_,_,_,_,_,_,_,_,kz e3 f2⟩
 have:q.T x=false:=by unfold Qn.T;rw[dm];intro z L e;obtain⟨i,hi,rfl⟩:=aV.1 L;have y:i<l.length:=C;exact F ⟨l[i],aL y,by rw[(h.kY i l[i] _ (ah y) (ah hi)).1];simpa using e⟩
 rw[this];exact⟨0,0,0,0,0,0,none,0,0,A8 w M P l h.mp x λe he e'=>F ⟨e,he,e'⟩⟩
theorem IG(w)(g o)(j:w.cell? (U g (o+10))=some (.bool false)):iU 209 #[.pointer (some (U g o))] w λh w'=>h=gU OO/\w'=w:=by
 go_enter func209,ntmps209;go_wp2;go_ret;exact⟨rfl,rfl⟩
def Wi{q:Qn Vo}{V:QV}(W:QR w cP ga t q V)(x):∃(Y Z x2:Int) (va:Option Addr) (vn vc:Nat),(Instr.lookup 104 V.av (I x) true).run prog w=.ok (.tuple #[.agg #[I Y,I Z,I x2,gK va vn vc],.bool (q.T x)]) w:=by
 obtain⟨A,e⟩|⟨M,P,l,A,_,h⟩:=W.D
 .have:q.T x=false:=by unfold Qn.T;rw[e];rfl
  rw[this];exact⟨0,0,0,none,0,0,by rw[A];exact yX w x⟩
 rw[A];have a0:=h.len;by_cases F:∃e∈l,e.k=x
 .obtain⟨j,e,S,e2,e3⟩:=yD w M P l h.mp x F;have hj:=(aj.1 S).1;have H:j<q.D.length:=C;obtain⟨f1,s,f2,f3⟩:=h.kY j e q.D[j] S (ah H);obtain⟨a,cc,rfl⟩:=f3.D;have:q.T x=true:=by unfold Qn.T;rw[cK];exact⟨q.D[j],aL _,by simpa using f1.symm.H e2⟩
  rw[this];exact⟨_,_,_,_,_,_,kz e3 f2⟩
 have:q.T x=false:=by unfold Qn.T;rw[dm];intro z L e;obtain⟨i,hi,rfl⟩:=aV.1 L;have y:i<l.length:=C;exact F ⟨l[i],aL y,by rw[(h.kY i l[i] _ (ah y) (ah hi)).1];simpa using e⟩
 rw[this];exact⟨0,0,0,none,0,0,AR w M P l h.mp x λe he e'=>F ⟨e,he,e'⟩⟩
def Yj(α:Type)[oN α](F:Nat):Prop:=∀(w W1:World) (cP:Nat->Nat) (ga t g o:Nat) (q:Qn α) (V:QV),w.cell? (U g (o+10))=some (.bool true)->w.frozen? (U g (o+10))=false->w.setCell (U g (o+10)) (.bool false)=W1->QC W1 cP ga t g o q V->0<=q.A.kd->q.A.kd<=255->q.A.ct.val.length<=255->q.nodes.length<=100->
 Calls prog F #[.pointer (some (U g o))] w λen w'=>∃v xs,en=gU v/\sI W1.heap.size w' v (q.JE q.nodes.length) xs/\Bl W1 w'
theorem Ii:Yj An 209/\Yj Vo 210:=by
 constructor;all_goals
  intro w W1 cP ga t g o q V bg bi aa h k0 k1 ab bl;obtain⟨ac,ad,t0,t1,t2⟩:=fx Tryz.DA;obtain⟨na,nc,S⟩:=h.r.nodes.D;obtain⟨va,vc,a2⟩:=h.r.val.D;rw[ay]at S a2;obtain⟨bm,ag⟩:∃z,V.av=.map z:=by obtain⟨e,_⟩|⟨gm,iC,l,e,_⟩:=h.r.D<;>exact⟨_,e⟩
  have HN:Hid (∀k (hk:k<q.nodes.length),∃bn on,na=some (U bn on)/\bn<W1.heap.size/\W1.cell? (U bn (on+k))=some (I q.nodes[k])):=λk hk=>by obtain⟨bn,on,cn,e1,e2,_,_,e3⟩:=h.r.nodes.cell ik;rw[S]at e1;simp only[bO]at e1;exact⟨bn,on,e1.1,e2,e3 k (I q.nodes[k]) (mZ hk)⟩
  have c9:=h.c9;rw[S]at c9;have lg:=h.lg;obtain⟨ai,HQ,ak⟩:=iI aa h ag;obtain⟨al,Hf⟩:=gO a2 (And.intro k0 (And.intro k1 ab));clear h aa ag a2 S k0 k1 ab;first|go_enter func209,ntmps209|go_enter func210,ntmps210
  go_upto_region 4 with fail;rw[ai.o];clear ai;go_wp2;go_loopw[3,21](λd i wr=>∃k:Nat,k<=q.nodes.length/\i=I k/\(∃xs,Hid (sI W1.heap.size wr d (q.JE k) xs))/\Hid (Bl W1 wr)) λ_ i _=>q.nodes.length-(Go.RowKit.intOf i).toNat
  case atStart=>exact⟨0,jR,rfl,⟨[],by unfold Hid;rw[show q.JE 0=[]from by simp[Qn.JE]];exact sI.nil _ _⟩,jZ⟩
  obtain⟨k,hk,rfl,⟨xs,HP⟩,Z⟩:=hrel;by_cases jt:k<q.nodes.length
  .have bb:(k:Int)<(q.nodes.length:Int):=C;obtain⟨bn,on,au,am,av⟩:=HN k jt;subst au;have d0:=(Z.cell am).H av;have aw:=HQ.bl Z;obtain⟨er,e0,e1,e2,e3,e4,e5,e6,e7,e8,e9,aY,a3⟩:=aw;rw[al.o]at e8;rw[ak.o]at aY;first|obtain⟨u0,u1,u2,u3,u4,u5,a4,a5,a6,W⟩:=Xq er q.nodes[k]|obtain⟨u0,u1,u2,a4,a5,a6,W⟩:=Wi er q.nodes[k]
   rw[ak.o]at W;have ev:=er.val;rw[al.o]at ev;have bo:=af am Z.lt;have bp:=q.UY k;obtain⟨L,a7⟩:=gO (q.SE k jt) (q.Xs k jt);generalize q.nodes[k]=nk at*;first|have M:=(Bl.refl wr).alloc (ig #[I u0,I u1,I u2,I u3,I u4,I u5,gK a4 a5 a6] 215)|have M:=(Bl.refl wr).alloc (ig #[I u0,I u1,I u2,gK a4 a5 a6] 222)
   obtain⟨x0,x1,x2,x3⟩:=M.N a3 e0 e1 e2 e3;obtain⟨x4,x5,x6⟩:=M.M a3 e4 e5 e6;obtain⟨x7,x8⟩:=M.D a3 e7 e8
   cases j:q.T nk with
   |true=>
    rw[j]at W;obtain⟨hp,b0,b1⟩:=iI (L j) (Z.H M) (HP.bl M);clear j L a7 M ev er e0 e1 e2 e3 e4 e5 e6 e7 e8 e9 x0 x1 x2 x3 x4 x5 x6 x7 x8;go_wp2;go_roundw
    case rel=>exact⟨k+1,C,iq,⟨xs,by unfold Hid;rw[hp.o];exact b1⟩,b0⟩
    exact iD
   |false=>
    rw[j]at W;have b2:=gN (a7 j);obtain⟨pl,P⟩:=gG ((q.JE k).length);obtain⟨HR,HA⟩:=gO (xL q.A.kd q.A.ln q.A.nr q.A.ep q.A.pl q.A.ct.kd q.A.ct.cl q.A.ct.ca va vc q.A.ct.val _ Hf.1 Hf.2.1 (ev.bs.bl M) (λb hb=>af (ev.M b hb).1 M.lt) Hf.2.2) M;have b3:Hid (pl+1<=maxLen):=nZ;have b4:Hid ((pl+1)*32<=140737488355328):=nC;have y:=HP.ij;rw[P]at y;obtain⟨b5,a0⟩:=gO y P;clear j L a7 M ev er e1 e2 e3 e4 e5 e6 e7 e8 e9 y P;go_wp2_with fail;refine HR.L ?_;rintro bq w1⟨ba,bc,rfl,an,a8⟩;have Y:=gN (HA.H an);have ap:=gN (iE (base':=wr.heap.size) a8 λb hb=>aF rE (by have:=(a8.lt b hb).1;simpa using this));have aq:=gN ((jY Y).jH b5 λ_ _ e=>e);have bs:=aF Z.lt Y.lt;have hd:Hid (j5 q.A.kd [q.A.ln,q.A.nr,q.A.ep,q.A.pl,q.A.ct.kd,q.A.ct.cl,q.A.ct.ca] q.A.ct.val=WA q.A):=rfl;rw[hd.o]at ap|-;clear an a8 HR;generalize WA q.A=ar at*;go_wp2_with(at_builtin;refine fm _ rfl _ _ 176 rfl W1.heap.size 179 ac _ 2 32 underlying176 ad t0 t1 t2 rfl bT _ pl _ rfl (aq.alloc _) (U w1.heap.size 0) 1 1 [I nk,gK ba ar.length bc] rfl rfl (fW (cs:=#[I nk,gK ba ar.length bc]) (t:=179) (fr:=(0,0)) (ao w1 _)) tx bT b3 b4 ik (w1.heap.size+1) bz ?_);intro g' bd w3 a1 F b6 be;have a9:=HP.push (tt:=nk) Y ap Z.lt (jf a0.o a1) F;rw[<-b2.o,a0.o]at a9;have b7:=gN a9;have b8:Hid (Bl W1 w3):=((Z.H Y).alloc _).A (gI.A F) λb e=>(aq.lt b e.symm).1;clear a1 F b6 a9;go_wp2;go_roundw
    case rel=>exact⟨k+1,C,iq,⟨_,b7⟩,b8⟩
    exact iD
  have b9:k=q.nodes.length:=C;subst b9;go_wp2;go_ret;exact⟨_,xs,rfl,HP,Z⟩
theorem Jl(w)(g o)(j:w.cell? (U g (o+10))=some (.bool false)):iU 210 #[.pointer (some (U g o))] w λh w'=>h=gU OO/\w'=w:=by
 go_enter func210,ntmps210;go_wp2;go_ret;exact⟨rfl,rfl⟩
structure yY{α:Type}(q:Qn α):Prop where
 k0:0<=q.A.kd
 k1:q.A.kd<=255
 v:q.A.ct.val.length<=255
 n:q.nodes.length<=100
def Qn.Ld{α:Type}{q:Qn α}(h:q.mi=false):q.R=[]:=by unfold Qn.R Qn.iH;rw[h];rfl
def Qn.zq{α:Type}{q:Qn α}(h:q.mi=false):q.jE=q:=by unfold Qn.jE;cases q;simp at h;simp[h]
def Qn.tX{α:Type}(q:Qn α):q.R.length<=q.nodes.length:=by
 unfold Qn.R Qn.iH;split
 .rw[ay,ay];exact bF _ _
 simp
theorem vH{o:Nat}{Q:QV}(y:w.cell? (U g (o+10))=some (.bool q.mi))(H:w.frozen? (U g (o+10))=false)(A:w.setCell (U g (o+10)) (.bool false)=W1)(h:QC W1 cP ga t g o q Q)(F:yY q):iU 209 #[.pointer (some (U g o))] w λM w'=>∃v xs,M=gU v/\sI w.heap.size w' v q.R xs/\((q.mi=false/\w'=w)\/(q.mi=true/\Bl W1 w')):=by
 cases j:q.mi with
 |false=>rw[j]at y;refine(IG w g o y).L ?_;rintro M w'⟨rfl,rfl⟩;exact⟨_,[],rfl,by rw[Qn.Ld j];exact sI.nil _ _,.inl ⟨rfl,rfl⟩⟩
 |true=>
  rw[j]at y;have P:W1.heap.size=w.heap.size:=by rw[<-A];simp[World.setCell]
  refine(Ii.1 _ _ _ _ _ _ _ _ _ y H A h F.k0 F.k1 F.v F.n).L ?_;rintro M w'⟨v,xs,rfl,S,W⟩;rw[P,Qn.Lj q j]at S;exact⟨v,xs,rfl,S,.inr ⟨rfl,W⟩⟩
theorem Jd{o:Nat}{q:Qn Vo}{Q:QV}(y:w.cell? (U g (o+10))=some (.bool q.mi))(H:w.frozen? (U g (o+10))=false)(A:w.setCell (U g (o+10)) (.bool false)=W1)(h:QC W1 cP ga t g o q Q)(F:yY q):iU 210 #[.pointer (some (U g o))] w λM w'=>∃v xs,M=gU v/\sI w.heap.size w' v q.R xs/\((q.mi=false/\w'=w)\/(q.mi=true/\Bl W1 w')):=by
 cases j:q.mi with
 |false=>rw[j]at y;refine(Jl w g o y).L ?_;rintro M w'⟨rfl,rfl⟩;exact⟨_,[],rfl,by rw[Qn.Ld j];exact sI.nil _ _,.inl ⟨rfl,rfl⟩⟩
 |true=>
  rw[j]at y;have P:W1.heap.size=w.heap.size:=by rw[<-A];simp[World.setCell]
  refine(Ii.2 _ _ _ _ _ _ _ _ _ y H A h F.k0 F.k1 F.v F.n).L ?_;rintro M w'⟨v,xs,rfl,S,W⟩;rw[P,Qn.Lj q j]at S;exact⟨v,xs,rfl,S,.inr ⟨rfl,W⟩⟩
def jn.sE(c:jn):jn:={c with q:=c.q.jE}
def OP(h:jy w cP t p qb X V)(y:c∈X.a)(P:yY c.q):iU 209 #[.pointer (some (U (qb c.gL) 17))] w λA w'=>∃v xs,A=gU v/\sI w.heap.size w' v c.q.R xs/\jy w' cP t p qb (X.put c.sE) V/\gI (λb=>Mc t (cP b)) w w':=by
 obtain⟨cv,k⟩:=h.r.f c y;have F:gI (λb=>b=qb c.gL) w (w.setCell (U (qb c.gL) 27) (.bool false)):=(gI.refl (λb=>b=qb c.gL) w).setCell (U (qb c.gL) 27) (.inl rfl) _;have j:lS (w.setCell (U (qb c.gL) 27) (.bool false)) cP t (qb c.gL) c.sE cv:=k.A (c':=c.sE) (cv':=cv) F (jO 27 _ w _ k.hq) rfl k.ij k.d k.e ⟨k.q.val,k.q.nodes,k.q.D,k.q.nil⟩;obtain⟨S,W⟩:=h.T5 y k F j rfl rfl;have Y:QC (w.setCell (U (qb c.gL) 27) (.bool false)) cP (t+9+2*c.a) (t+3) (qb c.gL) 17 c.q cv.q:=⟨⟨j.q.val,j.q.nodes,j.q.D,j.q.nil⟩,j.cellAt 17 rfl,j.cellAt 18 rfl,j.cellAt 19 rfl,j.cellAt 20 rfl,j.cellAt 21 rfl,j.cellAt 22 rfl,j.cellAt 23 rfl,j.cellAt 24 rfl,j.cellAt 25 rfl,j.cellAt 26 rfl,j.cellAt 28 rfl,j.lt⟩;refine(vH (k.cellAt 27 rfl) (k.N 27) rfl Y P).L ?_;rintro A w'⟨v,xs,rfl,H,⟨Z,rfl⟩|⟨_,M⟩⟩
 .refine⟨v,xs,rfl,H,?_,vO⟩;have:c.sE=c:=by unfold jn.sE;rw[Qn.zq Z]
  rw[this,Cx.wv X h.r.a.gL y];exact h
 exact⟨v,xs,rfl,H,S.bl M ib,W.H (gI.D M)⟩
def Qt(h:jy w cP t p qb X V)(P:yY X.c):iU 209 #[.pointer (some (U p 10))] w λy w'=>∃v xs,y=gU v/\sI w.heap.size w' v X.c.R xs/\jy w' cP t p qb {X with c:=X.c.jE} V/\gI (λb=>Mc t (cP b)) w w':=by
 have A:gI (λb=>b=p) w (w.setCell (U p 20) (.bool false)):=(gI.refl (λb=>b=p) w).setCell (U p 20) (.inl rfl) _;have j:jy (w.setCell (U p 20) (.bool false)) cP t p qb {X with c:=X.c.jE} V:=h.uV A (jO 20 _ w _ h.hp) ⟨h.r.lay,h.r.e,h.r.tb,h.r.mp,h.r.bo,h.r.bn,⟨h.r.pr.val,h.r.pr.nodes,h.r.pr.D,h.r.pr.nil⟩,h.r.sl,h.r.vt,h.r.bg,h.r.b,h.r.f,h.r.a.gL,h.r.a.lt,h.r.a.a,h.r.a.A⟩;have S:QC (w.setCell (U p 20) (.bool false)) cP (t+4) (t+3) p 10 X.c V.pr:=⟨⟨j.r.pr.val,j.r.pr.nodes,j.r.pr.D,j.r.pr.nil⟩,j.cellAt 10 rfl,j.cellAt 11 rfl,j.cellAt 12 rfl,j.cellAt 13 rfl,j.cellAt 14 rfl,j.cellAt 15 rfl,j.cellAt 16 rfl,j.cellAt 17 rfl,j.cellAt 18 rfl,j.cellAt 19 rfl,j.cellAt 21 rfl,j.A⟩;refine(vH (h.cellAt 20 rfl) (h.N 20) rfl S P).L ?_;rintro y w'⟨v,xs,rfl,F,⟨W,rfl⟩|⟨_,M⟩⟩
 .refine⟨v,xs,rfl,F,?_,vO⟩;rw[Qn.zq W];exact h
 exact⟨v,xs,rfl,F,j.bl M ib,(h.nF A).H (gI.D M)⟩
def RH(h:jy w cP t p qb X V)(P:yY X.mv.a):iU 209 #[.pointer (some (U p 29))] w λy w'=>∃v xs,y=gU v/\sI w.heap.size w' v X.mv.a.R xs/\jy w' cP t p qb {X with mv:={X.mv with a:=X.mv.a.jE}} V/\gI (λb=>Mc t (cP b)) w w':=by
 have A:gI (λb=>b=p) w (w.setCell (U p 39) (.bool false)):=(gI.refl (λb=>b=p) w).setCell (U p 39) (.inl rfl) _;have j:jy (w.setCell (U p 39) (.bool false)) cP t p qb {X with mv:={X.mv with a:=X.mv.a.jE}} V:=h.uV A (jO 39 _ w _ h.hp) ⟨h.r.lay,h.r.e,h.r.tb,h.r.mp,h.r.bo,h.r.bn,h.r.pr,⟨h.r.sl.val,h.r.sl.nodes,h.r.sl.D,h.r.sl.nil⟩,h.r.vt,h.r.bg,h.r.b,h.r.f,h.r.a.gL,h.r.a.lt,h.r.a.a,h.r.a.A⟩;have S:QC (w.setCell (U p 39) (.bool false)) cP (t+5) (t+3) p 29 X.mv.a V.sl:=⟨⟨j.r.sl.val,j.r.sl.nodes,j.r.sl.D,j.r.sl.nil⟩,j.cellAt 29 rfl,j.cellAt 30 rfl,j.cellAt 31 rfl,j.cellAt 32 rfl,j.cellAt 33 rfl,j.cellAt 34 rfl,j.cellAt 35 rfl,j.cellAt 36 rfl,j.cellAt 37 rfl,j.cellAt 38 rfl,j.cellAt 40 rfl,j.A⟩;refine(vH (h.cellAt 39 rfl) (h.N 39) rfl S P).L ?_;rintro y w'⟨v,xs,rfl,F,⟨W,rfl⟩|⟨_,M⟩⟩
 .refine⟨v,xs,rfl,F,?_,vO⟩;rw[Qn.zq W];exact h
 exact⟨v,xs,rfl,F,j.bl M ib,(h.nF A).H (gI.D M)⟩
def Qq(h:jy w cP t p qb X V)(S:yY X.mv.A):iU 210 #[.pointer (some (U p 41))] w λy w'=>∃v xs,y=gU v/\sI w.heap.size w' v X.mv.A.R xs/\jy w' cP t p qb {X with mv:={X.mv with A:=X.mv.A.jE}} V/\gI (λb=>Mc t (cP b)) w w':=by
 have F:gI (λb=>b=p) w (w.setCell (U p 51) (.bool false)):=(gI.refl (λb=>b=p) w).setCell (U p 51) (.inl rfl) _;have j:jy (w.setCell (U p 51) (.bool false)) cP t p qb {X with mv:={X.mv with A:=X.mv.A.jE}} V:=h.uV F (jO 51 _ w _ h.hp) ⟨h.r.lay,h.r.e,h.r.tb,h.r.mp,h.r.bo,h.r.bn,h.r.pr,h.r.sl,⟨h.r.vt.val,h.r.vt.nodes,h.r.vt.D,h.r.vt.nil⟩,h.r.bg,h.r.b,h.r.f,h.r.a.gL,h.r.a.lt,h.r.a.a,h.r.a.A⟩;have W:QC (w.setCell (U p 51) (.bool false)) cP (t+6) (t+3) p 41 X.mv.A V.vt:=⟨⟨j.r.vt.val,j.r.vt.nodes,j.r.vt.D,j.r.vt.nil⟩,j.cellAt 41 rfl,j.cellAt 42 rfl,j.cellAt 43 rfl,j.cellAt 44 rfl,j.cellAt 45 rfl,j.cellAt 46 rfl,j.cellAt 47 rfl,j.cellAt 48 rfl,j.cellAt 49 rfl,j.cellAt 50 rfl,j.cellAt 52 rfl,j.A⟩;refine(Jd (h.cellAt 51 rfl) (h.N 51) rfl W S).L ?_;rintro y w'⟨v,xs,rfl,M,⟨Y,rfl⟩|⟨_,P⟩⟩
 .refine⟨v,xs,rfl,M,?_,vO⟩;rw[Qn.zq Y];exact h
 exact⟨v,xs,rfl,M,j.bl P ib,(h.nF F).H (gI.D P)⟩
def Cx.vr(X:Cx)(s:List Nat):Cx:={X with a:=X.a.map λc=>if s.contains c.gL then c.sE else c}
def Cx.MB(X:Cx):X.vr []=X:=by unfold Cx.vr;simp
def Cx.NG(X:Cx)(s)(h:∀c∈X.a,c.gL∈s):X.vr s={X with a:=X.a.map jn.sE}:=by unfold Cx.vr;congr 1;exact bf λc j=>by rw[aE (by simpa using h c j)]
def Cx.Mw(X)(h:uf X)(j:c∈X.a)(s):X.vr (s++[c.gL])=(X.vr s).put c.sE:=by
 unfold Cx.vr Cx.put;simp only[br];congr 1;refine bf λd y=>?_;simp only[Function.comp_apply];by_cases e:d.gL=c.gL
 .have:=rS h.gL y j e;subst this;rw[aE bz,aE (by split<;>simp[jn.sE])]
 have A:¬(if s.contains d.gL then d.sE else d).gL=c.sE.gL:=by split<;>simpa [jn.sE]using e
 rw[az A];have:(s++[c.gL]).contains d.gL=s.contains d.gL:=by rw[dr];simp[e]
 rw[this]
def Cx.B9(X:Cx)(j:c∈X.a)(s)(h:c.gL∉s):c∈(X.vr s).a:=aD.2 ⟨c,j,by rw[az (je h)]⟩
structure Xn(X:Cx):Prop where
 p:yY X.c
 s:yY X.mv.a
 v:yY X.mv.A
 c:∀c∈X.a,yY c.q
def Cx.Gi(X:Cx):List (Int×List Int):=X.iH.map λz=>(z.1,WA z.2)
def Cx.SX(X:Cx):X.Gi=(((X.a.flatMap λc=>c.q.R)++X.c.R)++X.mv.a.R)++X.mv.A.R:=by unfold Cx.Gi Cx.iH Qn.R;simp[List.map_flatMap]
theorem CT(l:List jn)(h:∀c∈l,yY c.q):(l.flatMap λc=>c.q.R).length<=100*l.length:=by
 induction l with
 |nil=>simp
 |cons c l j=>rw[dP,aO,df];have A:=j λd y=>h d (mZ y);have F:=Qn.tX c.q;have H:=(h c bz).n;omega
def sI.base{base B:Nat}(h:sI B w v ps xs)(y:base<=B):sI base w v ps xs:=
 ⟨iE h.ij λb j=>aF y (h.ij.lt b j).1,λi z F=>by
  obtain⟨H,u,L,A⟩:=h.kY i z F
  exact⟨H,u,L,iE A λb j=>aF y (A.lt b j).1⟩,h.ap⟩
theorem VT(h:jy w cP t p qb X V)(bn:100<=t)(hr:X.e.length<=1000000000)(h8:X.a.length<=8)(hO:Xn X):iU 160 #[O p] w λen w'=>∃v xs,en=gU v/\sI w.heap.size w' v X.Gi xs/\jy w' (ir cP w.heap.size 5) t p qb X.jE V/\gI (λb=>Mc t (cP b)) w w':=by
 obtain⟨a9,aa,t0,t1,t2⟩:=fx Tryz.DA;obtain⟨j,b0⟩:=gG (ir cP w.heap.size 5);have bo:Hid (∀b,b<w.heap.size->j b=cP b):=λb S=>by rw[<-b0];exact gV _ _ _ _ S
 have y:Hid (∀b,w.heap.size<=b->j b=5):=λb S=>by rw[<-b0];exact jc _ _ _ _ S
 rw[b0];have HS:=gN (AU h hr h8);have H1:Hid (∀W,Bl w W->jy W j t p qb X V):=λW hW=>h.bl hW bo;obtain⟨cp,A,H8,HO⟩:=kN h.r.a bn h8 hO;have lp:=h.A;unfold ptr at HS;clear h hr h8 hO bn b0;go_enter func160,ntmps160;go_wp2_with(go_at_call 192;refine HS.L ?_;rintro e w1⟨v,rfl,ho,ai⟩;obtain⟨a,cap,rfl⟩:=jk ho;obtain⟨HC,F⟩:=gO ho ai;clear HS ai ho);go_loopw[3,9](λd i wr=>∃k:Nat,k<=X.a.length/\i=I k/\(∃xs,Hid (sI w1.heap.size wr d ((X.a.take k).flatMap λc=>c.q.R) xs))/\Hid (jy wr j t p qb (X.vr ((X.a.take k).map jn.gL)) V)/\Hid (gI (λb=>Mc t (j b)) w1 wr)) λ_ i _=>X.a.length-(Go.RowKit.intOf i).toNat
 case atStart=>exact⟨0,jR,rfl,⟨[],sI.nil _ _⟩,by unfold Hid;rw[eE,eT,Cx.MB];exact H1 w1 F,vO⟩
 obtain⟨k,hk,rfl,⟨xs,HP⟩,HK,HW⟩:=hrel;by_cases jt:k<X.a.length
 .have ee:(k:Int)<(X.a.length:Int):=C;obtain⟨g,ef,cq⟩:=qS HC C;simp at cq;obtain⟨rfl,rfl⟩:=cq;have a4:=HC.cellAt k C;rw[aK,ah jt]at a4;have bR:=(HC.lt g rfl);have cr:¬Mc t (j g):=by rw[y.o g bR.1];unfold Mc;have:=A.o;omega
  have k1:=(HW.cell bR.2 cr).H a4;simp only[bG]at k1;have eg:=af bR.2 HW.size;have ag:X.a[k]∈X.a:=aL jt;have ak:X.a[k].gL∉(X.a.take k).map jn.gL:=λhm=>by obtain⟨d,hd,he⟩:=aD.1 hm;obtain⟨i,hi,rfl⟩:=aV.1 hd;rw[bH]at hi;rw[dM]at he;have:=dE.1 cp.gL i k C jt C;omega
  have HQ:=gN (OP HK (X.B9 ag _ ak) (HO.c _ ag));rw[<-Cx.Mw X cp.o ag]at HQ;have bV:(X.a.take (k+1))=X.a.take k++[X.a[k]]:=aM jt;have dO:Hid ((X.a.take (k+1)).map jn.gL=(X.a.take k).map jn.gL++[X.a[k].gL]):=by unfold Hid;rw[bV,aZ];rfl
  have bW:Hid (((X.a.take (k+1)).flatMap λc=>c.q.R)=((X.a.take k).flatMap λc=>c.q.R)++X.a[k].q.R):=by unfold Hid;rw[bV,eZ];simp
  have al:=CT (X.a.take k) λd hd=>HO.c d (cQ hd);have b1:=Qn.tX X.a[k].q;have bX:=(HO.c _ ag).n;rw[bH]at al;rw[<-dO.o]at HQ;obtain⟨lk,cs⟩:=HK.r.f _ (X.B9 ag _ ak);have lq:=cs.lt;have ct:k<X.a.length/\True:=⟨jt,trivial⟩;clear a4 cr ak bV cs;obtain⟨q,cx⟩:=gG (qb X.a[k].gL);rw[cx]at HQ k1 lq;clear cx;obtain⟨ps,cS⟩:=gG ((X.a.take k).flatMap λc=>c.q.R);obtain⟨qs,cV⟩:=gG (X.a[k].q.R);rw[cS]at HP bW al;rw[cV]at HQ bW b1;clear cS cV;have bp:=gN ct;clear ct;have ei:X.a.length<=8:=H8.o;have e0:Hid (ps.length+qs.length<=maxLen):=by have:=H8.o;unfold Hid maxLen;omega
  have e1:Hid ((ps.length+qs.length)*32<=140737488355328):=by have:=H8.o;unfold Hid;omega
  clear al b1 bX ag;go_wp2_with fail;refine HQ.L ?_;rintro en w2⟨v2,ys,rfl,c0,d0,b2⟩;have d1:=b2.size;have am:=gN (HP.only b2 λb S _ e=>by rw[y.o b (aF F.lt S)]at e;unfold Mc at e;have:=A.o;omega);obtain⟨a2,c2,rfl⟩:=jk c0.ij;obtain⟨b3,d2,d3,d4⟩:=kN c0 d0 b2 HP.low;obtain⟨a1,c1,e2⟩:=jk HP.ij;have c4:=gN (aF HW.size d1);clear c0 d0 b2 HQ HK HP;subst e2;go_wp2_with(at_builtin;refine nY _ rfl _ _ 176 rfl w1.heap.size 179 a9 _ 2 32 underlying176 aa t0 t1 t2 rfl bT _ ps.length xs rfl am.ij _ qs.length wr.heap.size ys rfl b3.ij b3.one e0 e1 c4 ?_);intro v3 w3 a8 b4 _;have d5:=gN (am.app (B:=wr.heap.size) d4 b3 HW.size a8 b4);rw[<-bW.o]at d5;have e3:=gN (d2.only b4 (fz:=j) (λb _ e=>by rw[y.o b (aF F.lt (am.ij.lt b e).1)];have:=A.o;omega) ib);have e4:Hid (gI (λb=>Mc t (j b)) w1 w3):=(HW.H d3).andThen b4 λb S e=>by have:=(am.ij.lt b e).1;omega
  obtain⟨a3,c3,rfl⟩:=jk a8;clear a8 b4 am b3 d2 d3;go_wp2;go_roundw
  case rel=>exact⟨k+1,gM bp.1,iq,⟨_,d5⟩,e3,e4⟩
  have:=bp.1;simp[Go.RowKit.intOf];omega
 have e5:k=X.a.length:=C;subst e5;have bq:X.vr ((X.a.take X.a.length).map jn.gL)={X with a:=X.a.map jn.sE}:=Cx.NG X _ λc hc=>by rw[bZ];exact aD.2 ⟨c,hc,rfl⟩
 rw[bZ]at HP;rw[bq]at HK;have d6:=CT X.a HO.c;have al:=Qn.tX X.c;have b1:=Qn.tX X.mv.a;have bX:=Qn.tX X.mv.A;have e6:=HO.p.n;have e7:=HO.s.n;have e8:=HO.v.n;have hE:=gN X.SX;obtain⟨p0,d7⟩:=gG (X.a.flatMap λc=>c.q.R);rw[d7]at HP hE d6;have ai:Hid ((p0.length+X.c.R.length)*32<=140737488355328/\p0.length+X.c.R.length<=maxLen):=by have:=H8.o;unfold Hid maxLen;omega
 have c8:Hid ((p0.length+X.c.R.length+X.mv.a.R.length)*32<=140737488355328/\p0.length+X.c.R.length+X.mv.a.R.length<=maxLen):=by have:=H8.o;unfold Hid maxLen;omega
 have b5:Hid ((p0.length+X.c.R.length+X.mv.a.R.length+X.mv.A.R.length)*32<=140737488355328/\p0.length+X.c.R.length+X.mv.a.R.length+X.mv.A.R.length<=maxLen):=by have:=H8.o;unfold Hid maxLen;omega
 clear d6 al b1 bX e6 e7 e8 bq d7;obtain⟨ej,d8⟩:=gO HW.size (Qt HK HO.p);have ek:=HK.A;obtain⟨el,em,d9⟩:=jk HP.ij;subst d9;go_wp2_with fail;refine d8.L ?_;rintro en ep⟨v5,ys5,rfl,c9,da,b6⟩;have db:=b6.size;have Y:=gN (HP.only b6 λb S _ e=>by rw[y.o b (aF F.lt S)]at e;unfold Mc at e;have:=A.o;omega);obtain⟨a5,c5,rfl⟩:=jk c9.ij;obtain⟨ab,bs,bv⟩:=iI c9 da b6;obtain⟨ca,b7⟩:=gO HP.low (aF HW.size db);clear c9 da b6 d8 HK HP;go_wp2_with(at_builtin;refine nY _ rfl _ _ 176 rfl w1.heap.size 179 a9 _ 2 32 underlying176 aa t0 t1 t2 rfl bT _ (p0.length) xs rfl Y.ij _ (X.c.R.length) wr.heap.size ys5 rfl ab.ij ab.one ai.2 ai.1 b7 ?_);intro eq cb L b8 _;have an:=gN (Y.app (B:=wr.heap.size) ca ab HW.size (L) b8);have cc:=gN (bs.only b8 (fz:=j) (λb _ e=>by rw[y.o b (aF F.lt (Y.ij.lt b e).1)];have:=A.o;omega) ib);have cd:Hid (gI (λb=>Mc t (j b)) w1 cb):=(HW.H bv).andThen b8 λb S e=>by have:=(Y.ij.lt b e).1;omega
 obtain⟨b9,ap⟩:=gG (p0++X.c.R);have aq:p0.length+X.c.R.length=b9.length:=by rw[<-ap,aO]
 rw[ap]at an hE;rw[aq]at L c8 b5;clear ap aq;obtain⟨er,eu,rfl⟩:=jk L;have dc:∃ba,ba=xs++ys5:=⟨_,rfl⟩;obtain⟨ba,bw⟩:=dc;rw[<-bw]at an;clear L b8 Y ab bs bv bw;have dd:=gN (RH cc HO.s);have ev:=cc.A;go_wp2_with fail;refine dd.L ?_;rintro en ew⟨v6,ys6,rfl,ce,dg,bb⟩;have dj:=bb.size;have Z:=gN (an.only bb λb S _ e=>by rw[y.o b (aF F.lt S)]at e;unfold Mc at e;have:=A.o;omega);obtain⟨a6,c6,rfl⟩:=jk ce.ij;obtain⟨ac,bx,bA⟩:=iI ce dg bb;obtain⟨cf,bc⟩:=gO an.low (aF cd.size dj);clear ce dg bb dd cc an;go_wp2_with(at_builtin;refine nY _ rfl _ _ 176 rfl w1.heap.size 179 a9 _ 2 32 underlying176 aa t0 t1 t2 rfl bT _ b9.length ba rfl Z.ij _ (X.mv.a.R.length) cb.heap.size ys6 rfl ac.ij ac.one c8.2 c8.1 bc ?_);intro ex cg M bd _;have ar:=gN (Z.app (B:=cb.heap.size) cf ac cd.size (M) bd);have ch:=gN (bx.only bd (fz:=j) (λb _ e=>by rw[y.o b (aF F.lt (Z.ij.lt b e).1)];have:=A.o;omega) ib);have ci:Hid (gI (λb=>Mc t (j b)) w1 cg):=(cd.H bA).andThen bd λb S e=>by have:=(Z.ij.lt b e).1;omega
 obtain⟨be,au⟩:=gG (b9++X.mv.a.R);have av:b9.length+X.mv.a.R.length=be.length:=by rw[<-au,aO]
 rw[au]at ar hE;rw[av]at M b5;clear au av;obtain⟨ez,f0,rfl⟩:=jk M;have dl:∃bg,bg=ba++ys6:=⟨_,rfl⟩;obtain⟨bg,bB⟩:=dl;rw[<-bB]at ar;clear M bd Z ac bx bA bB;have dn:=gN (Qq ch HO.v);have f1:=ch.A;go_wp2_with fail;refine dn.L ?_;rintro en f2⟨v7,ys7,rfl,ck,dt,bi⟩;have dv:=bi.size;have a0:=gN (ar.only bi λb S _ e=>by rw[y.o b (aF F.lt S)]at e;unfold Mc at e;have:=A.o;omega);obtain⟨a7,c7,rfl⟩:=jk ck.ij;obtain⟨ad,bC,bD⟩:=iI ck dt bi;obtain⟨cl,bl⟩:=gO ar.low (aF ci.size dv);clear ck dt bi dn ch ar;go_wp2_with(at_builtin;refine nY _ rfl _ _ 176 rfl w1.heap.size 179 a9 _ 2 32 underlying176 aa t0 t1 t2 rfl bT _ be.length bg rfl a0.ij _ (X.mv.A.R.length) cg.heap.size ys7 rfl ad.ij ad.one b5.2 b5.1 bl ?_);intro f3 e9 P bm _;have cn:=gN (a0.app (B:=cg.heap.size) cl ad ci.size (P) bm);have ea:=gN (bC.only bm (fz:=j) (λb _ e=>by rw[y.o b (aF F.lt (a0.ij.lt b e).1)];have:=A.o;omega) ib);have eb:Hid (gI (λb=>Mc t (j b)) w1 e9):=(ci.H bD).andThen bm λb S e=>by have:=(a0.ij.lt b e).1;omega
 obtain⟨ec,aw⟩:=gG (be++X.mv.A.R);have aY:be.length+X.mv.A.R.length=ec.length:=by rw[<-aw,aO]
 rw[aw]at cn hE;rw[aY]at P;clear aw aY;obtain⟨f4,f5,rfl⟩:=jk P;have dw:∃co,co=bg++ys7:=⟨_,rfl⟩;obtain⟨co,bE⟩:=dw;rw[<-bE]at cn;clear P bm a0 ad bC bD bE;go_wp2;go_ret;refine⟨_,co,rfl,?_,ea,?_⟩
 .rw[hE.o];exact cn.base F.lt
 exact(gI.D F).andThen eb λb S e=>by rwa[bo.o b S]at e
theorem Ss(Q:World->Prop)(h:iU 97 #[O p] w λj w'=>j=iF/\Q w'):iU 57 #[O p] w λj w'=>j=iF/\Q w':=by
 have H:=gN h;clear h;go_enter func57,ntmps57;go_wp2_with fail;refine gS H λw' y=>?_;have A:=gN y;clear H y;go_wp2;go_end0;exact⟨rfl,A⟩
theorem Da(h:jy w cP t p qb X V)(F:X.a.length<=8)(L:∀c∈X.a,c.q.nodes.length<=100):iU 24 #[O p] w λy w'=>∃a cap,y=gU (gK a X.iX.length cap)/\w'.ownsRow w.heap.size 3 1 (gK a X.iX.length cap) X.iX.length (X.iX.map λ(n:Nat)=>I (n:Int))/\Bl w w':=by
 have H:=gN (Ga h F L);clear h;go_enter func24,ntmps24;go_wp2_with fail;refine H.L ?_;rintro y w'⟨v,rfl,j,A⟩;obtain⟨a,cap,rfl⟩:=jk j;have M:=nI j A;clear H j A;go_wp2;go_ret;exact⟨a,cap,rfl,M⟩
theorem UB(h:jy w cP t p qb X V)(j:100<=t)(L:X.e.length<=1000000000)(M:X.a.length<=8)(P:Xn X):iU 99 #[O p] w λA w'=>∃a cap xs,A=gU (gK a X.Gi.length cap)/\sI w.heap.size w' (gK a X.Gi.length cap) X.Gi xs/\jy w' (ir cP w.heap.size 5) t p qb X.jE V/\gI (λb=>Mc t (cP b)) w w':=by
 have H:=gN (VT h j L M P);clear h;go_enter func99,ntmps99;go_wp2_with fail;refine H.L ?_;rintro A w'⟨v,xs,rfl,y,F⟩;obtain⟨a,cap,rfl⟩:=jk y.ij;have S:=nI y F;clear H y F;go_wp2;go_ret;exact⟨a,cap,xs,rfl,S⟩
def Cx.uG(X:Cx)(j:∀d∈X.a,d.gL<X.e.length)(h:c.gL=X.e.length)(A:c'.gL=X.e.length):(X.jb c).put c'=X.jb c':=by
 unfold Cx.jb Cx.put;simp only[aZ,bj];congr 2
 .conv=>rhs;rw[<-eI X.a]
  exact bf λd y=>by rw[az (gM (j d y))];rfl
 simp_all
def jy.XZ(h:jy w cP t p qb X V)(j:c∈X.a)(a):jy (w.setCell (U (qb c.gL) 3) (I a)) cP t p qb (X.put {c with iA:=a}) V/\gI (λb=>Mc t (cP b)) w (w.setCell (U (qb c.gL) 3) (I a)):=by obtain⟨cv,k⟩:=h.r.f c j;have y:gI _ w (w.setCell (U (qb c.gL) 3) (I a)):=(gI.refl (λb=>b=qb c.gL) w).setCell (U (qb c.gL) 3) (.inl rfl) _;exact h.T5 j k y (k.A y (jO 3 _ w _ k.hq) rfl k.ij k.d k.e k.q) rfl rfl
def jy.ZG(h:jy w cP t p qb X V)(j:c∈X.a)(a):jy (w.setCell (U (qb c.gL) 4) (I a)) cP t p qb (X.put {c with unit:=a}) V/\gI (λb=>Mc t (cP b)) w (w.setCell (U (qb c.gL) 4) (I a)):=by obtain⟨cv,k⟩:=h.r.f c j;have y:gI _ w (w.setCell (U (qb c.gL) 4) (I a)):=(gI.refl (λb=>b=qb c.gL) w).setCell (U (qb c.gL) 4) (.inl rfl) _;exact h.T5 j k y (k.A y (jO 4 _ w _ k.hq) rfl k.ij k.d k.e k.q) rfl rfl
def jy.Zy(h:jy w cP t p qb X V)(j:c∈X.a)(a):jy (w.setCell (U (qb c.gL) 5) (I a)) cP t p qb (X.put {c with ij:={c.ij with kd:=a}}) V/\gI (λb=>Mc t (cP b)) w (w.setCell (U (qb c.gL) 5) (I a)):=by obtain⟨cv,k⟩:=h.r.f c j;have y:gI _ w (w.setCell (U (qb c.gL) 5) (I a)):=(gI.refl (λb=>b=qb c.gL) w).setCell (U (qb c.gL) 5) (.inl rfl) _;exact h.T5 j k y (k.A y (jO 5 _ w _ k.hq) rfl k.ij k.d k.e k.q) rfl rfl
def jy.zE(h:jy w cP t p qb X V)(j:c∈X.a)(val)(v)(A:Rd w cP (t+3) 5 v (val.map B8)):jy (w.setCell (U (qb c.gL) 8) v) cP t p qb (X.put {c with ij:={c.ij with val:=val}}) V/\gI (λb=>Mc t (cP b)) w (w.setCell (U (qb c.gL) 8) v):=by obtain⟨cv,k⟩:=h.r.f c j;have y:gI _ w (w.setCell (U (qb c.gL) 8) v):=(gI.refl (λb=>b=qb c.gL) w).setCell (U (qb c.gL) 8) (.inl rfl) _;exact h.T5 j k y (k.A (cv':={cv with ov:=v}) y (jO 8 _ w _ k.hq) rfl A k.d k.e k.q) rfl rfl
def Cl.gL(h:Cl w cP t p qb X)(j:c∈X.a):w.cell? (U (qb c.gL) 1)=some (I c.gL)/\qb c.gL<w.heap.size:=by obtain⟨V,h⟩:=h;obtain⟨cv,k⟩:=h.r.f c j;exact⟨k.cellAt 1 rfl,k.lt⟩
def tL(qb)(n q):sb qb n q n=q:=by unfold sb;simp
def vT(h:jy w cP t p qb X V)(k)(j:X.a.length=8):Calls prog 86 #[O p,I k] w λe w'=>e=gU (.tuple #[.pointer none,I 7])/\w'=w:=by
 have y:=h.cellAt 8 rfl;have A:=Qh w V.bm V.iC _ h.r.mp;clear h;go_wp2;go_ret2;exact⟨rfl,rfl⟩
def Cx.LK{nodes:List Int}{pl:Int}{ct:Ct}(h:∃d∈X.a,d.gL=c.gL):∃c'∈(X.mK c nodes kd pl ct).a,c'.gL=c.gL:=by obtain⟨d,j,e⟩:=h;refine⟨_,aD.2 ⟨d,j,rfl⟩,?_⟩;simp_all
def Cx.WE(h:c∈X.a):∃c'∈(X.dO c).a,c'.gL=c.gL:=by
 unfold Cx.dO;split
 .exact Cx.LK ⟨c,h,rfl⟩
 split
 .exact Cx.LK ⟨c,h,rfl⟩
 exact⟨c,h,rfl⟩
def Cl.YK(h:Cl w cP t p qb X')(j:∃c'∈X'.a,c'.gL=c.gL):w.cell? (U (qb c.gL) 1)=some (I c.gL)/\qb c.gL<w.heap.size:=by obtain⟨c',y,A⟩:=j;have:=h.gL y;simp_all
theorem Uf(h:jy w cP t p qb X V)(M:100<=t)(L:oM X)(h8:X.a.length<8)(hr:X.e.length<=1000000000)(a)(hA:X.T a):iU 46 #[O p,I a] w λP w'=>P=gU (.tuple #[I X.e.length,I 0])/\∃q,w.heap.size<=q/\CS w cP t p (sb qb X.e.length q) (X.EG a) w':=by
 have HL:=gN λw=>mX X.n X.m X.vo X.ce a w;rw[L.rC hA]at HL;unfold Ot at HL;obtain⟨c1,c2,c0,c3⟩:=h.T 1 2 0 3 rfl;have lp:=h.A;have HB:Hid (∀W,Bl w W->_):=λW hW=>Ax (h.bl hW (fz:=cP) ib) h8 hr 2;have HD:Hid (∀w1 y q j,Bl w w1->w1.heap.size<=q->(∀b,b<w1.heap.size->j b=cP b)->Cl y j t p (sb qb X.e.length q) (X.jb (X.jW 2))->gI (λb=>Mc t (cP b)) w1 y->(∃v,y.cell? (U q 3)=some v)/\y.frozen? (U q 3)=false/\q<y.heap.size/\iU 89 #[O p,O q] (y.setCell (U q 3) (I a)) λP w'=>P=iF/\(w'.cell? (U q 1)=some (I X.e.length)/\q<w'.heap.size)/\CS w cP t p (sb qb X.e.length q) (X.EG a) w'):=λw1 y q j hb hq ht hc ho=>by
  obtain⟨V2,hk⟩:=hc;have hm:X.jW 2∈(X.jb (X.jW 2)).a:=by simp[Cx.jb]
  have F:sb qb X.e.length q (X.jW 2).gL=q:=tL _ _ _;obtain⟨cv,kk⟩:=hk.r.f _ hm;rw[F]at kk;obtain⟨S,oA⟩:=hk.XZ hm a;rw[F,Cx.uG X h.r.a.lt rfl rfl]at S;rw[F]at oA;refine⟨⟨_,kk.cellAt 3 rfl⟩,kk.N 3,kk.lt,?_⟩;have Y:({X.jW 2 with iA:=a}:jn)∈(X.jb {X.jW 2 with iA:=a}).a:=by simp[Cx.jb]
  have:=Ql S M ⟨L.oE,L.ll,L.ne,L.a0,L.a1⟩ Y hA rfl;rw[show sb qb X.e.length q ({X.jW 2 with iA:=a}:jn).gL=q from tL _ _ _]at this;refine gS this λw' hs=>?_;refine⟨rfl,?_,CS.BL hb ib (CS.wA ho ht (CS.gR oA hs))⟩;obtain⟨tag3,_,a5,_⟩:=hs;have:=a5.YK (Cx.WE Y);rwa[show sb qb X.e.length q ({X.jW 2 with iA:=a}:jn).gL=q from tL _ _ _]at this
 clear h;go_enter func46,ntmps46;go_wp2_with fail;refine gS (HL _) λw1 A=>?_;have Z:=gN A;have a8:=af lp A.lt;have HG:=gN (HB w1 A);clear A c0 c1 c2 c3 HL HB;go_wp2_with fail;refine HG.L ?_;rintro P y⟨q,rfl,H,j,a0,a1,a2⟩;obtain⟨⟨v3,e3⟩,g3,lq,hD⟩:=HD w1 y q j Z H a0 a1 a2;obtain⟨a3,a6⟩:=gO hD (aF Z.lt H);clear hD HD HG a1 a2 a0 H;go_wp2_with fail;refine a3.L ?_;rintro P w4⟨rfl,⟨e1,a9⟩,a4⟩;have a7:=gN a4;clear a4 a3;go_wp2;go_ret2;exact⟨rfl,q,a6,a7⟩
end Go.Proofs.YtbghhbpacijmmaaGreat
