import Derived.Sort.OwnSortedInts
import Derived.Test.YtbghhbpacijmmaaGreatL08
open Go.Proofs.Tryz
namespace Go.Proofs.YtbghhbpacijmmaaGreat
set_option maxRecDepth 99999
set_option maxHeartbeats 0
set_option linter.defProp false
open Go.RowKit Go.Maps Go.Shelf Go.Sort
attribute [local go_sem ↓] Go.wp_at_zero Go.wp_at_succ
open Go.ChangeMaps (setBlock)
variable {w w' w1:World} {aY qb bp:Nat->Nat} {ps qs:List (Int×List Int)} {t p ga g:Nat} {X X':Cx} {c c':jf} {V V':CV} {v u:Value} {xs:List Value} {cv cv':j7} {ds:List Int} {zz:List (Int×Vo)} {T:Nat->Prop} {Q:Exit->Act->World->Prop} {q:Qn An} {R:List (List Int)} {es:Array MapEntry} {wn:MapEntry->Bool} {ke:MapEntry->Int}
structure Dp(X:Cx):Prop where
 x:mD X
 u:zW X
 e:0<=X.mv.c/\X.mv.c<=1000000000000000
 t:0<=X.kH/\X.kH<=1000000000000000
 a:X.iu+100<=1000000000000000
 r:X.res.length<=1000000000
 l:X.dd.length<=8
 c:∀c∈X.dd,JZ X c
def Cx.B(X:Cx)(R:List (List Int)):Cx:={X with c:=X.mv.c,lay:=R,mv:=Mv.zero,wb:=false,wl:=false}
def Dp.B(h:Dp X)(j:tC R X.lay):mD (X.B R):=
 ⟨h.x.mI,by rw[show(X.B R).lay=R from rfl,j.1];exact h.x.ll,λr y=>by
  obtain⟨ch,d,A,i⟩:=j.mem y
  have D:=h.x.ne ch d
  have F:=A.length_le
  have H:0<r.length:=cU.2 i
  omega,h.x.a0,h.x.a1⟩
def Mh{n j:Nat}(h:j+1<=n):n-(Go.RowKit.intOf (I ((j:Int)+1))).toNat<n-(Go.RowKit.intOf (I (j:Int))).toNat:=by show n-((j:Int)+1).toNat<n-(j:Int).toNat;omega
def Kb{l:List jf}(h:l.Pairwise λc d=>c.gH<d.gH)(j)(y:j<l.length):∀d∈l.drop (j+1),d.gH≠l[j].gH:=λd A=>by have i:=h.sublist (List.drop_sublist j l);rw[cm y,cI]at i;have:=i.1 d A;omega
theorem Ez(h:iN w aY t p qb X V)(h100:100<=t)(ho:Dp X)(va)(vc)(val)(hv:Rd w aY (t+3) 5 (dk va val.length vc) (val.map B8))(hB:mA val):ib 276 #[ptr p,dk va val.length vc] w λen w'=>en=gS/\CS w aY t p qb (X.nL val) w':=by
 obtain⟨b1,b2,_⟩:=ho.x.B;have hll:=ho.x.ll;obtain⟨d6,d24⟩:=h.M 6 24 rfl;have lp:=h.B;obtain⟨gl,clv,hlv⟩:∃gl clv,V.lv=dk (G gl) X.lay.length clv:=by obtain⟨g,arr,cap,f,e,_⟩:=h.r.lay;exact⟨g,cap,e⟩
 rw[hlv]at d6;have HW:=fu (yi V.lv X.lay (dk va val.length vc) val w h.r.lay.TO hv hB C C λc hc=>by have:=ho.x.ne c hc;omega);rw[hlv]at HW;obtain⟨H,Ho⟩:=fl h ho;obtain⟨Y,hY⟩:=dS (X.nL val);rw[hY];unfold Cx.nL at hY;have hsz:(prog.info? 108).map (·.size)=some (sH 0 false).toArray.size:=ij;have hone:(sH 0 false).toArray.all (·.oneCell')=true:=ij;clear h ho hv hB hlv hll
 cases hw:within X.lay val with
 |none=>
  rw[hw]at HW hY;simp only at hY;have HY:=fu hY;clear hw hY;go_enter func276,ntmps276;go_upto_region 3 with(first|(go_at_call 295;refine HW.L ?_;rintro en w2⟨he,hb2⟩;simp only[wX]at he;subst he;have e24:=(hb2.cell lp).H d24;have lp2:=af lp hb2.lt;have hK2:=H.bl hb2 (bp:=aY) gK;obtain⟨hth2,HB⟩:=fl hK2.there hb2;clear HW hb2 hK2)|((show Go.wpList _ _ _ [{dst:=none,op:=Op.store 108 _ _,type:=_,pos:=_,after:=_,guard:=_}] _ _);refine wpList_store_mid rfl 108 (.tmp 26) (.tmp 24) rfl p 24 (sH 0 false).toArray rfl rfl hth2 hsz hone ?_));have hE:w2.setCells p 24 (sH 0 false).toArray.toList=jX w2 p 24 (sH 0 false):=vI p _ 24 _;rw[hE];have hK2:=H.bl HB (bp:=aY) gK;have hK3:=hK2.ya 0 false;have O3:bz (λb=>b=p) w2 (jX w2 p 24 (sH 0 false)):=jw (S:=λb=>b=p) (.inl rfl) _ 24 w2 (bz.refl _ w2);have HS:Hid (CS w aY t p qb Y (jX w2 p 24 (sH 0 false))):=by unfold Hid;rw[<-HY.o];exact CS.mk hK3 ((bz.E HB).H (hK2.mB O3))
  generalize jX w2 p 24 (sH 0 false)=W3 at*;clear hE hK2 hK3 O3 hsz hone hth2;go_wp2;refine aG (v:= .tuple #[]) (by simp[results,results276,go_sem]) rfl ?_;exact⟨rfl,HS⟩
 |some R=>
  rw[hw]at HW hY;simp only at hY;have hS:=(qw hw).2;obtain⟨HXL,HSb⟩:=fl (Ho.B hS) hS;have HY:Hid ((if((X.B R).dd.foldl Cx.lT (X.B R)).iO||decide (((X.B R).dd.foldl Cx.lT (X.B R)).c<((X.B R).dd.foldl Cx.lT (X.B R)).kH)then((X.B R).dd.foldl Cx.lT (X.B R)).jn else(X.B R).dd.foldl Cx.lT (X.B R))=Y):=hY;have hRl:=fu hS.1;clear hw hY hS;go_enter func276,ntmps276;go_upto_region 3 with(first|(go_at_call 295;refine HW.L ?_;rintro en w2⟨he,hb2⟩;simp only[wX]at he;obtain⟨g,ms,rfl,hR⟩:=he;have e24:=(hb2.cell lp).H d24;have lp2:=af lp hb2.lt;have hK2:=H.bl hb2 (bp:=aY) gK;obtain⟨hth2,HB,HR⟩:=gV hK2.there hb2 hR;clear HW hb2 hK2 hR)|((show Go.wpList _ _ _ [{dst:=none,op:=Op.store 108 _ _,type:=_,pos:=_,after:=_,guard:=_}] _ _);refine wpList_store_mid rfl 108 (.tmp 26) (.tmp 24) rfl p 24 (sH 0 false).toArray rfl rfl hth2 hsz hone ?_));have hE:w2.setCells p 24 (sH 0 false).toArray.toList=jX w2 p 24 (sH 0 false):=vI p _ 24 _;rw[hE];have hold:∀b,b<w.heap.size->gN aY w.heap.size (t+3) b=aY b:=λb hb=>fz _ _ _ _ hb;have hK2:=H.bl HB (bp:=gN aY w.heap.size (t+3)) hold;have hK3:=hK2.ya 0 false;have O3:bz (λb=>b=p) w2 (jX w2 p 24 (sH 0 false)):=jw (S:=λb=>b=p) (.inl rfl) _ 24 w2 (bz.refl _ w2);have hL3:pj (jX w2 p 24 (sH 0 false)) (gN aY w.heap.size (t+3)) (t+3) (dk (G g) X.lay.length X.lay.length) R:=(HR.lay λb hb=>ig _ _ _ _ hb).only O3 (λb _ e=>by rw[e,hK2.tp];omega) λ_ _ e=>e;have hK4:=hK3.SS X.mv.c R _ hL3;have O4:=(((O3.setCell (U p 5) (.inl rfl) (I X.mv.c)).setCell (U p 6) (.inl rfl) (dk (G g) X.lay.length X.lay.length)).setCell (U p 53) (.inl rfl) (.bool false)).setCell (U p 54) (.inl rfl) (.bool false);obtain⟨y5,y6,y53,y54⟩:=hK3.Z 5 6 53 54 rfl;obtain⟨f5,f6,f53,f54⟩:=hK3.zN 5 6 53 54;have lp3:=hK3.B;have HO4:Hid (bz (λb=>b=p) w _):=(bz.E HB).H O4;have HK4:=fu hK4;generalize jX w2 p 24 (sH 0 false)=W3 at*;clear hE hK2 hK3 O3 hsz hone hth2 hL3 hK4 O4;go_upto_region 4 with fail;go_cut[]from 2 to 40 λwx=>Hid (iN wx (gN aY w.heap.size (t+3)) t p qb (X.B R) {{V with bg:= .map none,b:= OO,sl:=QV.zero,vt:=QV.zero}with lv:=dk (G g) X.lay.length X.lay.length})/\Hid (bz (λb=>b=p) w wx)
  case first=>go_wp2_with fail;go_meet;exact⟨HK4,HO4⟩
  obtain⟨HKL,HO4⟩:=hcut;obtain⟨W4,hW4⟩:∃W4,W4=wc:=⟨_,rfl⟩;subst hW4;have HCa:=fu (yx HKL Ho.r Ho.l);have lp4:=HKL.B;have hpl:(X.B R).dd.length=X.dd.length:=rfl;go_wp2_with fail;refine HCa.L ?_;rintro en w6⟨v6,rfl,ho6,hb6⟩;obtain⟨a6,c6,rfl⟩:=ja ho6;have hK6:=HKL.bl hb6 (bp:=gN (gN aY w.heap.size (t+3)) W4.heap.size 5) λb hb=>fz _ _ _ _ hb;obtain⟨HK6,HO6,HB6,hpn⟩:=ju hK6 ho6 hb6 hK6.r.pd.gH;clear HCa hK6 ho6 hb6 hpl;have HFin:Hid (∀W tagr Vr,(∀b,b<w6.heap.size->tagr b=gN (gN aY w.heap.size (t+3)) W4.heap.size 5 b)->bz (λb=>Mc t (gN (gN aY w.heap.size (t+3)) W4.heap.size 5 b)) w6 W->iN W tagr t p qb ((X.B R).dd.foldl Cx.lT (X.B R)) Vr->∀Z W',CS W tagr t p qb Z W'->CS w aY t p qb Z W'):=λW tagr Vr ht hO _ Z W' hc=>by
   have l2:=HB.lt;have l4:=HO4.size;have l6:=HB6.lt;have ho:∀b,b<w.heap.size->gN (gN aY w.heap.size (t+3)) W4.heap.size 5 b=aY b:=λb hb=>by rw[fz _ _ _ _ C,fz _ _ _ _ hb]
   refine CS.tF ((H.mB (HO4.H (bz.E HB6))).andThen hO λb hb e=>?_) (λb hb=>(ht b C).H (ho b hb)) hc;rwa[ho b hb]at e
  have h8l:=Ho.l;go_wp2;go_loopw[44](λi wr=>∃j:Nat,j<=X.dd.length/\i=I j/\Hid (CS w6 (gN (gN aY w.heap.size (t+3)) W4.heap.size 5) t p qb (((X.B R).dd.take j).foldl Cx.lT (X.B R)) wr)/\Hid (Si (X.B R) (((X.B R).dd.take j).foldl Cx.lT (X.B R)) j ((X.B R).dd.drop j))) λi _=>X.dd.length-(Go.RowKit.intOf i).toNat
  case atStart=>exact⟨0,jd,rfl,CS.E ⟨_,HK6⟩ jo,⟨rfl,rfl,rfl,rfl,rfl,rfl,rfl,rfl,iI,aq,jc,λd hd=>hd⟩⟩
  obtain⟨j,hj,rfl,HCS,HOv⟩:=hrel;obtain⟨tagr,hr1,⟨Vr,Kr⟩,Or⟩:=HCS.o;by_cases iV:j<X.dd.length
  .have hltI:(j:Int)<(X.dd.length:Int):=C;have hlt2:j<(X.B R).dd.length:=iV;obtain⟨g6,cap',hga⟩:=lL HO6 C;simp only[bO]at hga;obtain⟨rfl,_,rfl⟩:=hga;have hcell:=HO6.cellAt j C;rw[aK,ah hlt2]at hcell;have hgl:=HO6.lt g6 rfl;have hnM:¬Mc t (gN (gN aY w.heap.size (t+3)) W4.heap.size 5 g6):=by rw[ig _ _ _ _ hgl.1];unfold Mc;omega
   have k1:=(Or.cell (b:=g6) (o:=j) hgl.2 hnM).H hcell;simp only[bG]at k1;have hgl2:=af hgl.2 Or.size;have hdr:=cm hlt2;have hOv:=HOv.o;rw[hdr]at hOv;have hOv2:=hOv.step (Kb hpn j hlt2);have htk:(X.B R).dd.take (j+1)=(X.B R).dd.take j++[(X.B R).dd[j]]:=aM hlt2;have hfo:((X.B R).dd.take (j+1)).foldl Cx.lT (X.B R)=(((X.B R).dd.take j).foldl Cx.lT (X.B R)).lT (X.B R).dd[j]:=by rw[htk,dN];rfl
   have hcm:=hOv.mem _ aN;have hCK:JZ (X.B R) (X.B R).dd[j]:=by have:=Ho.c _ (aL iV);exact⟨this.kd,this.ad,this.un,this.nl⟩
   have HOver:=fu (Qr Kr h100 (hOv.OJ HXL (gI Ho.l) Ho.a) hcm (hOv.Vp hCK));have HF:Hid (∀W',CS wr tagr t p qb ((((X.B R).dd.take j).foldl Cx.lT (X.B R)).lT (X.B R).dd[j]) W'->CS w6 (gN (gN aY w.heap.size (t+3)) W4.heap.size 5) t p qb (((X.B R).dd.take (j+1)).foldl Cx.lT (X.B R)) W'):=λW' hc=>by rw[hfo];exact CS.tF Or hr1 hc
   rw[<-hfo]at hOv2;have HOv2:=fu hOv2;have hj1:Hid (j+1<=X.dd.length):=iV;clear HCS HOv Kr Or hr1 hOv hOv2 hfo htk hdr hcm hCK hcell;generalize (X.B R).dd[j]=cc at*;generalize ((X.B R).dd.take j).foldl Cx.lT (X.B R)=Zj at*;generalize qb cc.gH=q at*;go_wp2_with(go_at_call 296;refine ix HOver λw7 HS=>?_);go_roundw
   case rel=>exact⟨j+1,hj1,aq,HF _ HS,HOv2⟩
   exact Mh hj1
  have hge:¬((j:Int)<(X.dd.length:Int)):=C;have hje:j=X.dd.length:=C;subst hje;have htl:(X.B R).dd.take X.dd.length=(X.B R).dd:=bZ;rw[htl]at Kr;have hOv:=HOv.o;rw[htl]at hOv;have HF:=fu (HFin wr tagr Vr hr1 Or Kr);have HH:Hid (∀W,Bl wr W->_):=λW hW=>mf (Kr.bl hW (bp:=tagr) gK) (by rw[hOv.res];exact Ho.r) (aF hOv.len Ho.l);have hxz:=hOv.OJ HXL (gI Ho.l) Ho.a;have hnz:XN ((X.B R).dd.foldl Cx.lT (X.B R)):=⟨by rw[hOv.ep];exact Ho.e,by rw[hOv.kH];exact Ho.t⟩;have HSM:Hid (∀W,Bl wr W->_):=λW hW=>oq (Kr.bl hW (bp:=tagr) gK) h100 hxz hnz;have HKr:=fu Kr;obtain⟨k5,k22⟩:=Kr.M 5 22 rfl;have lpr:=Kr.B;clear HCS HOv Kr Or hr1 hOv hxz hnz htl HFin;generalize (X.B R).dd.foldl Cx.lT (X.B R)=Z at*;go_upto_region 10 with fail;go_cut[64] λx wx=>x=.bool (Z.iO||decide (Z.c<Z.kH))/\Hid (Bl wr wx)
  case first=>
   generalize Z.iO=hc at*
   cases hc
   .go_region_with(go_at_call 91;refine(HH _ ?hb).L ?_;(case hb=>exact iZ);rintro en w7⟨rfl,hb7⟩;have hB7:Bl wr w7:=Bl.H iZ hb7;obtain⟨m5,m22⟩:=hB7.E lpr k5 k22;have lp7:=af lpr hB7.lt;have HB7:=fu hB7;clear hb7 hB7);all_goals(go_wp2_with fail;go_meet)
    all_goals exact⟨aq,HB7⟩
   refine wp_region_any ij ?_;refine ZW (i:=0) (v:=ptr p) rfl ij ij ij (λ_ _ _ h=>h) (Or.inl ⟨jz,λw=>jz⟩) ?_;refine wpAny_ready (rs:=[1]) ij aq ?_;refine AllReady.cons rfl (λK hK=>?_) ?_
   case refine_1=>go_simp;go_wp2_with(go_at_call 91;refine(HH _ ?hb).L ?_;(case hb=>exact iZ);rintro en w7⟨rfl,hb7⟩;have hB7:Bl wr w7:=Bl.H iZ hb7;have HB7:=fu hB7;clear hb7 hB7);refine ZW (i:=2) (v:= .bool true) rfl ij ij ij (λ_ _ _ h=>h) (Or.inl ⟨jz,λw=>jz⟩) ?_;refine ZW (i:=3) (v:=undef) rfl ij ij ij (λ_ _ _ h=>h) (Or.inr ⟨ij,rfl⟩) ?_;refine ZW (i:=4) (v:=undef) rfl ij ij ij (λ_ _ _ h=>h) (Or.inr ⟨ij,rfl⟩) ?_;refine ZW (i:=5) (v:=undef) rfl ij ij ij (λ_ _ _ h=>h) (Or.inr ⟨ij,rfl⟩) ?_;refine ZW (i:=6) (v:=undef) rfl ij ij ij (λ_ _ _ h=>h) (Or.inr ⟨ij,rfl⟩) ?_;refine ZW (i:=7) (v:=undef) rfl ij ij ij (λ_ _ _ h=>h) (Or.inr ⟨ij,rfl⟩) ?_;refine ZW (i:=8) (v:=undef) rfl ij ij ij (λ_ _ _ h=>h) (Or.inr ⟨ij,rfl⟩) ?_;refine ZW (i:=9) (v:=undef) rfl ij ij ij (λ_ _ _ h=>h) (Or.inr ⟨ij,rfl⟩) ?_;refine ZW (i:=10) (v:=undef) rfl ij ij ij (λ_ _ _ h=>h) (Or.inr ⟨ij,rfl⟩) ?_;refine ZW (i:=11) (v:=undef) rfl ij ij ij (λ_ _ _ h=>h) (Or.inr ⟨ij,rfl⟩) ?_;refine ZW (i:=12) (v:= .bool true) rfl ij ij ij (λ_ _ _ h=>h) (Or.inl ⟨ij,λw=>ij⟩) ?_;refine wpAny_done ij ?_ _;go_simp;go_step;go_meet;exact⟨aq,HB7⟩
   case refine_2=>exact AllReady.nil
  case rest=>
   obtain⟨rfl,HB7⟩:=hcut
   cases hb:(Z.iO||decide (Z.c<Z.kH))with
   |true=>have HYe:=HY.o;rw[hb]at HYe;have HSM2:Hid (ib 93 #[ptr p] wc λen w'=>en=gS/\CS w aY t p qb Y w'):=(HSM wc HB7).L λen w'⟨e1,e2⟩=>⟨e1,by rw[<-HYe];exact HF _ _ (CS.F HB7 e2)⟩;clear HSM HF HYe HY hb HH k5 k22;go_wp2_with(go_at_call 93;refine ix HSM2 λw8 HS=>?_);go_end0;exact⟨rfl,HS⟩
   |false=>
    have HYe:=HY.o;rw[hb]at HYe;have HS:Hid (CS w aY t p qb Y wc):=by unfold Hid;rw[<-HYe];exact HF _ _ (CS.E ⟨_,HKr⟩ HB7)
    clear HSM HF HYe HY hb HH k5 k22;go_wp2;go_end0;exact⟨rfl,HS⟩
def xw(h:∀z∈zz,mA z.2.val):mA (jF zz).2:=by
 rw[yI];rcases(BI (zz.map (·.2)) (0,[])).1 with e|⟨v,i,e⟩
 .rw[e];exact λd j=>lY j
 rw[e];obtain⟨z,y,rfl⟩:=aD.1 i;exact h z y
def Fz(h:∀z∈zz,mA z.2.val)(m):mA (sr zz m).2:=by unfold sr;exact xw λz d=>h z (aU.1 d).1
theorem E0(h:iN w aY t p qb X V)(a0:100<=t)(ho:Dp X)(hB:mA X.mv.value):ib 254 #[ptr p] w λS w'=>S=gS/\CS w aY t p qb X.lU w':=by
 obtain⟨a5,a1⟩:=h.M 52 28 rfl;have lp:=h.B;obtain⟨mb,a2⟩:=h.r.vt.B.t.E;have HD:=fu (EO h.r.vt.B.t);rw[a2]at a5 HD;obtain⟨va,vc,A⟩:=h.r.b.E;rw[ay]at A;have D:=h.r.b;rw[A]at a1 D;have a3:Hid (∀W,Bl w W->_):=λW hW=>sK (h.bl hW (bp:=aY) gK) ho.x;have HA:Hid (∀W,Bl w W->ib 276 #[ptr p,dk va X.mv.value.length vc] W λS w'=>S=gS/\CS w aY t p qb (X.nL X.mv.value) w'):=λW hW=>(Ez (h.bl hW (bp:=aY) gK) a0 ho va vc X.mv.value (D.bl hW λ_ _ e=>e) hB).L λS w'⟨e1,e2⟩=>⟨e1,CS.F hW e2⟩;have H:=fu h;obtain⟨Y,Z⟩:=dS X.lU;rw[Z];unfold Cx.lU at Z;have a7:X.oI<=3:=by obtain⟨_,_,_,_,v1,v5,_⟩:=ho.x.B;unfold Cx.oI;omega
 clear h ho hB D A a2;by_cases a4:X.oI<=(oB X.mv.a.B).length
 .rw[aE a4]at Z;rw[Z]at HA;generalize d:(oB X.mv.a.B).length=n at*;have y:((X.oI:Nat):Int)<=((n:Nat):Int):=C;have F:=fu d;clear d;go_enter func254,ntmps254;go_wp2_with(first|(go_at_call 279;refine HD.L ?_;rintro S w2⟨v2,rfl,M,P⟩;obtain⟨a6,rfl⟩:=M.E;have i:=M.yC;rw[F.o]at i;have a8:=(P.cell lp).H a1;have a9:=af lp P.lt;have j:=fu P;clear HD M P)|(go_at_call 275;refine gF (a3 _ j) λw6 h6=>?_;have e6:=h6.symm;clear h6;subst e6)|(go_at_call 276;refine ix (HA _ j) λw5 HS=>?_));go_end0;exact⟨rfl,HS⟩
 rw[az a4]at Z;subst Z;generalize d:(oB X.mv.a.B).length=n at*;have y:¬((X.oI:Nat):Int)<=((n:Nat):Int):=C;have aa:decide (((X.oI:Nat):Int)<=((n:Nat):Int))=false:=iG y;have F:=fu d;clear d;go_enter func254,ntmps254;go_wp2_with(first|(go_at_call 279;refine HD.L ?_;rintro S w2⟨v2,rfl,M,P⟩;obtain⟨a6,rfl⟩:=M.E;have i:=M.yC;rw[F.o]at i;have j:=fu P;clear HD M P)|(go_at_call 275;refine gF (a3 _ j) λw6 h6=>?_;have e6:=h6.symm;clear h6;subst e6));go_end0;exact⟨rfl,CS.E ⟨V,H⟩ j⟩
def iN.US(h:iN w aY t p qb X V):iN (w.setCell (U p 53) (.bool true)) aY t p qb {X with wb:=true} V:=
 h.tB ((bz.refl (λb=>b=p) w).setCell (U p 53) (.inl rfl) _) (iU 53 _ w _ h.hp) ⟨h.r.lay,h.r.res,h.r.tb,h.r.mp,h.r.bo,h.r.bn,h.r.pr,h.r.sl,h.r.vt,h.r.bg,h.r.b,h.r.a,h.r.pd.gH,h.r.pd.lt,h.r.pd.im,h.r.pd.a⟩
def iN.T3(h:iN w aY t p qb X V)(i:X.mv.a.a.kd=7)(d:X.mv.a.B≠[]):iN (w.setCell (U p 26) V.vt.av) aY t p qb {X with mv:={X.mv with E:=X.mv.a.B}} {V with bg:=V.vt.av}:=
 h.tB ((bz.refl (λb=>b=p) w).setCell (U p 26) (.inl rfl) _) (iU 26 _ w _ h.hp) ⟨h.r.lay,h.r.res,h.r.tb,h.r.mp,h.r.bo,h.r.bn,h.r.pr,h.r.sl,h.r.vt,.inr (.inl ⟨i,rfl,rfl,d⟩),h.r.b,h.r.a,h.r.pd.gH,h.r.pd.lt,h.r.pd.im,h.r.pd.a⟩
def Cx.Fl(X:Cx):Cx:={X with wb:=true,mv:={X.mv with E:=X.mv.a.B}}
structure NL(X:Cx):Prop where
 ad:Dp X
 sl:yh X
 sn:X.mv.b.nodes.length<=100
 v:Gl X.mv.a.B
 kd:X.mv.a.a.kd=7
 ne:X.mv.a.B≠[]
 b:0<=X.jB/\X.jB<=1000000000000000
 id:1000<=X.id/\X.id<=1099
theorem Ca(h:iN w aY t p qb X V)(P:100<=t)(ho:NL X):ib 278 #[ptr p] w λen w'=>en=gS/\CS w aY t p qb X.kC w':=by
 have aa:=h.cellAt 53 rfl;have ab:=h.F 53;have lp:=h.B;have D:=h.US;have O1:bz (λb=>b=p) w (w.setCell (U p 53) (.bool true)):=(bz.refl (λb=>b=p) w).setCell (U p 53) (.inl rfl) _;obtain⟨W1,a5⟩:=dS (w.setCell (U p 53) (.bool true));rw[a5]at D O1;have HC:=fu (mf D ho.ad.r ho.ad.l);have ac:({X with wb:=true}:Cx).iO=X.iO:=rfl;rw[ac]at HC;obtain⟨a1,ad⟩:=D.M 54 52 rfl;have a6:=D.B;obtain⟨ag,ai,H⟩:=gV O1 D h;obtain⟨i,a2⟩:=fl ho a5;obtain⟨Y,hY⟩:=dS X.kC;rw[hY];unfold Cx.kC at hY;obtain⟨mb,a7⟩:=h.r.vt.B.t.E;rw[a7]at ad;have an:=fu a7;clear h ho a5 D O1 ac a7;generalize ap:X.iO=hc at*;clear ap;by_cases d:(!hc&& !X.wl)=true
 .rw[aE d]at hY;simp only[bL,eK]at d;obtain⟨rfl,F⟩:=d;rw[F]at a1;clear F;have HS:Hid (∀W,Bl W1 W->CS w aY t p qb Y W):=λW hW=>by rw[<-hY];exact CS.iz (H.mB ag) (CS.E ⟨V,ai⟩ hW)
  clear hY;go_enter func278,ntmps278;go_upto_region 1 with fail;rw[a2.o];clear a2 aa ab;go_wp2_with(go_at_call 91;refine gF HC λw2 A=>?_;have ak:=(A.cell a6).H a1;have ar:=af a6 A.lt;have a8:=fu A;clear A);refine aG (v:= .tuple #[]) (by simp[results,results278,go_sem]) rfl ?_;exact⟨rfl,HS _ a8⟩
 .rw[az d]at hY;have HY:Hid ((if X.Fl.mv.b.J=true then X.Fl else X.Fl.rL).kL=Y):=hY;clear hY
  cases hc
  case' false=>
   cases F:X.wl
   case false=>exact absurd (by rw[F];rfl) d
   rw[F]at a1;clear F d
  all_goals
   go_enter func278,ntmps278;go_upto_region 1 with fail;rw[a2.o];clear a2 aa ab;go_upto_region 2 with(go_at_call 91;refine gF HC λw2 A=>?_;obtain⟨ak,av⟩:=A.E a6 a1 ad;have S:=ai.bl A (bp:=aY) gK;have ar:=S.B;have aw:=S.cellAt 26 rfl;have b0:=S.F 26;obtain⟨b1,a8⟩:=fl S A;clear A S);have Z:=b1.T3 i.kd i.ne;rw[an.o]at Z;have O3:bz (λb=>b=p) w2 (w2.setCell (U p 26) (.map mb)):=(bz.refl (λb=>b=p) w2).setCell (U p 26) (.inl rfl) _;have a3:=fu ((ag.H (bz.E a8)).H O3);go_upto_region 3 with fail;obtain⟨W3,al⟩:=dS (w2.setCell (U p 26) (.map mb));rw[al]at Z a3|-;have HA:=fu (ye (Z.Gy i.sn));have M:mD (X.Fl):=⟨i.ad.x.mI,i.ad.x.ll,i.ad.x.ne,i.ad.x.a0,i.ad.x.a1⟩;have a4:Hid (iN W3 aY t p qb X.Fl _):=Z;clear Z O3 al av aw b0 ak
   cases y:X.mv.b.J with
   |true=>
    have j:X.Fl.mv.b.J=true:=y;have a9:Hid (ib 155 #[.pointer (some (U p 29))] W3 λe w'=>e=gG (.bool true)/\w'=W3):=by have:=HA.o;rw[<-y];exact this
    have HP:Hid (ib 287 #[ptr p] W3 λen w'=>en=gS/\CS w aY t p qb Y w'):=(uf a4 P M ⟨i.sl.ids,i.sl.len⟩ i.ad.u i.ad.r i.ad.l i.v.a ⟨i.b,i.id,i.v.pr⟩).L λen w'⟨e1,e2⟩=>⟨e1,by
     have a0:=HY.o
     rw[show(if X.Fl.mv.b.J=true then X.Fl else X.Fl.rL)=X.Fl from aE j]at a0
     rw[<-a0]
     exact CS.iz (H.mB a3) e2⟩
    have b2:=a4.B;clear HA y j;go_wp2_with(first|(go_at_call 155;refine gF a9 λw6 h6=>?_;have e6:=h6.symm;clear h6;subst e6)|(go_at_call 287;refine ix HP λw5 HS=>?_));go_end0;exact⟨rfl,HS⟩
   |false=>
    have j:X.Fl.mv.b.J=false:=y;have a9:Hid (ib 155 #[.pointer (some (U p 29))] W3 λe w'=>e=gG (.bool false)/\w'=W3):=by have:=HA.o;rw[<-y];exact this
    have b3:=fu (RC a4 P M);have HP:Hid (∀w4,CS W3 aY t p qb X.Fl.rL w4->ib 287 #[ptr p] w4 λen w'=>en=gS/\CS w aY t p qb Y w'):=λw4 ⟨b5,k1,⟨V4,k2⟩,k3⟩=>(uf k2 P ⟨M.mI,M.ll,M.ne,by have:=M.a0;show 0<=X.iu+1;have h1:0<=X.iu:=this;omega,by have:=i.ad.a;show X.iu+1<=_;omega⟩ ⟨λz hz=>by simp[Cx.rL,Qn.new]at hz,by simp[Cx.rL,Qn.new]⟩ i.ad.u i.ad.r i.ad.l i.v.a ⟨i.b,i.id,i.v.pr⟩).L λen w'⟨e1,e2⟩=>⟨e1,by
     have a0:=HY.o
     rw[show(if X.Fl.mv.b.J=true then X.Fl else X.Fl.rL)=X.Fl.rL from az (nI j)]at a0
     rw[<-a0]
     have hl:=a3.size
     exact CS.tF ((H.mB a3).H k3) (λb hb=>k1 b C) e2⟩
    have b2:=a4.B;clear HA y j;go_wp2_with(first|(go_at_call 155;refine gF a9 λw6 h6=>?_;have e6:=h6.symm;clear h6;subst e6)|(go_at_call 298;refine gF b3 λw4 am=>?_;have b4:=fu (HP w4 am);clear am)|(go_at_call 287;refine ix b4 λw5 HS=>?_));go_end0;exact⟨rfl,HS⟩
def Nu(W)(x0 x1 x2)(va)(vn vc):(Instr.field 222 (.agg #[I x0,I x1,I x2,dk va vn vc]) 3).run prog W=.ok (dk va vn vc) W:=rfl
theorem E3(h:iN w aY t p qb X V)(a4:100<=t)(Z:NL X):ib 252 #[ptr p] w λi w'=>i=gS/\CS w aY t p qb X.lF w':=by
 obtain⟨am,a3⟩:=h.M 52 25 rfl;have lp:=h.B;obtain⟨gm,clk,l,a7,_,hM⟩:∃gm clk l,V.vt.av=.map (some gm)/\aY gm=t+6/\Mm w gm clk l X.mv.a.B (nA.ev w aY (t+3)):=by
  obtain⟨_,e⟩|⟨gm,clk,l,e1,e2,e3⟩:=h.r.vt.B
  .exact absurd e Z.ne
  exact⟨gm,clk,l,e1,e2,e3⟩
 rw[a7]at am;have A:=fu (GG hM Z.v.a Z.v.ba Z.v.len X.oI);have D:Hid (∀W,Bl w W->_):=λW hW=>sK (h.bl hW (bp:=aY) gK) Z.ad.x;have a8:Hid (∀W val va vc,Bl w W->Rd W aY (t+3) 5 (lI va val vc) (val.map B8)->mA val->ib 276 #[ptr p,dk va val.length vc] W λi w'=>i=gS/\CS w aY t p qb (X.nL val) w'):=λW val va vc hW F hB=>(Ez (h.bl hW (bp:=aY) gK) a4 Z.ad va vc val F hB).L λi w'⟨e1,e2⟩=>⟨e1,CS.F hW e2⟩;have a9:Hid (∀W,Bl w W->ib 278 #[ptr p] W λi w'=>i=gS/\CS w aY t p qb X.kC w'):=λW hW=>(Ca (h.bl hW (bp:=aY) gK) a4 Z).L λi w'⟨e1,e2⟩=>⟨e1,CS.F hW e2⟩;have aa:Hid (∀W,Bl w W->ib 277 #[.map (some gm)] W λi w'=>∃(x0 x1:Int) (M:Option Addr) (P:Nat),i=gG (.agg #[I x0,I x1,I (jF X.mv.a.B).1,dk M (jF X.mv.a.B).2.length P])/\Rd w' aY (t+3) 5 (dk M (jF X.mv.a.B).2.length P) ((jF X.mv.a.B).2.map B8)/\Bl W w'):=λW hW=>(qu (.inr ⟨gm,clk,l,rfl,hM.bl hW⟩) Z.v.a).L λi w'⟨x0,x1,s,e1,e2,e3⟩=>by obtain⟨M,P,S⟩:=e2.E;rw[ay]at S;subst S;exact⟨x0,x1,M,P,e1,e2,e3⟩
 have a6:Hid (∀W,Bl w W->(Builtin.len_ #[104] 3 #[.map (some gm)]).run prog W=.ok (I X.mv.a.B.length) W):=λW hW=>pI.yC (.inr ⟨gm,clk,l,rfl,hM.bl hW⟩);obtain⟨ab,ac,H⟩:=gV (Fz Z.v.a X.oI) (xw Z.v.a) h;obtain⟨Y,y⟩:=dS X.lF;rw[y];unfold Cx.lF at y;simp only at y;have aw:X.oI<=3:=by obtain⟨_,_,_,_,v1,v5,_⟩:=Z.ad.x.B;unfold Cx.oI;omega
 have b0:=Z.v.len;have hf:=Nu;clear h Z a7 hM;generalize sr X.mv.a.B X.oI=ag at*;obtain⟨a1,a2⟩:=ag;simp only at y A ab;by_cases h0:0<a1
 .rw[aE h0]at y;have d:=fu λW va vc=>a8.o W a2 va vc;rw[y]at d;have hd:decide (0<a1)=true:=iG h0;rw[hd]at A;clear y hd;go_enter func252,ntmps252;go_wp2_with(first|(go_at_call 275;refine gF (D _ jo) λw6 h6=>?_;have e6:=h6.symm;clear h6;subst e6)|(go_at_call 274;refine A.L ?_;rintro i w2⟨x0,x1,s,rfl,F,j⟩;obtain⟨M,P,S⟩:=F.E;rw[ay]at S;subst S;obtain⟨HR,HB⟩:=fl F j;clear F j)|(go_at_call 276;refine ix (d _ _ _ (HB.alloc _) (HR.bl (jo.alloc _) λ_ _ e=>e) ab) λw5 HS=>?_));refine aG (v:= .tuple #[]) (by simp[results,results252,go_sem]) rfl ?_;exact⟨rfl,HS⟩
 rw[az h0]at y;have hd:decide (0<a1)=false:=iG h0;rw[hd]at A;clear hd;generalize ad:X.mv.a.B.length=ln at*;have b1:=fu ad;clear ad;by_cases iV:ln<X.oI
 .rw[aE iV]at y;subst y;have ai:((ln:Nat):Int)<((X.oI:Nat):Int):=C;go_enter func252,ntmps252;go_wp2_with(first|(go_at_call 274;refine A.L ?_;rintro i w2⟨x0,x1,s,rfl,F,j⟩;obtain⟨M,P,S⟩:=F.E;rw[ay]at S;subst S;have a5:=a6 _ (j.alloc (gO (qe x0 x1 a1 M a2 P) 222));have HB:=fu (j.alloc (gO (qe x0 x1 a1 M a2 P) 222));clear F j)|(go_at_call 275;(first|refine(D _ jo).L ?_|refine(D _ HB).L ?_);rintro i w6⟨rfl,h6⟩;have e6:=h6.symm;clear h6;subst e6));refine aG (v:= .tuple #[]) (by simp[results,results252,go_sem]) rfl ?_;exact⟨rfl,CS.E ⟨V,H⟩ HB⟩
 rw[az iV]at y;have ai:¬((ln:Nat):Int)<((X.oI:Nat):Int):=C
 cases a0:X.mv.uk with
 |true=>rw[aE a0]at y;rw[a0]at a3;have d:=fu λW va vc=>a8.o W (jF X.mv.a.B).2 va vc;rw[y]at d;clear y a0;generalize jF X.mv.a.B=hi at*;obtain⟨h1,h2⟩:=hi;simp only at aa d ac;go_enter func252,ntmps252;go_wp2_with(first|(go_at_call 274;refine A.L ?_;rintro i w2⟨x0,x1,s,rfl,F,j⟩;obtain⟨M,P,S⟩:=F.E;rw[ay]at S;subst S;have a5:=a6 _ (j.alloc (gO (qe x0 x1 a1 M a2 P) 222));have hB:=j.alloc (gO (qe x0 x1 a1 M a2 P) 222);have an:=(j.cell lp).H a3;have ap:=af lp j.lt;have HB:=fu hB;clear F j hB)|(go_at_call 275;(first|refine(D _ jo).L ?_|refine(D _ HB).L ?_);rintro i w6⟨rfl,h6⟩;have e6:=h6.symm;clear h6;subst e6)|(go_at_call 277;refine(aa _ HB).L ?_;rintro i w3⟨y0,y1,ta,tc,rfl,ak,al⟩;obtain⟨ar,av⟩:=fl ak (HB.H al);clear ak al)|(go_at_call 276;refine ix (d _ _ _ av ar ac) λw5 HS=>?_));refine aG (v:= .tuple #[]) (by simp[results,results252,go_sem]) rfl ?_;exact⟨rfl,HS⟩
 |false=>rw[az (nI a0)]at y;rw[a0]at a3;rw[y]at a9;clear y a0;go_enter func252,ntmps252;go_wp2_with(first|(go_at_call 274;refine A.L ?_;rintro i w2⟨x0,x1,s,rfl,F,j⟩;obtain⟨M,P,S⟩:=F.E;rw[ay]at S;subst S;have a5:=a6 _ (j.alloc (gO (qe x0 x1 a1 M a2 P) 222));have hB:=j.alloc (gO (qe x0 x1 a1 M a2 P) 222);have an:=(j.cell lp).H a3;have ap:=af lp j.lt;have HB:=fu hB;clear F j hB)|(go_at_call 275;(first|refine(D _ jo).L ?_|refine(D _ HB).L ?_);rintro i w6⟨rfl,h6⟩;have e6:=h6.symm;clear h6;subst e6)|(go_at_call 278;refine ix (a9 _ HB) λw5 HS=>?_));go_end0;exact⟨rfl,HS⟩
structure J5(X:Cx):Prop where
 x:mD X
 u:zW X
 sl:yh X
 v:Gl X.mv.a.B
 bg:Gl X.mv.E
 b:0<=X.jB/\X.jB<=1000000000000000
 id:1000<=X.id/\X.id<=1099
 r:X.res.length<=1000000000
 l:X.dd.length<=8
theorem KL(h:iN w aY t p qb X V)(j:100<=t)(d:J5 X)(x0 x1 x2 x3 x4 x5)(va)(vn vc):ib 271 #[ptr p,.agg #[I x0,I x1,I x2,I x3,I x4,I x5,dk va vn vc]] w λy w'=>y=gS/\CS w aY t p qb X.lE w':=by
 have D:=h.cellAt 41 rfl;have lp:=h.B;have F:=(Bl.refl w).alloc (gO #[I x0,I x1,I x2,I x3,I x4,I x5,dk va vn vc] 215);have M:=h.bl F (bp:=aY) gK;have HP:Hid (ib 287 #[ptr p] _ λy w'=>y=gS/\CS w aY t p qb X.kL w'):=(uf M j d.x d.sl d.u d.r d.l d.bg.a ⟨d.b,d.id,d.bg.pr⟩).L λy w'⟨P,S⟩=>⟨P,CS.F F S⟩;have HD:Hid (ib 253 #[ptr p] _ λy w'=>y=gS/\CS w aY t p qb X.ko w'):=(xd M j d.x d.sl d.u d.r d.l d.bg d.v).L λy w'⟨P,S⟩=>⟨P,CS.F F S⟩;have HF:=fu (CS.E (w':=_) ⟨V,h⟩ F);obtain⟨Y,i⟩:=dS X.lE;rw[i];unfold Cx.lE at i;clear h d M F;by_cases A:X.mv.a.a.kd=7
 .rw[aE A]at i;rw[A]at D;rw[i]at HP;clear i A;go_enter func271,ntmps271;go_wp2_with(go_at_call 287;refine ix HP λw5 W=>?_);go_end0;exact⟨rfl,W⟩
 rw[az A]at i;have Z:(X.mv.a.a.kd==7)=false:=iG A;by_cases H:X.mv.a.a.kd=5
 .rw[aE H]at i;rw[H]at D;rw[i]at HD;clear i H A Z;go_enter func271,ntmps271;go_wp2_with(go_at_call 253;refine ix HD λw5 W=>?_);go_end0;exact⟨rfl,W⟩
 rw[az H]at i;have a0:(X.mv.a.a.kd==5)=false:=iG H;rw[i]at HF;clear i;generalize X.mv.a.a.kd=kd at*;go_enter func271,ntmps271;go_wp2;go_end0;exact⟨rfl,HF⟩
abbrev SG(v:Vo)(va:Option Addr)(vc:Nat):Value:= .agg #[I v.wh,I v.pr,I v.ba,.slice va v.val.length vc]
def Cx.M(Y:Cx)(fr:Int)(v:Vo):Cx:={Y with mv:={Y.mv with a:=Y.mv.a.add fr v,E:=if Y.mv.a.a.kd=7/\Y.mv.E≠[]then Y.mv.a.B++[(fr,v)]else Y.mv.E}}
def iN.Vl(h:iN w aY t p qb X V)(Z:X.mv.a.nodes≠[]){fr:Int}(hf:X.mv.a.M fr=false)(A)(v)(hv:nA.ev w aY (t+3) A v):∃gm clk l,w.cell? (U p 52)=some (.map (some gm))/\w.heap[gm]?=some (.map (gR l) clk)/\(∀e∈l,e.k≠fr)/\iN (qf w gm clk l fr v) aY t p qb (X.M fr A) V/\bz (λb=>Mc t (aY b)) w (qf w gm clk l fr v):=by
 obtain⟨gm,clk,l,P,j,e3,e4,e5,i⟩:=h.r.vt.add C Z hf A v hv;have L:=h.cellAt 52 rfl;rw[P]at L;have M:∀b,b<w.heap.size->aY b=aY b:=λ_ _=>rfl;have F:∀b,b<w.heap.size->b=gm->aY b≠t+3:=λb _ e=>by rw[e,j];omega
 have hB:Lr (qf w gm clk l fr v) aY t (X.M fr A).mv V.bg V.vt.av:=by
  obtain⟨y,D⟩|⟨y,D,S,W⟩|⟨y,D,S⟩:=h.r.bg
  .refine .inl ⟨y,?_⟩;show(if _ then _ else _)=[];rw[az (nI D)];exact D
  .refine .inr (.inl ⟨y,D,?_,?_⟩)
   .show(if _ then _ else _)=_;rw[aE ⟨y,W⟩];rfl
   show(if _ then _ else _)≠_;rw[aE ⟨y,W⟩];simp
  refine .inr (.inr ⟨y,D,?_⟩);show nM _ aY (t+6) (t+3) V.bg (if _ then _ else _);rw[az (mY y)];refine S.only i F (λb Y e=>?_) (λ_ _ e=>e) gK;rw[e]at Y;exact D (Y.H P.symm)
 refine⟨gm,clk,l,L,e3,e4,⟨(i.block p h.B λe=>by have:=h.tp;rw[e,j]at this;omega).H h.hp,h.tp,h.r.lay.only i F λ_ _ e=>e,h.r.res.only i F (λb _ e=>by rw[e,j];omega) M,h.r.tb,(i.block _ h.r.lb λe=>by have:=h.r.tb;rw[e,j]at this;omega).H h.r.mp,h.r.bo,h.r.bn,h.r.pr.only i F (λb _ e=>by rw[e,j];omega) M,h.r.sl.only i F (λb _ e=>by rw[e,j];omega) M,e5,hB,h.r.b.only i F λ_ _ e=>e,λd hd=>?_,h.r.pd.gH,h.r.pd.lt,h.r.pd.im,h.r.pd.a⟩,i.L λb _ e=>by rw[e,j];unfold Mc;omega⟩;obtain⟨dv,hk⟩:=h.r.a d hd;exact⟨dv,hk.only i (λb _ e=>by rw[e,j];omega) M⟩
theorem Mo(h:iN w aY t p qb X V)(A:100<=t)(hx:mD X)(hn:XN X)(hl:X.mv.a.nodes.length<=100)(fr nr lt)(iV:0<=lt/\lt<=1000000000000000)(v)(va)(vc)(hv:Rd w aY (t+3) 5 (dk va v.val.length vc) (v.val.map B8))(bb:(X.iz lt).mv.a.nodes.length<=100)(h7:(X.iz lt).mv.a.E nr fr=true->(X.iz lt).mv.a.a.kd=7->NL ((X.iz lt).M fr v))(h5:(X.iz lt).mv.a.E nr fr=true->(X.iz lt).mv.a.a.kd=5->J5 ((X.iz lt).M fr v))(h6:(X.iz lt).mv.a.E nr fr=true->(X.iz lt).mv.a.a.kd=6->Dp ((X.iz lt).M fr v)/\mA (X.iz lt).mv.value):ib 216 #[ptr p,I fr,I nr,I lt,SG v va vc] w λy w'=>y=gS/\CS w aY t p qb (X.pT fr nr lt v) w':=by
 obtain⟨W,hW⟩:=dS (w.alloc (gO #[I v.wh,I v.pr,I v.ba,dk va v.val.length vc] 222));have bW:=(Bl.refl w).alloc (gO #[I v.wh,I v.pr,I v.ba,dk va v.val.length vc] 222);have hX:=ao w (gO #[I v.wh,I v.pr,I v.ba,dk va v.val.length vc] 222);rw[hW]at bW hX;have lr:=(ae.1 hX).1;have aa:∀b,b<w.heap.size->gN aY w.heap.size 5 b=aY b:=λb d=>fz _ _ _ _ d;have hK:=h.bl bW (bp:=gN aY w.heap.size 5) aa;have F:=fu (rj (hK.G4 hl) nr fr);have lp:=hK.B;obtain⟨Y,hY⟩:=dS (X.pT fr nr lt v);rw[hY];unfold Cx.pT at hY;simp only at hY;obtain⟨HW,BW,HX,HK⟩:=ju hW bW hX hK;obtain⟨H,ak,bc⟩:=gV h (And.intro hx hn) iV;obtain⟨Hl,Hv⟩:=fl hl hv;have al:Hid (∀Z P,CS W (gN aY w.heap.size 5) t p qb Z P->CS w aY t p qb Z P):=λZ P hc=>CS.xG bW aa hc;clear h hx hn hl hv hW bW hX hK iV;by_cases ha:X.mv.a.E nr fr=true
 .rw[aE ha]at hY;rw[ha]at F;have am:Hid (∀W2,Bl W W2->ib 250 #[ptr p,I lt] W2 λy w'=>y=gS/\CS W2 (gN aY w.heap.size 5) t p qb (X.iz lt) w'):=λW2 d=>Bx (HK.bl d (bp:=gN aY w.heap.size 5) gK) A ak.1 ak.2 lt bc;generalize X.iz lt=B at*;have an:=fu hY;clear hY ha;have ap:Hid (∀w3 tag3 V3 W4,iN w3 tag3 t p qb B V3->Bl w3 W4->ib 251 #[.pointer (some (U p 41)),I nr,I fr] W4 λy w'=>y=gG (.bool (B.mv.a.E nr fr))/\Bl W4 w'):=λw3 tag3 V3 W4 hk d=>rj ((hk.bl d (bp:=tag3) gK).G4 bb) nr fr;go_enter func216,ntmps216;go_upto_region 1 with fail;rw[HW.o];clear HW;go_wp2_with fail;refine ix F λw2 i=>?_;go_wp2_with fail;refine gF (am _ i) λw3 bd=>?_;obtain⟨tag3,k1,⟨V3,K3⟩,O3⟩:=bd;obtain⟨ar,av,a5⟩:=gV K3 k1 O3;clear k1 K3 O3;go_wp2_with fail;refine gF (ap w3 tag3 V3 _ ar jo) λS aw=>?_;have a6:=fu aw;clear aw ap am F;have b0:Hid (∀Z P,CS S tag3 t p qb Z P->CS w aY t p qb Z P):=λZ P hc=>by have l1:=i.lt;refine al _ _ (CS.tF ((bz.E i).H (a5.H (bz.E a6))) (λb d=>av.o b C) hc)
  have a0:=ar.bl a6 (bp:=tag3) gK;by_cases d:B.mv.a.E nr fr=true
  .rw[d];obtain⟨_,_,b1,be⟩:=oP d;have l1:=i.lt;have l3:=a5.size;have lw:=BW.lt;have b2:S.heap[w.heap.size]?=some (gO #[I v.wh,I v.pr,I v.ba,dk va v.val.length vc] 222 (0,0)):=(a6.heap C).H ((a5.block w.heap.size C (by rw[ig _ _ _ _ jc];unfold Mc;omega)).H ((i.heap lr).H HX));have b3:Rd S.drew tag3 (t+3) 5 (dk va v.val.length vc) (v.val.map B8):=by have r1:=Hv.bl (BW.H i) (bp:=gN aY w.heap.size 5) (λb d e=>by rw[fz _ _ _ _ d];exact e);have r2:=r1.only a5 (λb d e=>by unfold Mc at e;omega) (bp:=tag3) (λb d e=>by rw[av.o b d];exact e);exact r2.bl (a6.drew) λ_ _ e=>e
   obtain⟨gm,clk,l,b4,ab,ac,b5,ho⟩:=(a0.bl ((Bl.refl S).drew) (bp:=tag3) gK).Vl be b1 v (SG v va vc) ⟨_,rfl,b3⟩;have b6:S.cell? (U p 52)=some (.map (some gm)):=b4;have a3:=yO S gm clk l ab fr (SG v va vc) ac;have a4:=yO S.drew gm clk l ab fr (SG v va vc) ac;obtain⟨r0,r1,r2,r3,bm⟩:=qP b2;have bn:=a0.B;have HZ:Hid (CS w aY t p qb (B.M fr v) (qf S.drew gm clk l fr (SG v va vc))):=b0 _ _ (CS.F ((Bl.refl S).drew) (CS.mk b5 ho));obtain⟨W5,ad⟩:=dS (qf S.drew gm clk l fr (SG v va vc));have D:_=Result.ok () W5:=a4.H (by rw[<-ad]);rw[ad]at HZ;unfold SG at a3 D;clear ad a4 b5 ho b4 ab ac b2 b3 a0;go_upto_region 5 with fail;go_cut[] λwx=>Hid (CS w aY t p qb (B.M fr v) wx)
   case first=>
    go_region;all_goals(go_wp2_with fail;go_meet)
    all_goals exact HZ
   case rest=>
    obtain⟨b7,q1,⟨V5,K5⟩,O5⟩:=hcut.o;have a7:=K5.cellAt 41 rfl;have bo:=K5.B;have b8:(B.M fr v).mv.a.a.kd=B.mv.a.a.kd:=rfl;rw[b8]at a7;have ag:=an.o;rw[aE d]at ag;have a8:Hid ((if B.mv.a.a.kd=7 then(B.M fr v).lF else if B.mv.a.a.kd=5 then(B.M fr v).ko else if B.mv.a.a.kd=6 then(B.M fr v).lU else B.M fr v)=Y):=ag;have HG:Hid (∀Z P,CS wc b7 t p qb Z P->CS w aY t p qb Z P):=λZ P hc=>CS.tF O5 q1 hc;obtain⟨a9,H7,H5,H6⟩:=ju K5 (h7 d) (h5 d) (h6 d);clear hcut K5 O5 q1 b8 ag h7 h5 h6 HZ a3 D b6 r0 r1 r2 r3 d;by_cases e7:B.mv.a.a.kd=7
    .have HC:Hid (ib 252 #[ptr p] wc λy w'=>y=gS/\CS w aY t p qb Y w'):=(E3 a9 A (H7 e7)).L λy w'⟨a1,a2⟩=>⟨a1,by
      have:=a8.o
      rw[aE e7]at this
      rw[<-this];exact HG _ _ a2⟩
     rw[e7]at a7;clear e7;go_wp2_with(go_at_call 252;refine ix HC λw5 HS=>?_);go_end0;exact⟨rfl,HS⟩
    have b9:(B.mv.a.a.kd==7)=false:=by simpa using e7
    by_cases e5:B.mv.a.a.kd=5
    .have j:=H5 e5;have HC:Hid (ib 253 #[ptr p] wc λy w'=>y=gS/\CS w aY t p qb Y w'):=(xd a9 A j.x j.sl j.u j.r j.l j.bg j.v).L λy w'⟨a1,a2⟩=>⟨a1,by
      have:=a8.o
      rw[az e7,aE e5]at this
      rw[<-this];exact HG _ _ a2⟩
     rw[e5]at a7;clear e5 e7 b9 j;go_wp2_with(go_at_call 253;refine ix HC λw5 HS=>?_);go_end0;exact⟨rfl,HS⟩
    have bg:(B.mv.a.a.kd==5)=false:=by simpa using e5
    by_cases e6:B.mv.a.a.kd=6
    .obtain⟨g1,g2⟩:=H6 e6;have HC:Hid (ib 254 #[ptr p] wc λy w'=>y=gS/\CS w aY t p qb Y w'):=(E0 a9 A g1 g2).L λy w'⟨a1,a2⟩=>⟨a1,by
      have:=a8.o
      rw[az e7,az e5,aE e6]at this
      rw[<-this];exact HG _ _ a2⟩
     rw[e6]at a7;clear e5 e7 b9 e6 bg g1 g2;go_wp2_with(go_at_call 254;refine ix HC λw5 HS=>?_);go_end0;exact⟨rfl,HS⟩
    have bq:(B.mv.a.a.kd==6)=false:=by simpa using e6
    have HS:Hid (CS w aY t p qb Y wc):=by have:=a8.o;rw[az e7,az e5,az e6]at this;unfold Hid;rw[<-this];exact HG _ _ (CS.E ⟨_,a9⟩ jo)
    generalize B.mv.a.a.kd=kd at*;go_wp2;go_end0;exact⟨rfl,HS⟩
  have ba:B.mv.a.E nr fr=false:=by simpa using d
  rw[ba];have HS:Hid (CS w aY t p qb Y S):=by have:=an.o;rw[az d]at this;unfold Hid;rw[<-this];exact b0 _ _ (CS.E ⟨_,a0⟩ jo)
  clear d ba a0;go_wp2;refine aG (v:= .tuple #[]) (by simp[results,results216,go_sem]) rfl ?_;exact⟨rfl,HS⟩
 rw[az ha]at hY;have ai:X.mv.a.E nr fr=false:=iG ha;rw[ai]at F;subst hY;have bi:Hid (∀W2,Bl W W2->ib 251 #[.pointer (some (U p 41)),I nr,I fr] W2 λy w'=>y=gG (.bool false)/\Bl W2 w'):=λW2 d=>by have:=rj ((HK.bl d (bp:=gN aY w.heap.size 5) gK).G4 Hl) nr fr;rwa[ai]at this
 clear ha ai;go_enter func216,ntmps216;go_upto_region 1 with fail;rw[HW.o];clear HW;go_wp2_with fail;refine ix F λw2 i=>?_;go_wp2_with fail;refine ix (bi _ i) λw3 bl=>?_;go_wp2;refine aG (v:= .tuple #[]) (by simp[results,results216,go_sem]) rfl ?_;exact⟨rfl,al _ _ (CS.E ⟨V,HK⟩ (i.H bl))⟩
def Cx.tQ(X:Cx)(nr fr:Int):Bool:=X.jg.E nr fr||X.mv.b.E nr fr||X.dd.any λc=>c.q.E nr fr
theorem Ls(h:iN w aY t p qb X V)(D:zZ X)(fr nr):ib 249 #[O p,I fr,I nr] w λd w'=>Bl w w'/\((X.tQ nr fr=true/\∃g o f a,d=gG (.tuple #[.pointer (some (U g o)),.func f #[] a]))\/(X.tQ nr fr=true/\∃g o f a,d=gG (.tuple #[.pointer (some (U g o)),.func f a #[]]))\/(X.tQ nr fr=false/\d=gG (.tuple #[.pointer none,.nilFunc]))):=by
 cases i:X.jg.E nr fr with
 |true=>exact(xy h D fr nr i).L λd w'⟨e,j⟩=>⟨j,.inl ⟨by simp[Cx.tQ,i],_,_,_,_,e⟩⟩
 |false=>
  cases y:X.mv.b.E nr fr with
  |true=>exact(wN h D fr nr i y).L λd w'⟨e,j⟩=>⟨j,.inr (.inl ⟨by simp[Cx.tQ,y],_,_,_,_,e⟩)⟩
  |false=>
   refine(yV h D fr nr i y).L λd w'⟨j,M⟩=>⟨j,?_⟩;obtain⟨c,F,H,P,S,e,_⟩|⟨A,e⟩:=M
   .exact .inl ⟨by simp only[Cx.tQ,i,y,fb,cK];exact⟨c,F,H⟩,_,_,_,_,e⟩
   refine .inr (.inr ⟨?_,e⟩);simp only[Cx.tQ,i,y,fb,dm];exact λc F=>by rw[A c F];simp
theorem KZ(X:Cx)(fr nr)(A)(d:A.wh=5):X.jA fr nr A=if X.tQ nr fr=true then X.iz A.ep else X:=by
 unfold Cx.jA Cx.tQ
 cases y:X.jg.E nr fr with
 |true=>simp[d]
 |false=>
  cases D:X.mv.b.E nr fr with
  |true=>simp[d]
  |false=>
   cases i:X.dd.find? (λc=>c.q.E nr fr)with
   |none=>
    have:(X.dd.any λc=>c.q.E nr fr)=false:=by rw[dm];exact λc j=>bU.1 i c j
    simp[this]
   |some c=>
    have:(X.dd.any λc=>c.q.E nr fr)=true:=by rw[cK];exact⟨c,bu i,cR (p:=λc:jf=>c.q.E nr fr) i⟩
    simp[this,d]
theorem Cw(h:iN w aY t p qb X V)(M:100<=t)(hx:mD X)(hn:XN X)(hl:zZ X)(fr nr)(A)(h5:A.wh=5)(he:0<=A.ep/\A.ep<=1000000000000000)(va)(vc):ib 214 #[O p,I fr,I nr,qi A va vc] w λP w'=>P=gS/\CS w aY t p qb (X.jA fr nr A) w':=by
 rw[KZ X fr nr A h5];obtain⟨W,hW⟩:=dS (w.alloc (rR A va vc));have S:=(Bl.refl w).alloc (rR A va vc);have j:=ao w (rR A va vc);rw[hW]at S j;have y:=h.bl S (bp:=aY) gK;obtain⟨⟨r0,r1,r2,r3,r4,r5,r6⟩,_,lr⟩:=BE j;have HA:=fu (Ls y hl fr nr);have a0:Hid (∀D,Bl W D->ib 250 #[ptr p,I A.ep] D λP w'=>P=gS/\CS w aY t p qb (X.iz A.ep) w'):=λD hb=>(Bx (y.bl hb (bp:=aY) gK) M hx hn A.ep he).L λP w'⟨e1,e2⟩=>⟨e1,CS.F (S.H hb) e2⟩;have HF:Hid (∀D,Bl W D->CS w aY t p qb X D):=λD hb=>CS.E ⟨V,h⟩ (S.H hb);have HW:=fu hW;rw[h5]at r0;obtain⟨Y,F⟩:=dS (if X.tQ nr fr=true then X.iz A.ep else X);rw[F];clear h y hW S j hx hn hl he;unfold qi;unfold rR at HW;rw[h5]at HW|-;clear h5;go_enter func214,ntmps214;go_upto_region 1 with fail;rw[HW.o];clear HW;go_wp2_with fail;refine HA.L ?_;rintro P w2⟨d,⟨H,g,o,f,a,rfl⟩|⟨H,g,o,f,a,rfl⟩|⟨H,rfl⟩⟩;iterate 2
  .rw[aE H]at F;have i:=fu (a0 _ d);rw[F]at i;obtain⟨s0,s1⟩:=d.E lr r0 r1;have a2:=af lr d.lt;clear F d HA r0 r1 H;go_wp2_with(go_at_call 250;refine ix i λw5 a1=>?_);go_end0;exact⟨rfl,a1⟩
 rw[az (nI H)]at F;have Z:=fu (HF _ d);rw[F]at Z;clear F d HA H;go_wp2;first
  |go_end0
  |((try simp only[Exit.inBlock,Exit.then]);refine aG (v:= .tuple #[]) (by simp[results,results214,go_sem]) rfl ?_)
 exact⟨rfl,Z⟩
theorem Ag(h:iN w aY t p qb X V)(a4:100<=t)(hl:zZ X)(fr nr)(hw:X.jg.E nr fr=false)(hs:X.mv.b.E nr fr=true)(A)(h5:A.wh≠5)(ho:J5 {X with mv:={X.mv with b:=X.mv.b.add fr A}})(va)(vc)(ht:Rd w aY (t+3) 5 (dk va A.ct.val.length vc) (A.ct.val.map B8)):ib 214 #[O p,I fr,I nr,qi A va vc] w λen w'=>en=gS/\CS w aY t p qb (X.jA fr nr A) w':=by
 have ab:Hid (X.jA fr nr A=({X with mv:={X.mv with b:=X.mv.b.add fr A}}:Cx).lE):=by unfold Hid Cx.jA;rw[az (nI hw),aE hs,az h5]
 obtain⟨W,hW⟩:=dS (w.alloc (rR A va vc));have bW:=(Bl.refl w).alloc (rR A va vc);have L:=ao w (rR A va vc);rw[hW]at bW L;have M:=h.bl bW (bp:=aY) gK;obtain⟨⟨r0,r1,r2,r3,r4,r5,r6⟩,_,lr⟩:=BE L;obtain⟨HA,HW,ac⟩:=gV (wN M hl fr nr hw hs) hW M;obtain⟨Ht,a5,BW⟩:=gV (ht.bl bW (bp:=aY) λ_ _ e=>e) (oP hs) bW;have ai:(A.wh==5)=false:=iG h5;obtain⟨Hh,Ho⟩:=fl h ho;clear h M hW bW L ht ho;unfold qi;unfold rR at HW;go_enter func214,ntmps214;go_upto_region 1 with fail;rw[HW.o];clear HW;go_wp2_with(go_at_call 249;refine gF HA λw2 d=>?_;have P:=ac.bl d (bp:=aY) gK;have ak:=P.B;obtain⟨s0,s1,s2,s3⟩:=d.J lr r0 r1 r2 r3;obtain⟨s4,s5,s6⟩:=d.F lr r4 r5 r6;have S:=af lr d.lt;obtain⟨Y,ad⟩:=fl d P;clear d P);obtain⟨_,_,F,a6⟩:=a5.o;have a7:nA.ev w2.drew aY (t+3) A (qi A va vc):=⟨_,rfl,Ht.bl (Y.drew) λ_ _ e=>e⟩;obtain⟨gm,clk,l,a8,Z,a0,a1,ho⟩:=(ad.bl ((Bl.refl w2).drew) (bp:=aY) gK).VL a6 F A _ a7;have a9:w2.cell? (U p 40)=some (.map (some gm)):=a8;have a2:=oL w2 gm clk l Z fr (qi A va vc) a0;have i:=oL w2.drew gm clk l Z fr (qi A va vc) a0;have aa:gm≠w.heap.size:=λe=>by have y:=((BW.H Y).cell Hh.B).H (Hh.cellAt 40 rfl);rw[a9]at y;have:=(Hh.r.sl.B.map (b:=gm) (by simpa using y.symm)).1;omega
 have j:bz (λb=>b=gm) w2.drew (qf w2.drew gm clk l fr (qi A va vc)):=jT _ _ _;obtain⟨W3,a3⟩:=dS (qf w2.drew gm clk l fr (qi A va vc));have D:_=Result.ok () W3:=i.H (by rw[<-a3]);rw[a3]at a1 ho j;have al:w.heap.size<W3.heap.size:=af S j.size;obtain⟨t0,t1,t2,t3⟩:=j.J S (Ne.symm aa) s0 s1 s2 s3;obtain⟨t4,t5,t6⟩:=j.F S (Ne.symm aa) s4 s5 s6;obtain⟨HF,HO⟩:=fl (KL a1 a4 Ho A.wh A.ep A.mark A.ct.kd A.ct.cl A.ct.ca va A.ct.val.length vc) ho;unfold qi at a2 D;clear ho j a3 Z a0 a7 a1 i a8 F a6;go_region;all_goals
  go_wp2_with(go_at_call 271;refine ix HF λw5 ag=>?_);go_end0;refine⟨rfl,?_⟩;rw[ab.o];exact CS.F (BW.H (Y.drew)) (CS.iz HO ag)
structure SP(X:Cx)(fr nr:Int)(A:An):Prop where
 x:mD X
 n:XN X
 q:zZ X
 nk:MR X
 ep:0<=A.ep/\A.ep<=1000000000000000
 se:X.mv.b.E nr fr=true->J5 {X with mv:={X.mv with b:=X.mv.b.add fr A}}
 go:∀c∈X.dd,c.q.E nr fr=true->OY (X.put {c with q:=c.q.add fr A}) {c with q:=c.q.add fr A}
theorem F1(h:iN w aY t p qb X V)(d:100<=t)(fr nr)(A)(i:SP X fr nr A)(va)(vc)(y:Rd w aY (t+3) 5 (dk va A.ct.val.length vc) (A.ct.val.map B8)):ib 214 #[O p,I fr,I nr,qi A va vc] w λH w'=>H=gS/\CS w aY t p qb (X.jA fr nr A) w':=by
 by_cases j:A.wh=5
 .exact Cw h d i.x i.n i.q fr nr A j i.ep va vc
 cases D:X.jg.E nr fr with
 |true=>exact Ad h i.q fr nr D A j va vc y
 |false=>
  cases F:X.mv.b.E nr fr with
  |true=>exact Ag h d i.q fr nr D F A j (i.se F) va vc y
  |false=>exact Cz h d i.x i.q i.nk fr nr D F A j i.go va vc y
def rI.only(h:rI w v ds)(i:bz T w w')(A:∀b,v.ownBlock=some b->¬T b):rI w' v ds:=by obtain⟨b,o,c,rfl,y,D,F,L⟩:=h;exact⟨b,o,c,rfl,af y i.size,D,F,λj d M=>(i.cell y (A b rfl)).H (L j d M)⟩
def rI.E(h:rI w v ds):∃a c,v=dk a ds.length c:=by obtain⟨b,o,c,rfl,_⟩:=h;simp_all
def rI.lt(h:rI w v ds):∀b,v.ownBlock=some b->b<w.heap.size:=by obtain⟨b,o,c,rfl,i,_⟩:=h;intro b' d;simp only[Value.ownBlock,aJ]at d;omega
def zm{i:Int}{ns val:List Int}(A:0<=i)(D:i<=255)(F:ns.length<=255)(H:val.length<=255)(L:∀d∈val,0<=d/\d<=255):∀d∈iB i ns val,0<=d/\d<=255:=by
 intro d hd;unfold iB at hd;simp only[aT,bh,eB,dB,or_false]at hd;obtain (rfl|rfl|rfl)|⟨x,_,y⟩|hd:=hd
 .omega
 .omega
 .omega
 .unfold rD at y;obtain⟨j,_,rfl⟩:=aD.1 y;exact vB x j
 simp_all
theorem F6(h:iN w aY t p qb X V)(j:100<=t)(fr nr)(A)(hR:SP X fr nr A)(v)(hv:rI w v (iB 101 [nr,A.wh,A.ep,A.mark,A.ct.kd,A.ct.cl,A.ct.ca] A.ct.val))(M:Rc.Ok vT ⟨101,[nr,A.wh,A.ep,A.mark,A.ct.kd,A.ct.cl,A.ct.ca],A.ct.val⟩)(P:∀b,v.ownBlock=some b->¬Mc t (aY b)):ib 162 #[O p,I fr,v] w λen w'=>en=gS/\CS w aY t p qb (X.jA fr nr A) w':=by
 have HR:=fu (zR v nr A.wh A.ep A.mark A.ct.kd A.ct.cl A.ct.ca A.ct.val w hv M);have S:∀d∈iB 101 [nr,A.wh,A.ep,A.mark,A.ct.kd,A.ct.cl,A.ct.ca] A.ct.val,0<=d/\d<=255:=zm au au aq M.v1 M.Tw;have y:(iB 101 [nr,A.wh,A.ep,A.mark,A.ct.kd,A.ct.cl,A.ct.ca] A.ct.val).length<=1100000000000:=by exact aF (F8 M) au
 have HV:Hid (∀W,rI W v (iB 101 [nr,A.wh,A.ep,A.mark,A.ct.kd,A.ct.cl,A.ct.ca] A.ct.val)->_):=λW hW=>ES v _ W hW (by simp[iB]) y S (by simp[iB]);obtain⟨Hh,Hp,a4⟩:=gV h hv P;obtain⟨a5,Y⟩:=fl hR j;obtain⟨vb,Z,a6⟩:=hv.E;subst a6;clear h hv M P S hR y j;generalize (iB 101 [nr,A.wh,A.ep,A.mark,A.ct.kd,A.ct.cl,A.ct.ca] A.ct.val)=ds at*;go_enter func162,ntmps162;go_wp2_with fail;refine HR.L ?_;rintro en w1⟨va,vc,rfl,D,F⟩;have bX:=(Bl.refl w1).alloc (rR A va vc);have i:∀b,b<w.heap.size->gN aY w.heap.size (t+3) b=aY b:=λb L=>fz _ _ _ _ L;have HO:=fu i;have a0:=Hh.bl (D.H bX) (bp:=gN aY w.heap.size (t+3)) i;obtain⟨HP,H⟩:=fl (F1 a0 Y fr nr A a5 va vc ((Rd.pB (aY:=gN aY w.heap.size (t+3)) (t:=t+3) F λb L=>ig _ _ _ _ (F.lt b L).1).bl bX λ_ _ e=>e)) (D.H bX);unfold qi at HP;unfold rR at HP bX H;clear HR D F a0 bX i;go_wp2_with(go_at_call 214;refine gF HP λw2 hs=>?_;have HS:=fu hs;clear hs HP);have a1:rI w2 (lI vb ds Z) ds:=by
  obtain⟨_,_,_,o2⟩:=HS.o;exact(Hp.bl H).only o2 (λb L e=>by
   rw[HO.o b (Hp.lt b L)]at e
   exact a4 b L e)
 have a2:=fu (HV w2 a1);clear a1 HV;refine gF a2 λw3 a3=>?_;have a7:=fu a3;clear a2 a3;go_wp2;go_end0;exact⟨rfl,CS.xG H HO (HS.post (a7.alloc _))⟩
structure T0(X:Cx)(fr nr lt:Int)(v:Vo):Prop where
 x:mD X
 n:XN X
 l1:X.mv.a.nodes.length<=100
 iV:0<=lt/\lt<=1000000000000000
 l2:(X.iz lt).mv.a.nodes.length<=100
 h7:(X.iz lt).mv.a.E nr fr=true->(X.iz lt).mv.a.a.kd=7->NL ((X.iz lt).M fr v)
 h5:(X.iz lt).mv.a.E nr fr=true->(X.iz lt).mv.a.a.kd=5->J5 ((X.iz lt).M fr v)
 h6:(X.iz lt).mv.a.E nr fr=true->(X.iz lt).mv.a.a.kd=6->Dp ((X.iz lt).M fr v)/\mA (X.iz lt).mv.value
theorem KH(h:iN w aY t p qb X V)(y:100<=t)(fr nr lt)(u)(hR:T0 X fr nr lt u)(v)(hv:rI w v (iB 102 [nr,lt,u.wh,u.pr,u.ba] u.val))(F:Rc.Ok vZ ⟨102,[nr,lt,u.wh,u.pr,u.ba],u.val⟩):ib 162 #[O p,I fr,v] w λen w'=>en=gS/\CS w aY t p qb (X.pT fr nr lt u) w':=by
 have H:∀d∈iB 102 [nr,lt,u.wh,u.pr,u.ba] u.val,0<=d/\d<=255:=zm au au aq F.v1 F.Tw;have A:(iB 102 [nr,lt,u.wh,u.pr,u.ba] u.val).length<=1100000000000:=by exact aF (F8 F) au
 have HR:=fu (Cu v _ w hv (by simp[iB]) A H (by simp[iB]));have HV:Hid (∀W,rI W v (iB 102 [nr,lt,u.wh,u.pr,u.ba] u.val)->_):=λW L=>CB v nr lt u.wh u.pr u.ba u.val W L F;obtain⟨Hh,Hp,i,M⟩:=ju h hv hR y;obtain⟨vb,a3,a0⟩:=hv.E;subst a0;clear h hv F H hR A y;generalize (iB 102 [nr,lt,u.wh,u.pr,u.ba] u.val)=ds at*;go_enter func162,ntmps162;go_wp2_with fail;refine gF HR λw1 P=>?_;have a1:=fu P;clear HR P;obtain⟨W,L⟩:=dS (w1.alloc Ga);have bW:=a1.alloc Ga;rw[L]at bW;obtain⟨S,BW,HW⟩:=gV (HV W (Hp.bl bW)) bW L;clear HV L bW;go_wp2_with fail;rw[HW.o];refine S.L ?_;rintro en w2⟨va,vc,rfl,Y,D⟩;have bX:=(Bl.refl w2).alloc (gO #[I u.wh,I u.pr,I u.ba,dk va u.val.length vc] 222);have j:∀b,b<w.heap.size->gN aY w.heap.size (t+3) b=aY b:=λb hb=>fz _ _ _ _ hb;have bb:=BW.H (Y.H bX);have Z:=Hh.bl bb (bp:=gN aY w.heap.size (t+3)) j;obtain⟨HP,HO,a2⟩:=gV (Mo Z M i.x i.n i.l1 fr nr lt i.iV u va vc ((Rd.pB (aY:=gN aY w.heap.size (t+3)) (t:=t+3) D λb hb=>ig _ _ _ _ (aF BW.lt (D.lt b hb).1)).bl bX λ_ _ e=>e) i.l2 i.h7 i.h5 i.h6) j bb;unfold SG ptr at HP;clear S Y D Z bX j bb;go_wp2_with(go_at_call 216;refine gF HP λw3 hs=>?_;have HS:=fu hs;clear hs HP);go_end0;exact⟨rfl,CS.xG a2 HO HS⟩
theorem sW(fr)(v)(Q:World->Prop)(h:ib 162 #[O p,I fr,v] w λd w'=>d=gS/\Q w'):ib 102 #[O p,I fr,v] w λd w'=>d=gS/\Q w':=by
 have H:=fu h;clear h;go_enter func102,ntmps102;go_wp2_with fail;refine gF H λw' i=>?_;have j:=fu i;clear H i;go_wp2;go_end0;exact⟨rfl,j⟩
def J9(d:List Int)(w)(base)(y:w.ownsRow base 3 1 v d.length (d.map I))(hn:d.length<=100):ib 95 #[v] w λe w'=>e=gS/\bz (λk=>v.ownBlock=some k) w w'/\w'.ownsRow base 3 1 v d.length ((d.mergeSort leI).map I):=by
 obtain⟨A,D⟩|⟨F,i,H,M,P,j,S,W,Y,Z⟩:=y.2
 .subst A;have hz:d=[]:=List.eq_nil_of_length_eq_zero D;subst hz;refine(AZ none 0 w).L ?_;rintro e w'⟨rfl,rfl⟩;exact⟨rfl,sQ,iG y⟩
 subst M;refine(Any.slices_Sort_int Tryz.IT F 0 i d w (holds_of_blockI j (iG Z)) (ae.1 j).1 C).L ?_;rintro e w'⟨rfl,n,os,rfl⟩;exact⟨rfl,(bz.B (grownBy_sortedI _)).L λk _ e=>by simpa [Value.ownBlock]using e.symm,ownsRow_sortedI (by rw[List.length_mergeSort]) P j S W Y⟩
theorem SI{bm clk:Nat}(c8:w.cell? (U p 8)=some (.map (some bm)))(_lp:p<w.heap.size)(hm:w.heap[bm]?=some (.map es clk))(bo:∀x∈es.toList,x.born<clk)(nd:(es.toList.map (·.born)).Nodup)(hv:∀x∈es.toList,x.key=I (ke x)/\∃q,x.val= O q/\∀W,Bl w W->ib 94 #[O q] W λe w'=>e=gG (.bool (wn x))/\w'=W)(hs:es.size<=8):ib 51 #[O p] w λen w'=>∃v,en=gG v/\w'.ownsRow w.heap.size 3 1 v (es.toList.filter wn).length ((((es.toList.filter wn).map ke).mergeSort leI).map I)/\Bl w w':=by
 obtain⟨i3,ji,a9,aa,ab⟩:=fx Tryz.sU;obtain⟨HM,ac,ad⟩:=gV hm bo nd;obtain⟨HV,HS⟩:=fl hv hs;have lm:=(ae.1 hm).1;clear hm bo nd hv hs;go_enter func51,ntmps51;go_wp2_with(at_range;refine jS _ rfl _ 98 rfl 3 163 underlying98 bm es clk rfl HM ac ad ?_;intro hI;generalize hr:w.heap.size=r at hI|-;obtain⟨HI,HR⟩:=fl hI hr;clear hr hI);go_frame;go_loopw[3](λv wr=>∃(d:List MapEntry) (j:List Int),Hid (Bl w wr)/\Hid (wr.ownsRow r 3 1 v j.length (j.map I))/\Hid (j.Perm ((d.filter wn).map ke))/\Hid (It wr r bm es clk d)) λ_ wr=>es.size-(wr.iterSeen r).size
 case atStart=>exact⟨[],[],jo.alloc _,mC,fK _,HI⟩
 obtain⟨d,j,HB,HG,HZ,HJ⟩:=hrel;go_wp2_with(at_next;refine kl _ rfl _ rfl r bm clk es d rfl HJ ?_ ?_)
 .intro h0;have Y:j.Perm ((es.toList.filter wn).map ke):=HZ.H ((h0.filter wn).map ke);have hl:j.length=(es.toList.filter wn).length:=by rw[Y.length_eq];simp
  have ag:(es.toList.filter wn).length<=8:=aF (bF _ _) (iG HS.o);have S:=mergeSort_of_perm_i Y;have Z:=fu (J9 j wr r HG C);rw[S,hl]at Z;have ai:=fu HG.lt;clear S hl ag Y;go_wp2_with fail;refine Z.L ?_;rintro en w2⟨rfl,a4,a5⟩;obtain⟨ak,al⟩:=fl a4 a5;clear a4 a5;go_wp2;go_ret;have am:=HR.o;subst am;exact⟨_,rfl,al,HB.B ak λk e=>(ai k e).1⟩
 intro e W he A hO an;obtain⟨ap,q,hq,a6⟩:=HV e (iG he);rw[hq,ap]at an|-;have M:Bl w W:=HB.B hO λb hb=>gI HR.o;have Z:=fu (a6 W M);have P:W.ownsRow r 3 1 u3 j.length (j.map I):=hO.iJ HG λg e e'=>by obtain⟨cc,i⟩:=ny HG g e;have:=HJ.it;rw[e']at i;rw[this]at i;simp at i
 have a7:Hid (u3.ownBlock≠some r/\u3.ownBlock≠some bm):=⟨λe=>by
  obtain⟨cc,i⟩:=ny P _ e
  rw[A.it]at i;simp at i,λe=>by
  obtain⟨cc,i⟩:=ny P _ e
  rw[A.mp]at i;simp at i⟩
 obtain⟨a0,HO,a1,a8⟩:=ju A hO P M;have ar:j.length+1<=9:=by have h1:=HZ.length_eq;have h2:=HJ.len;have h3:=HS.o;have h4:=bF wn d;rw[ay]at h1;omega
 have av:Hid (j.length+1<=maxLen):=mQ;have aw:Hid ((j.length+1)*8<=140737488355328):=lQ;have b0:=fu A.lr;have b4:=M.lt;have D:Hid (∀w3:World,It w3 r bm es clk (e::d)->es.size-(w3.iterSeen r).size<es.size-(wr.iterSeen r).size):=λw3 h3=>by
  have e1:w3.iterSeen r=((e::d).map (·.born)).reverse.toArray:=by unfold World.iterSeen;rw[h3.it]
  have e2:wr.iterSeen r=(d.map (·.born)).reverse.toArray:=by unfold World.iterSeen;rw[HJ.it]
  have:=h3.len;rw[e1,e2];simp at this|-;omega
 clear P M A hO he HG a6 ar
 cases y:wn e with
 |false=>
  rw[y]at Z;have a2:=fu y;clear y;go_wp2_with(go_at_call 94;refine Z.L ?_;rintro en w2⟨rfl,rfl⟩);go_roundw
  case rel=>exact⟨e::d,j,a8,a1,by unfold Hid;rw[cT,az (nI a2.o)];exact HZ,a0⟩
  exact D _ a0
 |true=>
  rw[y]at Z;have a2:=fu y;clear y;go_wp2_with fail;refine Z.L ?_;rintro en w2⟨rfl,rfl⟩;generalize hk:ke e=kk at*;have Hk:=fu hk;clear hk;go_wp2_with(at_builtin;refine fm _ rfl _ _ 24 rfl r 3 i3 (I 0) 1 8 underlying24 ji a9 aa ab rfl au u3 j.length _ rfl (a1.alloc _) (U w2.heap.size 0) 1 1 [I kk] rfl rfl (ZV _ _ _) qR au av aw (by have:=b0.o;simp;omega) (w2.heap.size+1) aq ?_);intro g' cap w3 F L b1 b2;have O3:=bz.B L;have b3:Bl w w3:=(a8.alloc _).B O3 λk e=>by have:=(a1.lt k e.symm).1;have:=HR.o;omega
  have r3:It w3 r bm es clk (e::d):=(a0.bl ((Bl.refl w2).alloc _)).only O3 (λe=>a7.1 e.symm) λe=>a7.2 e.symm;have a3:Hid (w3.ownsRow r 3 1 (dk (G g') (j.length+1) cap) (j++[kk]).length ((j++[kk]).map I)):=by unfold Hid;simpa using F
  obtain⟨R3,B3⟩:=fl r3 b3;clear F L b1 O3 b3 r3;go_wp2;go_roundw
  case rel=>refine⟨e::d,j++[kk],B3,a3,?_,R3⟩;unfold Hid;rw[cT,aE a2.o,bj,Hk.o];exact(gk).H (HZ.cons kk)
  case measure=>exact D _ R3
theorem Ei(h:iN w aY t p qb X V)(M:X.dd.length<=8)(P:∀c∈X.dd,c.q.nodes.length<=100):ib 51 #[O p] w λF w'=>∃v,F=gG v/\w'.ownsRow w.heap.size 3 1 v X.jl.length (X.jl.map λ(n:Nat)=>I (n:Int))/\Bl w w':=by
 have j:∀x∈(J1 X qb V).toList,∃c∈X.dd,x=(jV qb V.bo c).B:=λx y=>by obtain⟨e,S,rfl⟩:=kZ y;obtain⟨c,i,rfl⟩:=aD.1 S;exact⟨c,i,rfl⟩
 have Y:(J1 X qb V).toList=X.dd.map λc=>(jV qb V.bo c).B:=by simp[gR,Function.comp_def]
 obtain⟨wn,A⟩:∃wn:MapEntry->Bool,∀c∈X.dd,wn (jV qb V.bo c).B=Cx.lV c:=by
  refine⟨λx=>((X.dd.find? λc=>Go.RowKit.intOf x.key==((c.gH:Nat):Int)).map Cx.lV).getD false,λc i=>?_⟩;have:X.dd.find? (λd=>((c.gH:Nat):Int)==((d.gH:Nat):Int))=some c:=by
   cases e:X.dd.find? (λd=>((c.gH:Nat):Int)==((d.gH:Nat):Int))with
   |none=>have:=bU.1 e c i;simp at this
   |some d=>have D:=cR (p:=λd:jf=>((c.gH:Nat):Int)==((d.gH:Nat):Int)) e;simp at D;rw[qt h.r.pd.gH (bu e) i C]
  show((X.dd.find? λd=>((c.gH:Nat):Int)==((d.gH:Nat):Int)).map Cx.lV).getD false=Cx.lV c;rw[this];rfl
 have H:((J1 X qb V).toList.filter wn)=(X.dd.filter Cx.lV).map λc=>(jV qb V.bo c).B:=by rw[Y,dZ];congr 1;exact dH λc i=>A c i
 have Z:((J1 X qb V).toList.filter wn).length=X.jl.length:=by rw[H];simp[Cx.jl]
 have hk:(((J1 X qb V).toList.filter wn).map λx=>Go.RowKit.intOf x.key)=X.jl.map λ(n:Nat)=>(n:Int):=by rw[H,br];unfold Cx.jl;rw[br];rfl
 have hs:(X.jl.map λ(n:Nat)=>(n:Int)).mergeSort leI=X.jl.map λ(n:Nat)=>(n:Int):=by refine fI ?_;unfold Cx.jl;rw[br,cj];refine(h.r.pd.gH.filter _).imp fun{a b} hh=>?_;unfold leI;simp;omega
 refine(SI (ke:=λx=>Go.RowKit.intOf x.key) (wn:=wn) (h.cellAt 8 rfl) h.B h.r.mp (λx y=>?_) ?_ (λx y=>?_) (by simpa [gR]using M)).L ?_
 .obtain⟨c,i,rfl⟩:=j x y;exact h.r.bo c i
 .have:(J1 X qb V).toList.map (·.born)=X.dd.map λc=>V.bo c.gH:=by simp[gR,Function.comp_def,Ae.B,jV]
  rw[this];exact h.r.bn
 .obtain⟨c,i,rfl⟩:=j x y;refine⟨rfl,qb c.gH,rfl,λW hW=>?_⟩;obtain⟨cv,k⟩:=(h.bl hW (bp:=aY) gK).r.a c i;rw[A c i];exact pU k (P c i)
 rintro F w'⟨v,rfl,D,h2⟩;rw[Z,hk,hs,br]at D;exact⟨v,rfl,D,h2⟩
def jf.sC(c:jf):jf:={c with q:={c.q with mP:=true}}
def Cx.zU(X:Cx)(s:List Int):Cx:={X with dd:=X.dd.map λc=>if s.contains (c.gH:Int)then c.sC else c}
def Cx.MS(X:Cx):X.zU []=X:=by unfold Cx.zU;simp
def Cx.OC(X:Cx)(s)(h:∀c∈X.dd,(c.gH:Int)∈s):X.zU s={X with dd:=X.dd.map jf.sC}:=by unfold Cx.zU;simp_all
def Cx.J2(X)(i:sL X)(j:c∈X.dd)(s):X.zU ((c.gH:Int)::s)=(X.zU s).put (if s.contains (c.gH:Int)then c.sC else c).sC:=by
 have y:(if s.contains (c.gH:Int)then c.sC else c).sC=c.sC:=by split<;>rfl
 rw[y];unfold Cx.zU Cx.put;simp only[br];congr 1;refine bf λd A=>?_;simp only[Function.comp_apply];by_cases e:d.gH=c.gH
 .have:=qt i.gH A j e;subst this;rw[aE aq,aE (by split<;>simp[jf.sC])]
 have D:¬(if s.contains (d.gH:Int)then d.sC else d).gH=c.sC.gH:=by split<;>simpa [jf.sC]using e
 rw[az D];have:((c.gH:Int)::s).contains (d.gH:Int)=s.contains (d.gH:Int):=by rw[List.contains_cons];have:((d.gH:Int)==(c.gH:Int))=false:=gM;rw[this,fb]
 rw[this]
def Cx.Dg(X:Cx)(d:c∈X.dd)(s):(if s.contains (c.gH:Int)then c.sC else c)∈(X.zU s).dd:=aD.2 ⟨c,d,rfl⟩
def iN.sC(h:iN w aY t p qb X V)(d:c∈X.dd):iN (w.setCell (U (qb c.gH) 27) (.bool true)) aY t p qb (X.put c.sC) V/\bz (λb=>Mc t (aY b)) w (w.setCell (U (qb c.gH) 27) (.bool true)):=by obtain⟨cv,k⟩:=h.r.a c d;have i:bz _ w (w.setCell (U (qb c.gH) 27) (.bool true)):=(bz.refl (λb=>b=qb c.gH) w).setCell (U (qb c.gH) 27) (.inl rfl) _;exact h.RY d k i (k.B i (iU 27 _ w _ k.hq) rfl k.gZ k.iR k.e ⟨k.q.val,k.q.nodes,k.q.B,k.q.nil⟩) rfl rfl
def iN.To(h:iN w aY t p qb X V):iN (jX ((w.setCell (U p 54) (.bool X.wb)).setCell (U p 22) (I 0)) p 24 (sH 0 false)) aY t p qb {X with wl:=X.wb,kH:=0,mv:=Mv.zero} {V with bg:= .map none,b:= OO,sl:=QV.zero,vt:=QV.zero}:=by
 have d:iN _ aY t p qb {X with wl:=X.wb,kH:=0} V:=
  h.tB (((bz.refl (λb=>b=p) w).setCell (U p 54) (.inl rfl) _).setCell (U p 22) (.inl rfl) _) (iU 22 _ _ _ (iU 54 _ w _ h.hp)) ⟨h.r.lay,h.r.res,h.r.tb,h.r.mp,h.r.bo,h.r.bn,h.r.pr,h.r.sl,h.r.vt,h.r.bg,h.r.b,h.r.a,h.r.pd.gH,h.r.pd.lt,h.r.pd.im,h.r.pd.a⟩
 exact d.ya 0 false
theorem RI(h:iN w aY t p qb X V)(ak:100<=t)(hx:mD X)(hn:XN X)(ha:X.iu<=999999999999999)(hr:X.res.length<=1000000000)(h8:X.dd.length<=8)(hq:∀c∈X.dd,c.q.nodes.length<=100):ib 97 #[O p] w λen w'=>en=gS/\CS w aY t p qb X.kR w':=by
 obtain⟨X1,A⟩:∃X1:Cx,X1={X with wl:=X.wb,kH:=0,mv:=Mv.zero}:=⟨_,rfl⟩;obtain⟨Y,hY⟩:∃Y:Cx,Y={X1 with dd:=X1.dd.map jf.sC}:=⟨_,rfl⟩;have hT:X.kR=(if(if Y.jl.length<Y.dd.length then Y.jR else Y).iO then(if Y.jl.length<Y.dd.length then Y.jR else Y).jn else(if Y.jl.length<Y.dd.length then Y.jR else Y)):=by subst hY A;rfl
 have b5:mD Y:=by subst hY A;exact⟨hx.mI,hx.ll,hx.ne,hx.a0,hx.a1⟩
 have b6:mD Y.jR:=by subst hY A;exact⟨hx.mI,hx.ll,hx.ne,by show 0<=X.iu+1;have:=hx.a0;omega,by show X.iu+1<=_;omega⟩
 have ag:XN Y:=by subst hY A;exact⟨hn.e,by show(0:Int)<=0/\(0:Int)<=_;omega⟩
 have b7:XN Y.jR:=⟨ag.e,ag.t⟩;have b8:Y.res.length<=1000000000:=by subst hY A;exact hr
 have b9:Y.dd.length<=8:=by subst hY A;simpa using h8
 have ba:∀c∈Y.dd,c.q.nodes.length<=100:=by subst hY A;intro c hc;obtain⟨d,hd,rfl⟩:=aD.1 hc;exact hq d hd
 have H1:=h.To;rw[<-A]at H1;generalize ({V with bg:= .map none,b:= OO,sl:=QV.zero,vt:=QV.zero}:CV)=V1 at H1;have O1:bz (λb=>b=p) w (jX ((w.setCell (U p 54) (.bool X.wb)).setCell (U p 22) (I 0)) p 24 (sH 0 false)):=jw (S:=λb=>b=p) (.inl rfl) (sH 0 false) 24 _ (((bz.refl (λb=>b=p) w).setCell (U p 54) (.inl rfl) _).setCell (U p 22) (.inl rfl) _);have ap:=h.mB O1;obtain⟨W1,ar⟩:=dS (jX ((w.setCell (U p 54) (.bool X.wb)).setCell (U p 22) (I 0)) p 24 (sH 0 false));rw[ar]at H1 ap;obtain⟨c1,c2⟩:=h.M 53 22 rfl;have c3:=h.F 22;have c4:=h.cellAt 54 rfl;have c5:=h.F 54;have bb:Hid (((w.setCell (U p 54) (.bool X.wb)).setCell (U p 22) (I 0)).there p 24 (sH 0 false).toArray.size):=λj hj=>by have hh:=iU 22 (I 0) _ _ (iU 54 (.bool X.wb) w _ h.hp);refine⟨?_,aP _ p _ _ 114 hh⟩;rw[ax _ p _ _ 114 (0,0) hh];have:j<29:=hj;simp[pO];omega
 have lp:=h.B;obtain⟨bc,D,c6,HT⟩:=ju ar H1 ap hT;obtain⟨bd,c7,c8,c9⟩:=ju b5 b6 ag b7;obtain⟨be,av,ca⟩:=gV b8 b9 ba;obtain⟨HY,P⟩:=fl hY ak;clear h ar H1 O1 ap hT b5 b6 ag b7 b8 b9 ba hY A hx hn hr h8 hq ha ak;go_enter func97,ntmps97;have bi:(prog.info? 108).map (·.size)=some (sH 0 false).toArray.size:=ij;have al:(sH 0 false).toArray.all (·.oneCell')=true:=ij;go_upto_region 2 with((show Go.wpList _ _ _ [{dst:=none,op:=Op.store 108 _ _,type:=_,pos:=_,after:=_,guard:=_}] _ _);refine wpList_store_mid rfl 108 (.tmp 19) (.tmp 15) rfl p 24 (sH 0 false).toArray rfl rfl bb bi al ?_);have hE:((w.setCell (U p 54) (.bool X.wb)).setCell (U p 22) (I 0)).setCells p 24 (sH 0 false).toArray.toList=W1:=(vI p _ 24 _).H bc;rw[hE];have d8:=D.cellAt 8 rfl;have cr:=D.B;have bl:=fu D.r.mp;have bn:Hid (∀x∈(gR (X1.dd.map (jV qb V1.bo))).toList,x.born<V1.clk):=λx hx=>by obtain⟨e,he,rfl⟩:=kZ hx;obtain⟨c,hc,rfl⟩:=aD.1 he;exact D.r.bo c hc
 have bo:Hid (((gR (X1.dd.map (jV qb V1.bo))).toList.map (·.born)).Nodup):=by
  have:(gR (X1.dd.map (jV qb V1.bo))).toList.map (·.born)=X1.dd.map λc=>V1.bo c.gH:=by simp[gR,Function.comp_def,Ae.B,jV]
  unfold Hid;rw[this];exact D.r.bn
 have cb:=D.r.lb;have cc:=fu D.r.tb;clear c2 c3 c4 c5 c1 bi al bb bc hE;generalize bq:V1.bm=bm at*;generalize am:V1.clk=clk at*;obtain⟨bs,cp⟩:=fl bq am;clear bq am;obtain⟨es,aw⟩:=dS (gR (X1.dd.map (jV qb V1.bo)));rw[aw]at bl bn bo;have bv:=fu aw;clear aw;go_wp2_with(at_range;refine jS _ rfl _ 98 rfl 3 163 underlying98 bm es clk rfl bl bn bo ?_;intro hI;generalize hr:W1.heap.size=r at hI|-;obtain⟨HI,HR⟩:=fl hI hr;clear hr hI);obtain⟨y,a0⟩:=dS (gN aY W1.heap.size 5);have a2:Hid (∀b,b<W1.heap.size->y b=aY b):=λb hb=>by rw[<-a0];exact fz _ _ _ _ hb
 have bw:Hid (y r=5):=by unfold Hid;rw[<-a0,<-HR.o];exact ig _ _ _ _ jc
 have cd:Hid (y bm=t+1):=(a2 bm cb).H cc;clear a0;go_frame;go_loopw[](λwr=>∃i:List MapEntry,Hid (iN wr y t p qb (X1.zU (i.map λx=>Go.RowKit.intOf x.key)) V1)/\Hid (bz (λb=>Mc t (aY b)) W1 wr)/\Hid (It wr r bm es clk i)) λwr=>es.size-(wr.iterSeen r).size
 case atStart=>exact⟨[],by unfold Hid;rw[eT,Cx.MS];exact D.bl (jo.alloc _) a2,(bz.refl _ W1).alloc _,HI⟩
 obtain⟨i,HC,HO,HJ⟩:=hrel;go_wp2_with(at_next;refine kl _ rfl _ rfl r bm clk es i rfl HJ ?_ ?_)
 .intro h0;have bA:X1.zU (i.map λx=>Go.RowKit.intOf x.key)=Y:=by rw[HY.o];refine Cx.OC X1 _ λc hc=>aD.2 ⟨(jV qb V1.bo c).B,h0.mem_iff.2 ?_,rfl⟩;rw[<-bv.o];simp only[gR];exact aD.2 ⟨_,aD.2 ⟨c,hc,rfl⟩,rfl⟩
  have hK:=HC.o;rw[bA]at hK;have HK:=fu hK;have e8:=hK.cellAt 8 rfl;rw[bs.o]at e8;have cs:=hK.B;have b0:=hK.r.mp;rw[bs.o]at b0;have bB:=NK wr bm _ _ b0;rw[ay]at bB;have bC:=fu (Ei hK av ca);have HG:Hid (∀w2 Z,CS wr y t p qb Z w2->CS w aY t p qb Z w2):=λw2 Z hs=>CS.tF c6 gK (CS.tF HO a2 hs)
  clear hK b0 bA HC h0 d8 HJ;go_wp2_with fail;refine bC.L ?_;rintro en w2⟨v,rfl,bD,bE⟩;obtain⟨va,cq,rfl⟩:=ja bD;have a3:=fu bE;clear bC bD bE;have a4:=fu (HK.bl a3 (bp:=y) gK);have ce:=a4.B;by_cases hw:Y.jl.length<Y.dd.length
  .rw[aE hw]at HT;have b1:=fu (zT a4 P bd);have cf:(Y.jl.length:Int)<(Y.dd.length:Int):=C;clear hw;unfold ptr at b1;go_wp2_with fail;refine gF b1 λw3 bR=>?_;have a5:=fu bR;clear bR b1;obtain⟨tag3,a6,⟨V3,F⟩,a7⟩:=a5.o;have a1:=fu (mf F (by exact be) (by exact av));have HM:Hid (∀W,Bl w3 W->ib 93 #[ptr p] W λen w'=>en=gS/\CS w2 y t p qb (Y.jR).jn w'):=λW hW=>(oq (F.bl hW (bp:=tag3) gK) P c7 c9).L λen w'⟨e1,e2⟩=>⟨e1,CS.tF a7 a6 (CS.xG hW gK e2)⟩
   have cg:=F.B;unfold ptr at a1 HM;clear a6 F a7;go_wp2_with fail;refine gF a1 λw4 a8=>?_;have a9:=fu a8;clear a8 a1
   cases M:(Y.jR).iO with
   |false=>rw[M,az aq]at HT;clear M;go_wp2;go_end0;refine⟨rfl,?_⟩;rw[HT.o];exact HG _ _ (CS.F a3 (a5.post a9))
   |true=>rw[M,aE rfl]at HT;have aa:=fu (HM w4 a9);clear M HM;go_wp2_with fail;refine gF aa λw5 ab=>?_;have b2:=fu ab;clear ab aa;go_wp2;go_end0;refine⟨rfl,?_⟩;rw[HT.o];exact HG _ _ (CS.F a3 b2)
  rw[az hw]at HT;have cf:¬(Y.jl.length:Int)<(Y.dd.length:Int):=C;clear hw;obtain⟨w3,bT⟩:=dS w2;have a5:Hid (CS w2 y t p qb Y w3):=by rw[<-bT];exact CS.E ⟨V1,a4⟩ jo
  obtain⟨tag3,a6,⟨V3,F⟩,a7⟩:=a5.o;have a1:=fu (mf F (by exact be) (by exact av));have HM:Hid (∀W,Bl w3 W->ib 93 #[ptr p] W λen w'=>en=gS/\CS w2 y t p qb (Y).jn w'):=λW hW=>(oq (F.bl hW (bp:=tag3) gK) P bd c8).L λen w'⟨e1,e2⟩=>⟨e1,CS.tF a7 a6 (CS.xG hW gK e2)⟩
  have cg:=F.B;unfold ptr at a1 HM;clear a6 F a7;rw[bT]at ce|-;go_wp2_with fail;refine gF a1 λw4 a8=>?_;have a9:=fu a8;clear a8 a1
  cases M:(Y).iO with
  |false=>rw[M,az aq]at HT;clear M;go_wp2;go_end0;refine⟨rfl,?_⟩;rw[HT.o];exact HG _ _ (CS.F a3 (a5.post a9))
  |true=>rw[M,aE rfl]at HT;have aa:=fu (HM w4 a9);clear M HM;go_wp2_with fail;refine gF aa λw5 ab=>?_;have b2:=fu ab;clear ab aa;go_wp2;go_end0;refine⟨rfl,?_⟩;rw[HT.o];exact HG _ _ (CS.F a3 b2)
 intro e W he bV hO ch;obtain⟨c,hc,b3⟩:∃c∈X1.dd,e=(jV qb V1.bo c).B:=by rw[<-bv.o]at he;obtain⟨e',ci,rfl⟩:=kZ (iG he);obtain⟨c,hc,rfl⟩:=aD.1 ci;exact⟨c,hc,rfl⟩
 have ac:e.key=I (c.gH:Int):=by rw[b3];rfl
 have an:e.val= O (qb c.gH):=by rw[b3];rfl
 rw[ac,an]at ch|-;have b4:=HC.only hO (bp:=y) (λb _ e=>by rw[e,bw.o];have:=P.o;omega) gK;obtain⟨K2,O2⟩:=b4.sC (X1.Dg hc (i.map λx=>Go.RowKit.intOf x.key));rw[<-Cx.J2 X1 D.r.pd hc]at K2;have ad:(if(i.map λx=>Go.RowKit.intOf x.key).contains (c.gH:Int)then c.sC else c).gH=c.gH:=by split<;>rfl
 rw[ad]at K2 O2;obtain⟨cv,k⟩:=b4.r.a _ (X1.Dg hc (i.map λx=>Go.RowKit.intOf x.key));rw[ad]at k;have ct:=k.cellAt 27 rfl;have cx:=k.F 27;have lq:=k.lt;have tq:=k.tq;have ai:Hid (qb c.gH≠r/\qb c.gH≠bm):=⟨λe=>by rw[e,bw.o]at tq;have:=P.o;omega,λe=>by rw[e,cd.o]at tq;omega⟩;obtain⟨a4,ck,bW,cl⟩:=ju K2 O2 bV hO;have bX:Hid (bz (λb=>b=qb c.gH) W (W.setCell (U (qb c.gH) 27) (.bool true))):=(bz.refl (λb=>b=qb c.gH) W).setCell (U (qb c.gH) 27) (.inl rfl) _;have cn:Hid (Go.RowKit.intOf e.key=(c.gH:Int)):=by unfold Hid;rw[ac];rfl
 clear K2 O2 bV hO b4 k tq ac an b3 he ad;generalize co:qb c.gH=q at*;clear co;go_wp2;go_roundw
 case rel=>
  refine⟨e::i,?_,?_,bW.only bX (λe=>ai.1 e.symm) λe=>ai.2 e.symm⟩
  .unfold Hid;rw[bj,cn.o];exact a4
  unfold Hid;have h1:bz (λb=>Mc t (aY b)) W1 W:=HO.andThen cl λb hb e=>gI HR.o;exact h1.andThen ck λb hb e=>by rw[<-a2.o b hb];exact e
 case measure=>
  have c0:=bW.only bX (λe=>ai.1 e.symm) λe=>ai.2 e.symm;have e1:(W.setCell (U q 27) (.bool true)).iterSeen r=((e::i).map (·.born)).reverse.toArray:=by unfold World.iterSeen;rw[c0.it]
  have e2:wr.iterSeen r=(i.map (·.born)).reverse.toArray:=by unfold World.iterSeen;rw[HJ.it]
  have:=c0.len;rw[e1,e2];simp at this|-;omega
structure qX(base:Nat)(w:World)(v:Value)(ps:List (Int×List Int))(xs:List Value):Prop where
 gZ:w.ownsRow base 179 2 v ps.length xs
 f:∀i z,ps[i]?=some z->xs[2*i]?=some (I z.1)/\∃u,xs[2*i+1]?=some u/\w.ownsRow base 5 1 u z.2.length (z.2.map B8)
 ap:∀i j u v b,i<j->xs[2*i+1]?=some u->xs[2*j+1]?=some v->u.ownBlock=some b->v.ownBlock≠some b
def qX.nil(base)(w):qX base w OO [] []:=⟨mC,λi z h=>lY h,λi j u v b _ h=>lY h⟩
def qX.only{base:Nat}(h:qX base w v ps xs)(y:bz T w w')(A:∀b,base<=b->b<w.heap.size->¬T b):qX base w' v ps xs:=
 ⟨y.iJ h.gZ λb d=>A b (h.gZ.lt b d).1 (h.gZ.lt b d).2,λi z D=>by
  obtain⟨F,u,H,j⟩:=h.f i z D
  exact⟨F,u,H,y.iJ j λb d=>A b (j.lt b d).1 (j.lt b d).2⟩,h.ap⟩
def qX.bl{base:Nat}(h:qX base w v ps xs)(d:Bl w w'):qX base w' v ps xs:=h.only (bz.E d) λ_ _ _ e=>e
def qX.push{base:Nat}{w2:World}{tt:Int}{cap:Nat}(h:qX base w v ps xs)(hb:Bl w w1)(Y:w1.ownsRow w.heap.size 5 1 u ds.length (ds.map B8))(A:base<=w.heap.size)(P:w2.ownsRow base 179 2 (dk (G g) (ps.length+1) cap) (ps.length+1) (xs++[I tt,u]))(D:(w1.alloc (gO #[I tt,u] 179)).grownBy w2 v.ownBlock):qX base w2 (dk (G g) (ps.length+1) cap) (ps++[(tt,ds)]) (xs++[I tt,u]):=by
 have d:xs.length=2*ps.length:=by have:=h.gZ.1;omega
 have Z:=h.bl hb;have O2:bz (λb=>v.ownBlock=some b) w1 w2:=(bz.E ((Bl.refl w1).alloc _)).H ((bz.B D).L λk _ e=>e.symm);have oj:∀{m:Nat} {z:Value} {ys:List Value},w1.ownsRow base 5 1 z m ys->w2.ownsRow base 5 1 z m ys:=λy=>O2.iJ y λb F e=>j6 y Z.gZ au b F e;refine⟨by rw[aO];exact P,λi z y=>?_,λi j a c b a0 S M W=>?_⟩
 .by_cases iV:i<ps.length
  .rw[aB iV]at y;obtain⟨k1,u',k2,k3⟩:=Z.f i z y;exact⟨by rw[aB C];exact k1,u',by rw[aB C];exact k2,oj k3⟩
  have hi:i=ps.length:=by have:=(aj.1 y).1;simp at this;omega
  subst hi;rw[aC jc]at y;simp at y;subst y;refine⟨by rw[aC C,d];simp,u,by rw[aC C,d];simp,oj (gL Y λb F=>aF A (Y.lt b F).1)⟩
 have a1:2*j+1<(xs++[I tt,u]).length:=(aj.1 M).1;simp[d]at a1;have a2:i<ps.length:=C;rw[aB C]at S;by_cases iV:j<ps.length
 .rw[aB C]at M;exact h.ap i j a c b a0 S M W
 have hj:j=ps.length:=C;subst hj;rw[aC C,d]at M;simp at M;subst M;obtain⟨_,u',k2,k3⟩:=h.f i ps[i] (ah a2);rw[k2]at S;simp only[aJ]at S;subst S;intro e;have Z:=(k3.lt b W).2;have h2:=(Y.lt b e).1;omega
def qX.app{base B:Nat}{Z:Value}{ys:List Value}(h:qX base w v ps xs)(iV:∀i u b,xs[2*i+1]?=some u->u.ownBlock=some b->b<B)(k:qX B w u qs ys)(hB:base<=B)(L:w'.ownsRow base 179 2 Z (ps.length+qs.length) (xs++ys))(ho:bz (λb=>v.ownBlock=some b) w w'):qX base w' Z (ps++qs) (xs++ys):=by
 have d:xs.length=2*ps.length:=by have:=h.gZ.1;omega
 have oj:∀{c m:Nat} {z:Value} {ls:List Value},w.ownsRow c 5 1 z m ls->w'.ownsRow c 5 1 z m ls:=λy=>ho.iJ y λb S e=>j6 y h.gZ au b S e;refine⟨by rw[aO];exact L,λi z y=>?_,λi j a c b W M A D=>?_⟩
 .by_cases hl:i<ps.length
  .rw[aB hl]at y;obtain⟨Y,P,F,H⟩:=h.f i z y;exact⟨by rw[aB C];exact Y,P,by rw[aB C];exact F,oj H⟩
  rw[aC C]at y;obtain⟨Y,P,F,H⟩:=k.f _ z y;refine⟨?_,P,?_,oj (gL H λb hb=>aF hB (H.lt b hb).1)⟩
  .rw[aC C,d,<-Nat.mul_sub];exact Y
  rw[aC C,d,show 2*i+1-2*ps.length=2*(i-ps.length)+1 by omega];exact F
 by_cases hi:i<ps.length
 .rw[aB C]at M;by_cases hj:j<ps.length
  .rw[aB C]at A;exact h.ap i j a c b W M A D
  rw[aC C,d,show 2*j+1-2*ps.length=2*(j-ps.length)+1 by omega]at A;intro e;have h1:=iV i a b M D;have a0:=(aj.1 A).1;have a1:ys.length=2*qs.length:=by have:=k.gZ.1;omega
  obtain⟨_,P,F,H⟩:=k.f (j-ps.length) qs[j-ps.length] (ah C);rw[A]at F;simp only[aJ]at F;subst F;have:=(H.lt b e).1;omega
 rw[aC C,d,show 2*i+1-2*ps.length=2*(i-ps.length)+1 by omega]at M;rw[aC C,d,show 2*j+1-2*ps.length=2*(j-ps.length)+1 by omega]at A;exact k.ap _ _ a c b C M A D
def qX.low{base:Nat}(h:qX base w v ps xs):∀i u b,xs[2*i+1]?=some u->u.ownBlock=some b->b<w.heap.size:=λi u b j y=>by
 have A:xs.length=2*ps.length:=by have:=h.gZ.1;omega
 have:=(aj.1 j).1;obtain⟨_,F,d,D⟩:=h.f i ps[i] (ah C);rw[j]at d;simp only[aJ]at d;subst d;exact(D.lt b y).2
def qX.one{base:Nat}(h:qX base w v ps xs):∀u∈xs,u.oneCell'=true:=λu F=>by
 have H:xs.length=2*ps.length:=by have:=h.gZ.1;omega
 obtain⟨i,D,rfl⟩:=aV.1 F;have j:i/2<ps.length:=C;obtain⟨y,M,A,L⟩:=h.f (i/2) ps[i/2] (ah j);by_cases P:i%2=0
 .have d:2*(i/2)=i:=C;rw[d,ah D]at y;simp only[aJ]at y;rw[y];rfl
 have d:2*(i/2)+1=i:=C;rw[d,ah D]at A;simp only[aJ]at A;rw[A];exact CX L
def mZ{P:Program}(w){A:Array Oper}{rest:List Oper}{o:Oper}{a:Act}(hg:o.guard=none)(s y)(t)(D:o.op=Op.call {callee:=Callee.builtin Builtin.append,args:=#[s,y],argTypes:=#[t,t]})(base)(e)(i)(z)(size bytes)(h1:P.underlying t=some (.slice e))(h2:P.info? e=some i)(h3:i.zero=some z)(h4:i.size=size)(h5:i.bytes=bytes)(h6:z.cells.size=size)(h7:0<size)(v)(n)(xs)(hs:a.eval s=v)(d:w.ownsRow base e size v n xs)(u)(m b0)(news)(hu:a.eval y=u)(F:w.ownsRow b0 e size u m news)(W:∀q∈news,q.oneCell'=true)(b1:n+m<=maxLen)(b2:(n+m)*bytes<=140737488355328)(Y:base<=w.heap.size)(hK:∀H w',w'.ownsRow base e size H (n+m) (xs++news)->bz (λb=>v.ownBlock=some b) w w'->(∀b,H.ownBlock=some b->v.ownBlock=some b\/w.heap.size<=b)->wpList P A Q rest (a.put o.dst H) w'):wpList P A Q (o::rest) a w:=by
 obtain⟨Z,a0⟩|⟨g,cap,a1,M,_⟩:=F.2
 .have hl:=F.1;subst a0;obtain rfl:news=[]:=aW.1 C;refine wpList_append_own_none hg s y t D base e i size h1 h2 v n xs hs d (hu.H Z) ?_;exact hK v w (iG d) sQ λb Y=>.inl Y
 refine wpList_append_own_at w hg s y t D base e i z size bytes h1 h2 h3 h4 h5 h6 h7 v n xs hs d (U g 0) m cap news (hu.H M) F.1 (λj x hj=>?_) W b1 b2 Y ?_
 .rw[mU,bP];subst M;rw[F.cellAt j (by have:=(aj.1 hj).1;have:=F.1;omega)];exact hj
 intro H w' r1 r2 _ r4;refine hK H w' r1 ((bz.B r2).L λk _ e=>e.symm) λb S=>?_;obtain r4|r4:=r4
 .exact .inl (qO r4 S)
 rw[S]at r4;simp at r4;exact .inr C
def SZ(r:Rq):List Int:=iB r.kd [r.ln,r.nr,r.ep,r.pl,r.ct.kd,r.ct.cl,r.ct.ca] r.ct.val
def Qn.GV{α:Type}(q:Qn α)(k:Nat):List (Int×List Int):=((q.nodes.take k).filter λnd=> !q.M nd).map λnd=>(nd,SZ q.a)
def Qn.F{α:Type}(q:Qn α):List (Int×List Int):=q.iE.map λz=>(z.1,SZ z.2)
def Qn.PS{α:Type}(q:Qn α)(k):(q.GV k).length<=k:=by unfold Qn.GV;rw[ay];refine aF (bF _ _) ?_;rw[bH];omega
def Qn.Re{α:Type}(q:Qn α)(k)(h:k<q.nodes.length)(d:q.M q.nodes[k]=true):q.GV (k+1)=q.GV k:=by unfold Qn.GV;rw[aM h,cz];simp[d]
def Qn.Tu{α:Type}(q:Qn α)(k)(h:k<q.nodes.length)(d:q.M q.nodes[k]=false):q.GV (k+1)=q.GV k++[(q.nodes[k],SZ q.a)]:=by unfold Qn.GV;rw[aM h,cz];simp[d]
def Qn.Iu{α:Type}(q:Qn α)(h:q.mP=true):q.GV q.nodes.length=q.F:=by unfold Qn.GV Qn.F Qn.iE;rw[bZ,aE h,br];rfl
structure QC{α:Type}[nA α](w:World)(aY:Nat->Nat)(ga t g o:Nat)(q:Qn α)(V:QV):Prop where
 r:QR w aY ga t q V
 c0:w.cell? (U g o)=some (I q.a.kd)
 c1:w.cell? (U g (o+1))=some (I q.a.ln)
 c2:w.cell? (U g (o+2))=some (I q.a.nr)
 c3:w.cell? (U g (o+3))=some (I q.a.ep)
 c4:w.cell? (U g (o+4))=some (I q.a.pl)
 c5:w.cell? (U g (o+5))=some (I q.a.ct.kd)
 c6:w.cell? (U g (o+6))=some (I q.a.ct.cl)
 c7:w.cell? (U g (o+7))=some (I q.a.ct.ca)
 c8:w.cell? (U g (o+8))=some V.vv
 c9:w.cell? (U g (o+9))=some V.nv
 MA:w.cell? (U g (o+11))=some V.av
 lg:g<w.heap.size
def QC.bl{α:Type}[nA α]{o:Nat}{q:Qn α}{V:QV}(h:QC w aY ga t g o q V)(d:Bl w w'):QC w' aY ga t g o q V:=
 ⟨h.r.only (iD d) (λ_ _ e=>e.elim) (λ_ _ e=>e.elim) gK,(d.cell h.lg).H h.c0,(d.cell h.lg).H h.c1,(d.cell h.lg).H h.c2,(d.cell h.lg).H h.c3,(d.cell h.lg).H h.c4,(d.cell h.lg).H h.c5,(d.cell h.lg).H h.c6,(d.cell h.lg).H h.c7,(d.cell h.lg).H h.c8,(d.cell h.lg).H h.c9,(d.cell h.lg).H h.MA,af h.lg d.lt⟩
def Tl{V:QV}(M:QR w aY ga t q V)(x):∃(P S W Y Z x5:Int) (va:Option Addr) (vn vc:Nat),(Instr.lookup 101 V.av (I x) true).run prog w=.ok (.tuple #[.agg #[I P,I S,I W,I Y,I Z,I x5,dk va vn vc],.bool (q.M x)]) w:=by
 obtain⟨A,e⟩|⟨gm,clk,l,A,_,d⟩:=M.B
 .have:q.M x=false:=by unfold Qn.M;rw[e];rfl
  rw[this];exact⟨0,0,0,0,0,0,none,0,0,by rw[A];exact xF w x⟩
 rw[A];have a0:=d.len;by_cases D:∃e∈l,e.k=x
 .obtain⟨j,e,L,e2,e3⟩:=xD w gm clk l d.mp x D;have hj:=(aj.1 L).1;have F:j<q.B.length:=C;obtain⟨f1,s,f2,f3⟩:=d.f j e q.B[j] L (ah F);obtain⟨a,cc,rfl⟩:=f3.E;have:q.M x=true:=by unfold Qn.M;rw[cK];exact⟨q.B[j],aL _,by simpa using f1.symm.H e2⟩
  rw[this];exact⟨_,_,_,_,_,_,_,_,_,j4 e3 f2⟩
 have:q.M x=false:=by unfold Qn.M;rw[dm];intro z H e;obtain⟨i,hi,rfl⟩:=aV.1 H;have y:i<l.length:=C;exact D ⟨l[i],aL y,by rw[(d.f i l[i] _ (ah y) (ah hi)).1];simpa using e⟩
 rw[this];exact⟨0,0,0,0,0,0,none,0,0,yN w gm clk l d.mp x λe he e'=>D ⟨e,he,e'⟩⟩
theorem Gw(w)(g o)(i:w.cell? (U g (o+10))=some (.bool false)):ib 209 #[.pointer (some (U g o))] w λd w'=>d=gG OO/\w'=w:=by
 go_enter func209,ntmps209;go_wp2;go_ret;exact⟨rfl,rfl⟩
def Tt{q:Qn Vo}{V:QV}(M:QR w aY ga t q V)(x):∃(P S W:Int) (Y:Option Addr) (Z vc:Nat),(Instr.lookup 104 V.av (I x) true).run prog w=.ok (.tuple #[.agg #[I P,I S,I W,dk Y Z vc],.bool (q.M x)]) w:=by
 obtain⟨A,e⟩|⟨gm,clk,l,A,_,d⟩:=M.B
 .have:q.M x=false:=by unfold Qn.M;rw[e];rfl
  rw[this];exact⟨0,0,0,none,0,0,by rw[A];exact wL w x⟩
 rw[A];have a0:=d.len;by_cases D:∃e∈l,e.k=x
 .obtain⟨j,e,L,e2,e3⟩:=xA w gm clk l d.mp x D;have hj:=(aj.1 L).1;have F:j<q.B.length:=C;obtain⟨f1,s,f2,f3⟩:=d.f j e q.B[j] L (ah F);obtain⟨a,cc,rfl⟩:=f3.E;have:q.M x=true:=by unfold Qn.M;rw[cK];exact⟨q.B[j],aL _,by simpa using f1.symm.H e2⟩
  rw[this];exact⟨_,_,_,_,_,_,j4 e3 f2⟩
 have:q.M x=false:=by unfold Qn.M;rw[dm];intro z H e;obtain⟨i,hi,rfl⟩:=aV.1 H;have y:i<l.length:=C;exact D ⟨l[i],aL y,by rw[(d.f i l[i] _ (ah y) (ah hi)).1];simpa using e⟩
 rw[this];exact⟨0,0,0,none,0,0,zA w gm clk l d.mp x λe he e'=>D ⟨e,he,e'⟩⟩
def Ui(α:Type)[nA α](F:Nat):Prop:=∀(w W1:World) (aY:Nat->Nat) (ga t g o:Nat) (q:Qn α) (V:QV),w.cell? (U g (o+10))=some (.bool true)->w.frozen? (U g (o+10))=false->w.setCell (U g (o+10)) (.bool false)=W1->QC W1 aY ga t g o q V->0<=q.a.kd->q.a.kd<=255->q.a.ct.val.length<=255->q.nodes.length<=100->
 Calls prog F #[.pointer (some (U g o))] w λen w'=>∃v xs,en=gG v/\qX W1.heap.size w' v (q.GV q.nodes.length) xs/\Bl W1 w'
theorem Dx:Ui An 209/\Ui Vo 210:=by
 constructor;all_goals
  intro w W1 aY ga t g o q V bi bl a8 h k0 k1 a9 bm;obtain⟨aa,ab,t0,t1,t2⟩:=fx Tryz.CE;obtain⟨na,nc,M⟩:=h.r.nodes.E;obtain⟨va,vc,a0⟩:=h.r.val.E;rw[ay]at M a0;obtain⟨bo,ac⟩:∃z,V.av=.map z:=by obtain⟨e,_⟩|⟨gm,clk,l,e,_⟩:=h.r.B<;>exact⟨_,e⟩
  have HN:Hid (∀k (hk:k<q.nodes.length),∃bn on,na=some (U bn on)/\bn<W1.heap.size/\W1.cell? (U bn (on+k))=some (I q.nodes[k])):=λk hk=>by obtain⟨bn,on,cn,e1,e2,_,_,e3⟩:=h.r.nodes.cell gM;rw[M]at e1;simp only[bO]at e1;exact⟨bn,on,e1.1,e2,e3 k (I q.nodes[k]) (mY hk)⟩
  have c9:=h.c9;rw[M]at c9;have lg:=h.lg;obtain⟨ad,HQ,ag⟩:=gV a8 h ac;obtain⟨ai,Hf⟩:=fl a0 (And.intro k0 (And.intro k1 a9));clear h a8 ac a0 M k0 k1 a9;first|go_enter func209,ntmps209|go_enter func210,ntmps210
  go_upto_region 4 with fail;rw[ad.o];clear ad;go_wp2;go_loopw[3,21](λd i wr=>∃k:Nat,k<=q.nodes.length/\i=I k/\(∃xs,Hid (qX W1.heap.size wr d (q.GV k) xs))/\Hid (Bl W1 wr)) λ_ i _=>q.nodes.length-(Go.RowKit.intOf i).toNat
  case atStart=>exact⟨0,jd,rfl,⟨[],by unfold Hid;rw[show q.GV 0=[]from by simp[Qn.GV]];exact qX.nil _ _⟩,jo⟩
  obtain⟨k,hk,rfl,⟨xs,HP⟩,W⟩:=hrel;by_cases iV:k<q.nodes.length
  .have bd:(k:Int)<(q.nodes.length:Int):=C;obtain⟨bn,on,ar,ak,av⟩:=HN k iV;subst ar;have d0:=(W.cell ak).H av;have aw:=HQ.bl W;obtain⟨er,e0,e1,e2,e3,e4,e5,e6,e7,e8,e9,b0,a1⟩:=aw;rw[ai.o]at e8;rw[ag.o]at b0;first|obtain⟨u0,u1,u2,u3,u4,u5,a2,a3,a4,P⟩:=Tl er q.nodes[k]|obtain⟨u0,u1,u2,a2,a3,a4,P⟩:=Tt er q.nodes[k]
   rw[ag.o]at P;have ev:=er.val;rw[ai.o]at ev;have bq:=af ak W.lt;have bs:=q.PS k;obtain⟨D,a5⟩:=fl (q.Re k iV) (q.Tu k iV);generalize q.nodes[k]=nk at*;first|have F:=(Bl.refl wr).alloc (gO #[I u0,I u1,I u2,I u3,I u4,I u5,dk a2 a3 a4] 215)|have F:=(Bl.refl wr).alloc (gO #[I u0,I u1,I u2,dk a2 a3 a4] 222)
   obtain⟨x0,x1,x2,x3⟩:=F.J a1 e0 e1 e2 e3;obtain⟨x4,x5,x6⟩:=F.F a1 e4 e5 e6;obtain⟨x7,x8⟩:=F.E a1 e7 e8
   cases j:q.M nk with
   |true=>
    rw[j]at P;obtain⟨hp,b1,b2⟩:=gV (D j) (W.H F) (HP.bl F);clear j D a5 F ev er e0 e1 e2 e3 e4 e5 e6 e7 e8 e9 x0 x1 x2 x3 x4 x5 x6 x7 x8;go_wp2;go_roundw
    case rel=>exact⟨k+1,C,gX,⟨xs,by unfold Hid;rw[hp.o];exact b2⟩,b1⟩
    exact gW
   |false=>
    rw[j]at P;have b3:=fu (a5 j);obtain⟨pl,L⟩:=dS ((q.GV k).length);obtain⟨HR,HA⟩:=fl (wm q.a.kd q.a.ln q.a.nr q.a.ep q.a.pl q.a.ct.kd q.a.ct.cl q.a.ct.ca va vc q.a.ct.val _ Hf.1 Hf.2.1 (ev.bs.bl F) (λb hb=>af (ev.wU b hb).1 F.lt) Hf.2.2) F;have b4:Hid (pl+1<=maxLen):=mQ;have b5:Hid ((pl+1)*32<=140737488355328):=lQ;have y:=HP.gZ;rw[L]at y;obtain⟨b6,Y⟩:=fl y L;clear j D a5 F ev er e1 e2 e3 e4 e5 e6 e7 e8 e9 y L;go_wp2_with fail;refine HR.L ?_;rintro bv w1⟨ba,bc,rfl,al,a6⟩;have S:=fu (HA.H al);have am:=fu (gL (base':=wr.heap.size) a6 λb hb=>aF pK (by have:=(a6.lt b hb).1;simpa using this));have an:=fu ((iD S).iJ b6 λ_ _ e=>e);have bw:=aF W.lt S.lt;have hd:Hid (iB q.a.kd [q.a.ln,q.a.nr,q.a.ep,q.a.pl,q.a.ct.kd,q.a.ct.cl,q.a.ct.ca] q.a.ct.val=SZ q.a):=rfl;rw[hd.o]at am|-;clear al a6 HR;generalize SZ q.a=ap at*;go_wp2_with(at_builtin;refine fm _ rfl _ _ 176 rfl W1.heap.size 179 aa _ 2 32 underlying176 ab t0 t1 t2 rfl au _ pl _ rfl (an.alloc _) (U w1.heap.size 0) 1 1 [I nk,dk ba ap.length bc] rfl rfl (fW (cs:=#[I nk,dk ba ap.length bc]) (t:=179) (fr:=(0,0)) (ao w1 _)) qR au b4 b5 gM (w1.heap.size+1) aq ?_);intro g' be w3 Z A b7 bg;have a7:=HP.push (tt:=nk) S am W.lt (jP Y.o Z) A;rw[<-b3.o,Y.o]at a7;have b8:=fu a7;have b9:Hid (Bl W1 w3):=((W.H S).alloc _).B (bz.B A) λb e=>(an.lt b e.symm).1;clear Z A b7 a7;go_wp2;go_roundw
    case rel=>exact⟨k+1,C,gX,⟨_,b8⟩,b9⟩
    exact gW
  have bb:k=q.nodes.length:=C;subst bb;go_wp2;go_ret;exact⟨_,xs,rfl,HP,W⟩
theorem FA(w)(g o)(i:w.cell? (U g (o+10))=some (.bool false)):ib 210 #[.pointer (some (U g o))] w λd w'=>d=gG OO/\w'=w:=by
 go_enter func210,ntmps210;go_wp2;go_ret;exact⟨rfl,rfl⟩
structure xI{α:Type}(q:Qn α):Prop where
 k0:0<=q.a.kd
 k1:q.a.kd<=255
 v:q.a.ct.val.length<=255
 n:q.nodes.length<=100
def Qn.I8{α:Type}{q:Qn α}(h:q.mP=false):q.F=[]:=by unfold Qn.F Qn.iE;rw[h];rfl
def Qn.xS{α:Type}{q:Qn α}(h:q.mP=false):q.jt=q:=by unfold Qn.jt;cases q;simp at h;simp[h]
def Qn.sY{α:Type}(q:Qn α):q.F.length<=q.nodes.length:=by
 unfold Qn.F Qn.iE;split
 .rw[ay,ay];exact bF _ _
 simp
section
variable{W1:World}
theorem uh{o:Nat}{Q:QV}(i:w.cell? (U g (o+10))=some (.bool q.mP))(A:w.frozen? (U g (o+10))=false)(j:w.setCell (U g (o+10)) (.bool false)=W1)(h:QC W1 aY ga t g o q Q)(y:xI q):ib 209 #[.pointer (some (U g o))] w λD w'=>∃v xs,D=gG v/\qX w.heap.size w' v q.F xs/\((q.mP=false/\w'=w)\/(q.mP=true/\Bl W1 w')):=by
 cases d:q.mP with
 |false=>rw[d]at i;refine(Gw w g o i).L ?_;rintro D w'⟨rfl,rfl⟩;exact⟨_,[],rfl,by rw[Qn.I8 d];exact qX.nil _ _,.inl ⟨rfl,rfl⟩⟩
 |true=>
  rw[d]at i;have F:W1.heap.size=w.heap.size:=by rw[<-j];simp[World.setCell]
  refine(Dx.1 _ _ _ _ _ _ _ _ _ i A j h y.k0 y.k1 y.v y.n).L ?_;rintro D w'⟨v,xs,rfl,H,M⟩;rw[F,Qn.Iu q d]at H;exact⟨v,xs,rfl,H,.inr ⟨rfl,M⟩⟩
theorem Fq{o:Nat}{q:Qn Vo}{Q:QV}(i:w.cell? (U g (o+10))=some (.bool q.mP))(A:w.frozen? (U g (o+10))=false)(j:w.setCell (U g (o+10)) (.bool false)=W1)(h:QC W1 aY ga t g o q Q)(y:xI q):ib 210 #[.pointer (some (U g o))] w λD w'=>∃v xs,D=gG v/\qX w.heap.size w' v q.F xs/\((q.mP=false/\w'=w)\/(q.mP=true/\Bl W1 w')):=by
 cases d:q.mP with
 |false=>rw[d]at i;refine(FA w g o i).L ?_;rintro D w'⟨rfl,rfl⟩;exact⟨_,[],rfl,by rw[Qn.I8 d];exact qX.nil _ _,.inl ⟨rfl,rfl⟩⟩
 |true=>
  rw[d]at i;have F:W1.heap.size=w.heap.size:=by rw[<-j];simp[World.setCell]
  refine(Dx.2 _ _ _ _ _ _ _ _ _ i A j h y.k0 y.k1 y.v y.n).L ?_;rintro D w'⟨v,xs,rfl,H,M⟩;rw[F,Qn.Iu q d]at H;exact⟨v,xs,rfl,H,.inr ⟨rfl,M⟩⟩
def jf.qU(c:jf):jf:={c with q:=c.q.jt}
def L5(h:iN w aY t p qb X V)(i:c∈X.dd)(F:xI c.q):ib 209 #[.pointer (some (U (qb c.gH) 17))] w λj w'=>∃v xs,j=gG v/\qX w.heap.size w' v c.q.F xs/\iN w' aY t p qb (X.put c.qU) V/\bz (λb=>Mc t (aY b)) w w':=by
 obtain⟨cv,k⟩:=h.r.a c i;have y:bz (λb=>b=qb c.gH) w (w.setCell (U (qb c.gH) 27) (.bool false)):=(bz.refl (λb=>b=qb c.gH) w).setCell (U (qb c.gH) 27) (.inl rfl) _;have d:j9 (w.setCell (U (qb c.gH) 27) (.bool false)) aY t (qb c.gH) c.qU cv:=k.B (c':=c.qU) (cv':=cv) y (iU 27 _ w _ k.hq) rfl k.gZ k.iR k.e ⟨k.q.val,k.q.nodes,k.q.B,k.q.nil⟩;obtain⟨H,M⟩:=h.RY i k y d rfl rfl;have P:QC (w.setCell (U (qb c.gH) 27) (.bool false)) aY (t+9+2*c.im) (t+3) (qb c.gH) 17 c.q cv.q:=⟨⟨d.q.val,d.q.nodes,d.q.B,d.q.nil⟩,d.cellAt 17 rfl,d.cellAt 18 rfl,d.cellAt 19 rfl,d.cellAt 20 rfl,d.cellAt 21 rfl,d.cellAt 22 rfl,d.cellAt 23 rfl,d.cellAt 24 rfl,d.cellAt 25 rfl,d.cellAt 26 rfl,d.cellAt 28 rfl,d.lt⟩;refine(uh (k.cellAt 27 rfl) (k.F 27) rfl P F).L ?_;rintro j w'⟨v,xs,rfl,A,⟨S,rfl⟩|⟨_,D⟩⟩
 .refine⟨v,xs,rfl,A,?_,sQ⟩;have:c.qU=c:=by unfold jf.qU;rw[Qn.xS S]
  rw[this,Cx.vA X h.r.pd.gH i];exact h
 exact⟨v,xs,rfl,A,H.bl D gK,M.H (bz.E D)⟩
def Oo(h:iN w aY t p qb X V)(D:xI X.jg):ib 209 #[.pointer (some (U p 10))] w λi w'=>∃v xs,i=gG v/\qX w.heap.size w' v X.jg.F xs/\iN w' aY t p qb {X with jg:=X.jg.jt} V/\bz (λb=>Mc t (aY b)) w w':=by
 have j:bz (λb=>b=p) w (w.setCell (U p 20) (.bool false)):=(bz.refl (λb=>b=p) w).setCell (U p 20) (.inl rfl) _;have d:iN (w.setCell (U p 20) (.bool false)) aY t p qb {X with jg:=X.jg.jt} V:=h.tB j (iU 20 _ w _ h.hp) ⟨h.r.lay,h.r.res,h.r.tb,h.r.mp,h.r.bo,h.r.bn,⟨h.r.pr.val,h.r.pr.nodes,h.r.pr.B,h.r.pr.nil⟩,h.r.sl,h.r.vt,h.r.bg,h.r.b,h.r.a,h.r.pd.gH,h.r.pd.lt,h.r.pd.im,h.r.pd.a⟩;have F:QC (w.setCell (U p 20) (.bool false)) aY (t+4) (t+3) p 10 X.jg V.pr:=⟨⟨d.r.pr.val,d.r.pr.nodes,d.r.pr.B,d.r.pr.nil⟩,d.cellAt 10 rfl,d.cellAt 11 rfl,d.cellAt 12 rfl,d.cellAt 13 rfl,d.cellAt 14 rfl,d.cellAt 15 rfl,d.cellAt 16 rfl,d.cellAt 17 rfl,d.cellAt 18 rfl,d.cellAt 19 rfl,d.cellAt 21 rfl,d.B⟩;refine(uh (h.cellAt 20 rfl) (h.F 20) rfl F D).L ?_;rintro i w'⟨v,xs,rfl,y,⟨M,rfl⟩|⟨_,A⟩⟩
 .refine⟨v,xs,rfl,y,?_,sQ⟩;rw[Qn.xS M];exact h
 exact⟨v,xs,rfl,y,d.bl A gK,(h.mB j).H (bz.E A)⟩
def LY(h:iN w aY t p qb X V)(D:xI X.mv.b):ib 209 #[.pointer (some (U p 29))] w λi w'=>∃v xs,i=gG v/\qX w.heap.size w' v X.mv.b.F xs/\iN w' aY t p qb {X with mv:={X.mv with b:=X.mv.b.jt}} V/\bz (λb=>Mc t (aY b)) w w':=by
 have j:bz (λb=>b=p) w (w.setCell (U p 39) (.bool false)):=(bz.refl (λb=>b=p) w).setCell (U p 39) (.inl rfl) _;have d:iN (w.setCell (U p 39) (.bool false)) aY t p qb {X with mv:={X.mv with b:=X.mv.b.jt}} V:=h.tB j (iU 39 _ w _ h.hp) ⟨h.r.lay,h.r.res,h.r.tb,h.r.mp,h.r.bo,h.r.bn,h.r.pr,⟨h.r.sl.val,h.r.sl.nodes,h.r.sl.B,h.r.sl.nil⟩,h.r.vt,h.r.bg,h.r.b,h.r.a,h.r.pd.gH,h.r.pd.lt,h.r.pd.im,h.r.pd.a⟩;have F:QC (w.setCell (U p 39) (.bool false)) aY (t+5) (t+3) p 29 X.mv.b V.sl:=⟨⟨d.r.sl.val,d.r.sl.nodes,d.r.sl.B,d.r.sl.nil⟩,d.cellAt 29 rfl,d.cellAt 30 rfl,d.cellAt 31 rfl,d.cellAt 32 rfl,d.cellAt 33 rfl,d.cellAt 34 rfl,d.cellAt 35 rfl,d.cellAt 36 rfl,d.cellAt 37 rfl,d.cellAt 38 rfl,d.cellAt 40 rfl,d.B⟩;refine(uh (h.cellAt 39 rfl) (h.F 39) rfl F D).L ?_;rintro i w'⟨v,xs,rfl,y,⟨M,rfl⟩|⟨_,A⟩⟩
 .refine⟨v,xs,rfl,y,?_,sQ⟩;rw[Qn.xS M];exact h
 exact⟨v,xs,rfl,y,d.bl A gK,(h.mB j).H (bz.E A)⟩
def Mb(h:iN w aY t p qb X V)(D:xI X.mv.a):ib 210 #[.pointer (some (U p 41))] w λi w'=>∃v xs,i=gG v/\qX w.heap.size w' v X.mv.a.F xs/\iN w' aY t p qb {X with mv:={X.mv with a:=X.mv.a.jt}} V/\bz (λb=>Mc t (aY b)) w w':=by
 have j:bz (λb=>b=p) w (w.setCell (U p 51) (.bool false)):=(bz.refl (λb=>b=p) w).setCell (U p 51) (.inl rfl) _;have d:iN (w.setCell (U p 51) (.bool false)) aY t p qb {X with mv:={X.mv with a:=X.mv.a.jt}} V:=h.tB j (iU 51 _ w _ h.hp) ⟨h.r.lay,h.r.res,h.r.tb,h.r.mp,h.r.bo,h.r.bn,h.r.pr,h.r.sl,⟨h.r.vt.val,h.r.vt.nodes,h.r.vt.B,h.r.vt.nil⟩,h.r.bg,h.r.b,h.r.a,h.r.pd.gH,h.r.pd.lt,h.r.pd.im,h.r.pd.a⟩;have F:QC (w.setCell (U p 51) (.bool false)) aY (t+6) (t+3) p 41 X.mv.a V.vt:=⟨⟨d.r.vt.val,d.r.vt.nodes,d.r.vt.B,d.r.vt.nil⟩,d.cellAt 41 rfl,d.cellAt 42 rfl,d.cellAt 43 rfl,d.cellAt 44 rfl,d.cellAt 45 rfl,d.cellAt 46 rfl,d.cellAt 47 rfl,d.cellAt 48 rfl,d.cellAt 49 rfl,d.cellAt 50 rfl,d.cellAt 52 rfl,d.B⟩;refine(Fq (h.cellAt 51 rfl) (h.F 51) rfl F D).L ?_;rintro i w'⟨v,xs,rfl,y,⟨M,rfl⟩|⟨_,A⟩⟩
 .refine⟨v,xs,rfl,y,?_,sQ⟩;rw[Qn.xS M];exact h
 exact⟨v,xs,rfl,y,d.bl A gK,(h.mB j).H (bz.E A)⟩
def Cx.tP(X:Cx)(s:List Nat):Cx:={X with dd:=X.dd.map λc=>if s.contains c.gH then c.qU else c}
def Cx.JQ(X:Cx):X.tP []=X:=by unfold Cx.tP;simp
def Cx.KI(X:Cx)(s)(h:∀c∈X.dd,c.gH∈s):X.tP s={X with dd:=X.dd.map jf.qU}:=by unfold Cx.tP;congr 1;exact bf λc d=>by rw[aE (by simpa using h c d)]
def Cx.KY(X)(i:sL X)(j:c∈X.dd)(s):X.tP (s++[c.gH])=(X.tP s).put c.qU:=by
 unfold Cx.tP Cx.put;simp only[br];congr 1;refine bf λd y=>?_;simp only[Function.comp_apply];by_cases e:d.gH=c.gH
 .have:=qt i.gH y j e;subst this;rw[aE aq,aE (by split<;>simp[jf.qU])]
 have A:¬(if s.contains d.gH then d.qU else d).gH=c.qU.gH:=by split<;>simpa [jf.qU]using e
 rw[az A];have:(s++[c.gH]).contains d.gH=s.contains d.gH:=by rw[dr];simp[e]
 rw[this]
def Cx.By(X:Cx)(d:c∈X.dd)(s)(h:c.gH∉s):c∈(X.tP s).dd:=aD.2 ⟨c,d,by rw[az (iG h)]⟩
end
end Go.Proofs.YtbghhbpacijmmaaGreat
