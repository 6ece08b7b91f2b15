import Derived.Sort.OwnSortedInts
import Derived.Test.YtbghhbpacijmmaaGreatL08
open Go.Proofs.Tryz
namespace Go.Proofs.YtbghhbpacijmmaaGreat
set_option maxRecDepth 99999
set_option maxHeartbeats 0
set_option linter.defProp false
set_option linter.unusedVariables false
open Go.RowKit Go.Maps Go.Shelf Go.Sort
attribute [local go_sem ↓] Go.wp_at_zero Go.wp_at_succ
open Go.ChangeMaps (setBlock)
variable {w w' w1:World} {gH qb gI:Nat->Nat} {ps qs:List (Int×List Int)} {t p ga g:Nat} {X X':Cx} {c c':jz} {V V':CV} {v u:Value} {xs:List Value} {cv cv':kM} {ds:List Int} {zz:List (Int×Vo)} {T:Nat->Prop} {Q:Exit->Act->World->Prop} {q:Qn An} {R:List (List Int)} {es:Array MapEntry} {wn:MapEntry->Bool} {ke:MapEntry->Int}
structure FQ(X:Cx):Prop where
 x:nf X
 u:A7 X
 e:0<=X.mv.b/\X.mv.b<=1000000000000000
 t:0<=X.e/\X.e<=1000000000000000
 a:X.ib+100<=1000000000000000
 r:X.c.length<=1000000000
 l:X.a.length<=8
 c:∀c∈X.a,Nq X c
def Cx.A(X:Cx)(R:List (List Int)):Cx:={X with b:=X.mv.b,lay:=R,mv:=Mv.zero,wb:=false,wl:=false}
def FQ.A(h:FQ X)(y:nS R X.lay):nf (X.A R):=
 ⟨h.x.nB,by rw[show(X.A R).lay=R from rfl,y.1];exact h.x.ll,λr A=>by
  obtain⟨ch,i,F,j⟩:=y.mem A
  have H:=h.x.ne ch i
  have L:=F.length_le
  have M:0<r.length:=cU.2 j
  omega,h.x.a0,h.x.a1⟩
def QE{n j:Nat}(h:j+1<=n):n-(Go.RowKit.intOf (I ((j:Int)+1))).toNat<n-(Go.RowKit.intOf (I (j:Int))).toNat:=by show n-((j:Int)+1).toNat<n-(j:Int).toNat;omega
def No{l:List jz}(h:l.Pairwise λc d=>c.gU<d.gU)(j)(y:j<l.length):∀d∈l.drop (j+1),d.gU≠l[j].gU:=λd A=>by have i:=h.sublist (List.drop_sublist j l);rw[cm y,cI]at i;have:=i.1 d A;omega
theorem Fz(h:jf w gH t p qb X V)(h100:100<=t)(ho:FQ X)(va)(vc)(val)(hv:Rd w gH (t+3) 5 (gN va val.length vc) (val.map B8))(hB:mR val):iB 276 #[ptr p,gN va val.length vc] w λen w'=>en=iw/\CS w gH t p qb (X.oK val) w':=by
 let⟨b1,b2,_⟩:=ho.x.A;have hll:=ho.x.ll;let⟨d6,d24⟩:=h.R 6 24 rfl;have lp:=h.A;obtain⟨gl,clv,hlv⟩:∃gl clv,V.lv=gN (G gl) X.lay.length clv:=by obtain⟨g,arr,cap,f,e,_⟩:=h.r.lay;exact⟨g,cap,e⟩
 rw[hlv]at d6;have HW:=gP (zZ V.lv X.lay (gN va val.length vc) val w h.r.lay.VK hv hB C C λc hc=>by have:=ho.x.ne c hc;omega);rw[hlv]at HW;let⟨H,Ho⟩:=gO h ho;let⟨Y,hY⟩:=gJ (X.oK val);rw[hY];unfold Cx.oK at hY;have hsz:(prog.info? 108).map (·.size)=some (uo 0 false).toArray.size:=ix;have hone:(uo 0 false).toArray.all (·.oneCell')=true:=ix;clear h ho hv hB hlv hll
 cases hw:within X.lay val with
 |none=>
  rw[hw]at HW hY;simp only at hY;have HY:=gP hY;clear hw hY;go_enter func276,ntmps276;go_upto_region 3 with(first|(go_at_call 295;refine HW.L ?_;rintro en w2⟨he,hb2⟩;simp only[xP]at he;subst he;have e24:=(hb2.cell lp).H d24;have lp2:=af lp hb2.lt;have hK2:=H.bl hb2 (gI:=gH) hU;let⟨hth2,HB⟩:=gO hK2.there hb2;clear HW hb2 hK2)|((show Go.wpList _ _ _ [{dst:=none,op:=Op.store 108 _ _,type:=_,pos:=_,after:=_,guard:=_}] _ _);refine wpList_store_mid rfl 108 (.tmp 26) (.tmp 24) rfl p 24 (uo 0 false).toArray rfl rfl hth2 hsz hone ?_));have hE:w2.setCells p 24 (uo 0 false).toArray.toList=ku w2 p 24 (uo 0 false):=vX p _ 24 _;rw[hE];have hK2:=H.bl HB (gI:=gH) hU;have hK3:=hK2.yL 0 false;have O3:gL (λb=>b=p) w2 (ku w2 p 24 (uo 0 false)):=jO (S:=λb=>b=p) (.inl rfl) _ 24 w2 (gL.refl _ w2);have HS:Hid (CS w gH t p qb Y (ku w2 p 24 (uo 0 false))):=by unfold Hid;rw[<-HY.o];exact CS.mk hK3 ((gL.B HB).H (hK2.mZ O3))
  generalize ku w2 p 24 (uo 0 false)=W3 at*;clear hE hK2 hK3 O3 hsz hone hth2;go_wp2;refine aG (v:= .tuple #[]) (by simp[results,results276,go_sem]) rfl ?_;exact⟨rfl,HS⟩
 |some R=>
  rw[hw]at HW hY;simp only at hY;have hS:=(rE hw).2;let⟨HXL,HSb⟩:=gO (Ho.A hS) hS;have HY:Hid ((if((X.A R).a.foldl Cx.kP (X.A R)).jn||decide (((X.A R).a.foldl Cx.kP (X.A R)).b<((X.A R).a.foldl Cx.kP (X.A R)).e)then((X.A R).a.foldl Cx.kP (X.A R)).jH else(X.A R).a.foldl Cx.kP (X.A R))=Y):=hY;have hRl:=gP hS.1;clear hw hY hS;go_enter func276,ntmps276;go_upto_region 3 with(first|(go_at_call 295;refine HW.L ?_;rintro en w2⟨he,hb2⟩;simp only[xP]at he;obtain⟨g,ms,rfl,hR⟩:=he;have e24:=(hb2.cell lp).H d24;have lp2:=af lp hb2.lt;have hK2:=H.bl hb2 (gI:=gH) hU;let⟨hth2,HB,HR⟩:=iz hK2.there hb2 hR;clear HW hb2 hK2 hR)|((show Go.wpList _ _ _ [{dst:=none,op:=Op.store 108 _ _,type:=_,pos:=_,after:=_,guard:=_}] _ _);refine wpList_store_mid rfl 108 (.tmp 26) (.tmp 24) rfl p 24 (uo 0 false).toArray rfl rfl hth2 hsz hone ?_));have hE:w2.setCells p 24 (uo 0 false).toArray.toList=ku w2 p 24 (uo 0 false):=vX p _ 24 _;rw[hE];have hold:∀b,b<w.heap.size->iq gH w.heap.size (t+3) b=gH b:=λb hb=>gV _ _ _ _ hb;have hK2:=H.bl HB (gI:=iq gH w.heap.size (t+3)) hold;have hK3:=hK2.yL 0 false;have O3:gL (λb=>b=p) w2 (ku w2 p 24 (uo 0 false)):=jO (S:=λb=>b=p) (.inl rfl) _ 24 w2 (gL.refl _ w2);have hL3:pV (ku w2 p 24 (uo 0 false)) (iq gH w.heap.size (t+3)) (t+3) (gN (G g) X.lay.length X.lay.length) R:=(HR.lay λb hb=>iJ _ _ _ _ hb).only O3 (λb _ e=>by rw[e,hK2.tp];omega) λ_ _ e=>e;have hK4:=hK3.U7 X.mv.b R _ hL3;have O4:=(((O3.setCell (U p 5) (.inl rfl) (I X.mv.b)).setCell (U p 6) (.inl rfl) (gN (G g) X.lay.length X.lay.length)).setCell (U p 53) (.inl rfl) (.bool false)).setCell (U p 54) (.inl rfl) (.bool false);let⟨y5,y6,y53,y54⟩:=hK3.T 5 6 53 54 rfl;let⟨f5,f6,f53,f54⟩:=hK3.Z 5 6 53 54;have lp3:=hK3.A;have HO4:Hid (gL (λb=>b=p) w _):=(gL.B HB).H O4;have HK4:=gP hK4;generalize ku w2 p 24 (uo 0 false)=W3 at*;clear hE hK2 hK3 O3 hsz hone hth2 hL3 hK4 O4;go_upto_region 4 with fail;go_cut[]from 2 to 40 λwx=>Hid (jf wx (iq gH w.heap.size (t+3)) t p qb (X.A R) {{V with bg:= .map none,b:= OO,sl:=QV.zero,vt:=QV.zero}with lv:=gN (G g) X.lay.length X.lay.length})/\Hid (gL (λb=>b=p) w wx)
  case first=>go_wp2_with fail;go_meet;exact⟨HK4,HO4⟩
  obtain⟨HKL,HO4⟩:=hcut;obtain⟨W4,hW4⟩:∃W4,W4=wc:=⟨_,rfl⟩;subst hW4;have HCa:=gP (zT HKL Ho.r Ho.l);have lp4:=HKL.A;have hpl:(X.A R).a.length=X.a.length:=rfl;go_wp2_with fail;refine HCa.L ?_;rintro en w6⟨v6,rfl,ho6,hb6⟩;obtain⟨a6,c6,rfl⟩:=jw ho6;have hK6:=HKL.bl hb6 (gI:=iq (iq gH w.heap.size (t+3)) W4.heap.size 5) λb hb=>gV _ _ _ _ hb;let⟨HK6,HO6,HB6,hpn⟩:=jR hK6 ho6 hb6 hK6.r.a.gU;clear HCa hK6 ho6 hb6 hpl;have HFin:Hid (∀W tagr Vr,(∀b,b<w6.heap.size->tagr b=iq (iq gH w.heap.size (t+3)) W4.heap.size 5 b)->gL (λb=>Mc t (iq (iq gH w.heap.size (t+3)) W4.heap.size 5 b)) w6 W->jf W tagr t p qb ((X.A R).a.foldl Cx.kP (X.A R)) Vr->∀Z W',CS W tagr t p qb Z W'->CS w gH t p qb Z W'):=λW tagr Vr ht hO _ Z W' hc=>by
   have l2:=HB.lt;have l4:=HO4.size;have l6:=HB6.lt;have ho:∀b,b<w.heap.size->iq (iq gH w.heap.size (t+3)) W4.heap.size 5 b=gH b:=λb hb=>by rw[gV _ _ _ _ C,gV _ _ _ _ hb]
   refine CS.uV ((H.mZ (HO4.H (gL.B HB6))).andThen hO λb hb e=>?_) (λb hb=>(ht b C).H (ho b hb)) hc;rwa[ho b hb]at e
  have h8l:=Ho.l;go_wp2;go_loopw[44](λi wr=>∃j:Nat,j<=X.a.length/\i=I j/\Hid (CS w6 (iq (iq gH w.heap.size (t+3)) W4.heap.size 5) t p qb (((X.A R).a.take j).foldl Cx.kP (X.A R)) wr)/\Hid (Ue (X.A R) (((X.A R).a.take j).foldl Cx.kP (X.A R)) j ((X.A R).a.drop j))) λi _=>X.a.length-(Go.RowKit.intOf i).toNat
  case atStart=>exact⟨0,ju,rfl,CS.B ⟨_,HK6⟩ jC,⟨rfl,rfl,rfl,rfl,rfl,rfl,rfl,rfl,iK,gG,jl,λd hd=>hd⟩⟩
  obtain⟨j,hj,rfl,HCS,HOv⟩:=hrel;obtain⟨tagr,hr1,⟨Vr,Kr⟩,Or⟩:=HCS.o;by_cases ja:j<X.a.length
  .have hltI:(j:Int)<(X.a.length:Int):=C;have hlt2:j<(X.A R).a.length:=ja;let⟨g6,cap',hga⟩:=mo HO6 C;simp only[bO]at hga;obtain⟨rfl,_,rfl⟩:=hga;have hcell:=HO6.cellAt j C;rw[aK,ah hlt2]at hcell;have hgl:=HO6.lt g6 rfl;have hnM:¬Mc t (iq (iq gH w.heap.size (t+3)) W4.heap.size 5 g6):=by rw[iJ _ _ _ _ hgl.1];unfold Mc;omega
   have k1:=(Or.cell (b:=g6) (o:=j) hgl.2 hnM).H hcell;simp only[bG]at k1;have hgl2:=af hgl.2 Or.size;have hdr:=cm hlt2;have hOv:=HOv.o;rw[hdr]at hOv;have hOv2:=hOv.step (No hpn j hlt2);have htk:(X.A R).a.take (j+1)=(X.A R).a.take j++[(X.A R).a[j]]:=aM hlt2;have hfo:((X.A R).a.take (j+1)).foldl Cx.kP (X.A R)=(((X.A R).a.take j).foldl Cx.kP (X.A R)).kP (X.A R).a[j]:=by rw[htk,dN];rfl
   have hcm:=hOv.mem _ aN;have hCK:Nq (X.A R) (X.A R).a[j]:=by have:=Ho.c _ (aL ja);exact⟨this.kd,this.ad,this.un,this.nl⟩
   have HOver:=gP (Ro Kr h100 (hOv.QT HXL (gS Ho.l) Ho.a) hcm (hOv.XU hCK));have HF:Hid (∀W',CS wr tagr t p qb ((((X.A R).a.take j).foldl Cx.kP (X.A R)).kP (X.A R).a[j]) W'->CS w6 (iq (iq gH w.heap.size (t+3)) W4.heap.size 5) t p qb (((X.A R).a.take (j+1)).foldl Cx.kP (X.A R)) W'):=λW' hc=>by rw[hfo];exact CS.uV Or hr1 hc
   rw[<-hfo]at hOv2;have HOv2:=gP hOv2;have hj1:Hid (j+1<=X.a.length):=ja;clear HCS HOv Kr Or hr1 hOv hOv2 hfo htk hdr hcm hCK hcell;generalize (X.A R).a[j]=cc at*;generalize ((X.A R).a.take j).foldl Cx.kP (X.A R)=Zj at*;generalize qb cc.gU=q at*;go_wp2_with(go_at_call 296;refine iO HOver λw7 HS=>?_);go_roundw
   case rel=>exact⟨j+1,hj1,gG,HF _ HS,HOv2⟩
   exact QE hj1
  have hge:¬((j:Int)<(X.a.length:Int)):=C;have hje:j=X.a.length:=C;subst hje;have htl:(X.A R).a.take X.a.length=(X.A R).a:=bZ;rw[htl]at Kr;have hOv:=HOv.o;rw[htl]at hOv;have HF:=gP (HFin wr tagr Vr hr1 Or Kr);have HH:Hid (∀W,Bl wr W->_):=λW hW=>mE (Kr.bl hW (gI:=tagr) hU) (by rw[hOv.c];exact Ho.r) (aF hOv.len Ho.l);have hxz:=hOv.QT HXL (gS Ho.l) Ho.a;have hnz:XN ((X.A R).a.foldl Cx.kP (X.A R)):=⟨by rw[hOv.ep];exact Ho.e,by rw[hOv.e];exact Ho.t⟩;have HSM:Hid (∀W,Bl wr W->_):=λW hW=>pg (Kr.bl hW (gI:=tagr) hU) h100 hxz hnz;have HKr:=gP Kr;let⟨k5,k22⟩:=Kr.R 5 22 rfl;have lpr:=Kr.A;clear HCS HOv Kr Or hr1 hOv hxz hnz htl HFin;generalize (X.A R).a.foldl Cx.kP (X.A R)=Z at*;go_upto_region 10 with fail;go_cut[64] λx wx=>x=.bool (Z.jn||decide (Z.b<Z.e))/\Hid (Bl wr wx)
  case first=>
   generalize Z.jn=hc at*
   cases hc
   .go_region_with(go_at_call 91;refine(HH _ ?hb).L ?_;(case hb=>exact jg);rintro en w7⟨rfl,hb7⟩;have hB7:Bl wr w7:=Bl.H jg hb7;let⟨m5,m22⟩:=hB7.B lpr k5 k22;have lp7:=af lpr hB7.lt;have HB7:=gP hB7;clear hb7 hB7);all_goals(go_wp2_with fail;go_meet)
    all_goals exact⟨gG,HB7⟩
   refine wp_region_any ix ?_;refine ZW (i:=0) (v:=ptr p) rfl ix ix ix (λ_ _ _ h=>h) (Or.inl ⟨jQ,λw=>jQ⟩) ?_;refine wpAny_ready (rs:=[1]) ix gG ?_;refine AllReady.cons rfl (λK hK=>?_) ?_
   case refine_1=>go_simp;go_wp2_with(go_at_call 91;refine(HH _ ?hb).L ?_;(case hb=>exact jg);rintro en w7⟨rfl,hb7⟩;have hB7:Bl wr w7:=Bl.H jg hb7;have HB7:=gP hB7;clear hb7 hB7);refine ZW (i:=2) (v:= .bool true) rfl ix ix ix (λ_ _ _ h=>h) (Or.inl ⟨jQ,λw=>jQ⟩) ?_;refine ZW (i:=3) (v:=undef) rfl ix ix ix (λ_ _ _ h=>h) (Or.inr ⟨ix,rfl⟩) ?_;refine ZW (i:=4) (v:=undef) rfl ix ix ix (λ_ _ _ h=>h) (Or.inr ⟨ix,rfl⟩) ?_;refine ZW (i:=5) (v:=undef) rfl ix ix ix (λ_ _ _ h=>h) (Or.inr ⟨ix,rfl⟩) ?_;refine ZW (i:=6) (v:=undef) rfl ix ix ix (λ_ _ _ h=>h) (Or.inr ⟨ix,rfl⟩) ?_;refine ZW (i:=7) (v:=undef) rfl ix ix ix (λ_ _ _ h=>h) (Or.inr ⟨ix,rfl⟩) ?_;refine ZW (i:=8) (v:=undef) rfl ix ix ix (λ_ _ _ h=>h) (Or.inr ⟨ix,rfl⟩) ?_;refine ZW (i:=9) (v:=undef) rfl ix ix ix (λ_ _ _ h=>h) (Or.inr ⟨ix,rfl⟩) ?_;refine ZW (i:=10) (v:=undef) rfl ix ix ix (λ_ _ _ h=>h) (Or.inr ⟨ix,rfl⟩) ?_;refine ZW (i:=11) (v:=undef) rfl ix ix ix (λ_ _ _ h=>h) (Or.inr ⟨ix,rfl⟩) ?_;refine ZW (i:=12) (v:= .bool true) rfl ix ix ix (λ_ _ _ h=>h) (Or.inl ⟨ix,λw=>ix⟩) ?_;refine wpAny_done ix ?_ _;go_simp;go_step;go_meet;exact⟨gG,HB7⟩
   case refine_2=>exact AllReady.nil
  case rest=>
   obtain⟨rfl,HB7⟩:=hcut
   cases hb:(Z.jn||decide (Z.b<Z.e))with
   |true=>have HYe:=HY.o;rw[hb]at HYe;have HSM2:Hid (iB 93 #[ptr p] wc λen w'=>en=iw/\CS w gH t p qb Y w'):=(HSM wc HB7).L λen w'⟨e1,e2⟩=>⟨e1,by rw[<-HYe];exact HF _ _ (CS.D HB7 e2)⟩;clear HSM HF HYe HY hb HH k5 k22;go_wp2_with(go_at_call 93;refine iO HSM2 λw8 HS=>?_);go_end0;exact⟨rfl,HS⟩
   |false=>
    have HYe:=HY.o;rw[hb]at HYe;have HS:Hid (CS w gH t p qb Y wc):=by unfold Hid;rw[<-HYe];exact HF _ _ (CS.B ⟨_,HKr⟩ HB7)
    clear HSM HF HYe HY hb HH k5 k22;go_wp2;go_end0;exact⟨rfl,HS⟩
abbrev LI(p0:Cx)(p1):=(p0.A p1).a.foldl Cx.kP (p0.A p1)
def yl(h:∀z∈zz,mR z.2.val):mR (jP zz).2:=by
 rw[AE];rcases(Dm (zz.map (·.2)) (0,[])).1 with e|⟨v,i,e⟩
 .rw[e];exact λd j=>mi j
 rw[e];obtain⟨z,y,rfl⟩:=aD.1 i;exact h z y
def GL(h:∀z∈zz,mR z.2.val)(m):mR (sO zz m).2:=by unfold sO;exact yl λz i=>h z (aU.1 i).1
theorem Gg(h:jf w gH t p qb X V)(a0:100<=t)(ho:FQ X)(hB:mR X.mv.value):iB 254 #[ptr p] w λen w'=>en=iw/\CS w gH t p qb X.nC w':=by
 let⟨a5,a1⟩:=h.R 52 28 rfl;have lp:=h.A;let⟨mb,a2⟩:=h.r.vt.B.t.B;have HD:=gP (FT h.r.vt.B.t);rw[a2]at a5 HD;obtain⟨va,vc,F⟩:=h.r.b.B;rw[ay]at F;have M:=h.r.b;rw[F]at a1 M;have a3:Hid (∀W,Bl w W->_):=λW hW=>tF (h.bl hW (gI:=gH) hU) ho.x;have HA:Hid (∀W,Bl w W->iB 276 #[ptr p,gN va X.mv.value.length vc] W λen w'=>en=iw/\CS w gH t p qb (X.oK X.mv.value) w'):=λW hW=>(Fz (h.bl hW (gI:=gH) hU) a0 ho va vc X.mv.value (M.bl hW λ_ _ e=>e) hB).L λen w'⟨e1,e2⟩=>⟨e1,CS.D hW e2⟩;have H:=gP h;let⟨Y,hY⟩:=gJ X.nC;rw[hY];unfold Cx.nC at hY;have a7:X.nP<=3:=by obtain⟨_,_,_,_,v1,v5,_⟩:=ho.x.A;unfold Cx.nP;omega
 clear h ho hB M F a2;by_cases a4:X.nP<=(nA X.mv.A.B).length
 .rw[aE a4]at hY;rw[hY]at HA;generalize i:(nA X.mv.A.B).length=n at*;have A:((X.nP:Nat):Int)<=((n:Nat):Int):=C;have P:=gP i;clear i;go_enter func254,ntmps254;go_wp2_with(first|(go_at_call 279;refine HD.L ?_;rintro en w2⟨v2,rfl,Z,hb⟩;obtain⟨a6,rfl⟩:=Z.B;have j:=Z.zE;rw[P.o]at j;have a8:=(hb.cell lp).H a1;have a9:=af lp hb.lt;have y:=gP hb;clear HD Z hb)|(go_at_call 275;refine gT (a3 _ y) λw6 h6=>?_;have e6:=h6.symm;clear h6;subst e6)|(go_at_call 276;refine iO (HA _ y) λw5 HS=>?_));go_end0;exact⟨rfl,HS⟩
 rw[az a4]at hY;subst hY;generalize i:(nA X.mv.A.B).length=n at*;have A:¬((X.nP:Nat):Int)<=((n:Nat):Int):=C;have aa:decide (((X.nP:Nat):Int)<=((n:Nat):Int))=false:=iU A;have P:=gP i;clear i;go_enter func254,ntmps254;go_wp2_with(first|(go_at_call 279;refine HD.L ?_;rintro en w2⟨v2,rfl,Z,hb⟩;obtain⟨a6,rfl⟩:=Z.B;have j:=Z.zE;rw[P.o]at j;have y:=gP hb;clear HD Z hb)|(go_at_call 275;refine gT (a3 _ y) λw6 h6=>?_;have e6:=h6.symm;clear h6;subst e6));go_end0;exact⟨rfl,CS.B ⟨V,H⟩ y⟩
def jf.VQ(h:jf w gH t p qb X V):jf (w.setCell (U p 53) (.bool true)) gH t p qb {X with wb:=true} V:=
 h.uR ((gL.refl (λb=>b=p) w).setCell (U p 53) (.inl rfl) _) (jx 53 _ w _ h.hp) ⟨h.r.lay,h.r.c,h.r.tb,h.r.mp,h.r.bo,h.r.bn,h.r.pr,h.r.sl,h.r.vt,h.r.bg,h.r.b,h.r.d,h.r.a.gU,h.r.a.lt,h.r.a.a,h.r.a.b⟩
def jf.Xb(h:jf w gH t p qb X V)(j:X.mv.A.A.kd=7)(i:X.mv.A.B≠[]):jf (w.setCell (U p 26) V.vt.av) gH t p qb {X with mv:={X.mv with D:=X.mv.A.B}} {V with bg:=V.vt.av}:=
 h.uR ((gL.refl (λb=>b=p) w).setCell (U p 26) (.inl rfl) _) (jx 26 _ w _ h.hp) ⟨h.r.lay,h.r.c,h.r.tb,h.r.mp,h.r.bo,h.r.bn,h.r.pr,h.r.sl,h.r.vt,.inr (.inl ⟨j,rfl,rfl,i⟩),h.r.b,h.r.d,h.r.a.gU,h.r.a.lt,h.r.a.a,h.r.a.b⟩
def Cx.GD(X:Cx):Cx:={X with wb:=true,mv:={X.mv with D:=X.mv.A.B}}
structure Pd(X:Cx):Prop where
 ad:FQ X
 sl:zO X
 sn:X.mv.a.nodes.length<=100
 v:G1 X.mv.A.B
 kd:X.mv.A.A.kd=7
 ne:X.mv.A.B≠[]
 b:0<=X.B/\X.B<=1000000000000000
 id:1000<=X.id/\X.id<=1099
theorem C6(h:jf w gH t p qb X V)(a0:100<=t)(ho:Pd X):iB 278 #[ptr p] w λen w'=>en=iw/\CS w gH t p qb X.lj w':=by
 have ad:=h.cellAt 53 rfl;have ag:=h.M 53;have lp:=h.A;have M:=h.VQ;have O1:gL (λb=>b=p) w (w.setCell (U p 53) (.bool true)):=(gL.refl (λb=>b=p) w).setCell (U p 53) (.inl rfl) _;let⟨W1,a8⟩:=gJ (w.setCell (U p 53) (.bool true));rw[a8]at M O1;have HC:=gP (mE M ho.ad.r ho.ad.l);have ai:({X with wb:=true}:Cx).jn=X.jn:=rfl;rw[ai]at HC;let⟨a4,ak⟩:=M.R 54 52 rfl;have a9:=M.A;let⟨al,am,H⟩:=iz O1 M h;let⟨j,a5⟩:=gO ho a8;let⟨Y,hY⟩:=gJ X.lj;rw[hY];unfold Cx.lj at hY;let⟨mb,aa⟩:=h.r.vt.B.t.B;rw[aa]at ak;have ar:=gP aa;clear h ho a8 M O1 ai aa;generalize au:X.jn=hc at*;clear au;by_cases i:(!hc&& !X.wl)=true
 .rw[aE i]at hY;simp only[bL,eK]at i;obtain⟨rfl,P⟩:=i;rw[P]at a4;clear P;have HS:Hid (∀W,Bl W1 W->CS w gH t p qb Y W):=λW hW=>by rw[<-hY];exact CS.iW (H.mZ al) (CS.B ⟨V,am⟩ hW)
  clear hY;go_enter func278,ntmps278;go_upto_region 1 with fail;rw[a5.o];clear a5 ad ag;go_wp2_with(go_at_call 91;refine gT HC λw2 F=>?_;have an:=(F.cell a9).H a4;have av:=af a9 F.lt;have ab:=gP F;clear F);refine aG (v:= .tuple #[]) (by simp[results,results278,go_sem]) rfl ?_;exact⟨rfl,HS _ ab⟩
 .rw[az i]at hY;have HY:Hid ((if X.GD.mv.a.T=true then X.GD else X.GD.qT).lL=Y):=hY;clear hY
  cases hc
  case' false=>
   cases P:X.wl
   case false=>exact absurd (by rw[P];rfl) i
   rw[P]at a4;clear P i
  all_goals
   go_enter func278,ntmps278;go_upto_region 1 with fail;rw[a5.o];clear a5 ad ag;go_upto_region 2 with(go_at_call 91;refine gT HC λw2 F=>?_;let⟨an,aw⟩:=F.B a9 a4 ak;have a1:=am.bl F (gI:=gH) hU;have av:=a1.A;have aY:=a1.cellAt 26 rfl;have b0:=a1.M 26;let⟨b1,ab⟩:=gO a1 F;clear F a1);have a2:=b1.Xb j.kd j.ne;rw[ar.o]at a2;have O3:gL (λb=>b=p) w2 (w2.setCell (U p 26) (.map mb)):=(gL.refl (λb=>b=p) w2).setCell (U p 26) (.inl rfl) _;have a6:=gP ((al.H (gL.B ab)).H O3);go_upto_region 3 with fail;let⟨W3,ap⟩:=gJ (w2.setCell (U p 26) (.map mb));rw[ap]at a2 a6|-;have HA:=gP (Au (a2.Jh j.sn));have Z:nf (X.GD):=⟨j.ad.x.nB,j.ad.x.ll,j.ad.x.ne,j.ad.x.a0,j.ad.x.a1⟩;have a7:Hid (jf W3 gH t p qb X.GD _):=a2;clear a2 O3 ap aw aY b0 an
   cases A:X.mv.a.T with
   |true=>
    have y:X.GD.mv.a.T=true:=A;have ac:Hid (iB 155 #[.pointer (some (U p 29))] W3 λe w'=>e=gX (.bool true)/\w'=W3):=by have:=HA.o;rw[<-A];exact this
    have HP:Hid (iB 287 #[ptr p] W3 λen w'=>en=iw/\CS w gH t p qb Y w'):=(vF a7 a0 Z ⟨j.sl.ids,j.sl.len⟩ j.ad.u j.ad.r j.ad.l j.v.a ⟨j.b,j.id,j.v.pr⟩).L λen w'⟨e1,e2⟩=>⟨e1,by
     have a3:=HY.o
     rw[show(if X.GD.mv.a.T=true then X.GD else X.GD.qT)=X.GD from aE y]at a3
     rw[<-a3]
     exact CS.iW (H.mZ a6) e2⟩
    have b2:=a7.A;clear HA A y;go_wp2_with(first|(go_at_call 155;refine gT ac λw6 h6=>?_;have e6:=h6.symm;clear h6;subst e6)|(go_at_call 287;refine iO HP λw5 HS=>?_));go_end0;exact⟨rfl,HS⟩
   |false=>
    have y:X.GD.mv.a.T=false:=A;have ac:Hid (iB 155 #[.pointer (some (U p 29))] W3 λe w'=>e=gX (.bool false)/\w'=W3):=by have:=HA.o;rw[<-A];exact this
    have b3:=gP (Sp a7 a0 Z);have HP:Hid (∀w4,CS W3 gH t p qb X.GD.qT w4->iB 287 #[ptr p] w4 λen w'=>en=iw/\CS w gH t p qb Y w'):=λw4 ⟨b5,k1,⟨V4,k2⟩,k3⟩=>(vF k2 a0 ⟨Z.nB,Z.ll,Z.ne,by have:=Z.a0;show 0<=X.ib+1;have h1:0<=X.ib:=this;omega,by have:=j.ad.a;show X.ib+1<=_;omega⟩ ⟨λz hz=>by simp[Cx.qT,Qn.new]at hz,by simp[Cx.qT,Qn.new]⟩ j.ad.u j.ad.r j.ad.l j.v.a ⟨j.b,j.id,j.v.pr⟩).L λen w'⟨e1,e2⟩=>⟨e1,by
     have a3:=HY.o
     rw[show(if X.GD.mv.a.T=true then X.GD else X.GD.qT)=X.GD.qT from az (nG y)]at a3
     rw[<-a3]
     have hl:=a6.size
     exact CS.uV ((H.mZ a6).H k3) (λb hb=>k1 b C) e2⟩
    have b2:=a7.A;clear HA A y;go_wp2_with(first|(go_at_call 155;refine gT ac λw6 h6=>?_;have e6:=h6.symm;clear h6;subst e6)|(go_at_call 298;refine gT b3 λw4 aq=>?_;have b4:=gP (HP w4 aq);clear aq)|(go_at_call 287;refine iO b4 λw5 HS=>?_));go_end0;exact⟨rfl,HS⟩
def N0(W)(x0 x1 x2)(va)(vn vc):(Instr.field 222 (.agg #[I x0,I x1,I x2,gN va vn vc]) 3).run prog W=.ok (gN va vn vc) W:=rfl
theorem Es(h:jf w gH t p qb X V)(a4:100<=t)(ho:Pd X):iB 252 #[ptr p] w λj w'=>j=iw/\CS w gH t p qb X.mM w':=by
 let⟨am,a3⟩:=h.R 52 25 rfl;have lp:=h.A;obtain⟨gm,clk,l,a7,_,hM⟩:∃gm clk l,V.vt.av=.map (some gm)/\gH gm=t+6/\Mm w gm clk l X.mv.A.B (nY.ev w gH (t+3)):=by
  obtain⟨_,e⟩|⟨gm,clk,l,e1,e2,e3⟩:=h.r.vt.B
  .exact absurd e ho.ne
  exact⟨gm,clk,l,e1,e2,e3⟩
 rw[a7]at am;have F:=gP (IL hM ho.v.a ho.v.ba ho.v.len X.nP);have M:Hid (∀W,Bl w W->_):=λW hW=>tF (h.bl hW (gI:=gH) hU) ho.ad.x;have a8:Hid (∀W val va vc,Bl w W->Rd W gH (t+3) 5 (lF va val vc) (val.map B8)->mR val->iB 276 #[ptr p,gN va val.length vc] W λj w'=>j=iw/\CS w gH t p qb (X.oK val) w'):=λW val va vc hW P hB=>(Fz (h.bl hW (gI:=gH) hU) a4 ho.ad va vc val P hB).L λj w'⟨e1,e2⟩=>⟨e1,CS.D hW e2⟩;have a9:Hid (∀W,Bl w W->iB 278 #[ptr p] W λj w'=>j=iw/\CS w gH t p qb X.lj w'):=λW hW=>(C6 (h.bl hW (gI:=gH) hU) a4 ho).L λj w'⟨e1,e2⟩=>⟨e1,CS.D hW e2⟩;have aa:Hid (∀W,Bl w W->iB 277 #[.map (some gm)] W λj w'=>∃(x0 x1:Int) (Z:Option Addr) (sc:Nat),j=gX (.agg #[I x0,I x1,I (jP X.mv.A.B).1,gN Z (jP X.mv.A.B).2.length sc])/\Rd w' gH (t+3) 5 (gN Z (jP X.mv.A.B).2.length sc) ((jP X.mv.A.B).2.map B8)/\Bl W w'):=λW hW=>(rG (.inr ⟨gm,clk,l,rfl,hM.bl hW⟩) ho.v.a).L λj w'⟨x0,x1,s,e1,e2,e3⟩=>by obtain⟨Z,sc,hs⟩:=e2.B;rw[ay]at hs;subst hs;exact⟨x0,x1,Z,sc,e1,e2,e3⟩
 have a6:Hid (∀W,Bl w W->(Builtin.len_ #[104] 3 #[.map (some gm)]).run prog W=.ok (I X.mv.A.B.length) W):=λW hW=>qx.zE (.inr ⟨gm,clk,l,rfl,hM.bl hW⟩);let⟨ab,ac,H⟩:=iz (GL ho.v.a X.nP) (yl ho.v.a) h;let⟨Y,A⟩:=gJ X.mM;rw[A];unfold Cx.mM at A;simp only at A;have au:X.nP<=3:=by obtain⟨_,_,_,_,v1,v5,_⟩:=ho.ad.x.A;unfold Cx.nP;omega
 have av:=ho.v.len;have hf:=N0;clear h ho a7 hM;generalize sO X.mv.A.B X.nP=ag at*;let⟨a1,a2⟩:=ag;simp only at A F ab;by_cases h0:0<a1
 .rw[aE h0]at A;have i:=gP λW va vc=>a8.o W a2 va vc;rw[A]at i;have hd:decide (0<a1)=true:=iU h0;rw[hd]at F;clear A hd;go_enter func252,ntmps252;go_wp2_with(first|(go_at_call 275;refine gT (M _ jC) λw6 h6=>?_;have e6:=h6.symm;clear h6;subst e6)|(go_at_call 274;refine F.L ?_;rintro j w2⟨x0,x1,s,rfl,P,y⟩;obtain⟨Z,sc,hs⟩:=P.B;rw[ay]at hs;subst hs;let⟨HR,HB⟩:=gO P y;clear P y)|(go_at_call 276;refine iO (i _ _ _ (HB.alloc _) (HR.bl (jC.alloc _) λ_ _ e=>e) ab) λw5 HS=>?_));refine aG (v:= .tuple #[]) (by simp[results,results252,go_sem]) rfl ?_;exact⟨rfl,HS⟩
 rw[az h0]at A;have hd:decide (0<a1)=false:=iU h0;rw[hd]at F;clear hd;generalize ad:X.mv.A.B.length=ln at*;have aw:=gP ad;clear ad;by_cases ja:ln<X.nP
 .rw[aE ja]at A;subst A;have ai:((ln:Nat):Int)<((X.nP:Nat):Int):=C;go_enter func252,ntmps252;go_wp2_with(first|(go_at_call 274;refine F.L ?_;rintro j w2⟨x0,x1,s,rfl,P,y⟩;obtain⟨Z,sc,hs⟩:=P.B;rw[ay]at hs;subst hs;have a5:=a6 _ (y.alloc (im (ry x0 x1 a1 Z a2 sc) 222));have HB:=gP (y.alloc (im (ry x0 x1 a1 Z a2 sc) 222));clear P y)|(go_at_call 275;(first|refine(M _ jC).L ?_|refine(M _ HB).L ?_);rintro j w6⟨rfl,h6⟩;have e6:=h6.symm;clear h6;subst e6));refine aG (v:= .tuple #[]) (by simp[results,results252,go_sem]) rfl ?_;exact⟨rfl,CS.B ⟨V,H⟩ HB⟩
 rw[az ja]at A;have ai:¬((ln:Nat):Int)<((X.nP:Nat):Int):=C
 cases a0:X.mv.c with
 |true=>rw[aE a0]at A;rw[a0]at a3;have i:=gP λW va vc=>a8.o W (jP X.mv.A.B).2 va vc;rw[A]at i;clear A a0;generalize jP X.mv.A.B=hi at*;let⟨h1,h2⟩:=hi;simp only at aa i ac;go_enter func252,ntmps252;go_wp2_with(first|(go_at_call 274;refine F.L ?_;rintro j w2⟨x0,x1,s,rfl,P,y⟩;obtain⟨Z,sc,hs⟩:=P.B;rw[ay]at hs;subst hs;have a5:=a6 _ (y.alloc (im (ry x0 x1 a1 Z a2 sc) 222));have hB:=y.alloc (im (ry x0 x1 a1 Z a2 sc) 222);have an:=(y.cell lp).H a3;have ap:=af lp y.lt;have HB:=gP hB;clear P y hB)|(go_at_call 275;(first|refine(M _ jC).L ?_|refine(M _ HB).L ?_);rintro j w6⟨rfl,h6⟩;have e6:=h6.symm;clear h6;subst e6)|(go_at_call 277;refine(aa _ HB).L ?_;rintro j w3⟨y0,y1,ta,tc,rfl,ak,al⟩;let⟨aq,ar⟩:=gO ak (HB.H al);clear ak al)|(go_at_call 276;refine iO (i _ _ _ ar aq ac) λw5 HS=>?_));refine aG (v:= .tuple #[]) (by simp[results,results252,go_sem]) rfl ?_;exact⟨rfl,HS⟩
 |false=>rw[az (nG a0)]at A;rw[a0]at a3;rw[A]at a9;clear A a0;go_enter func252,ntmps252;go_wp2_with(first|(go_at_call 274;refine F.L ?_;rintro j w2⟨x0,x1,s,rfl,P,y⟩;obtain⟨Z,sc,hs⟩:=P.B;rw[ay]at hs;subst hs;have a5:=a6 _ (y.alloc (im (ry x0 x1 a1 Z a2 sc) 222));have hB:=y.alloc (im (ry x0 x1 a1 Z a2 sc) 222);have an:=(y.cell lp).H a3;have ap:=af lp y.lt;have HB:=gP hB;clear P y hB)|(go_at_call 275;(first|refine(M _ jC).L ?_|refine(M _ HB).L ?_);rintro j w6⟨rfl,h6⟩;have e6:=h6.symm;clear h6;subst e6)|(go_at_call 278;refine iO (a9 _ HB) λw5 HS=>?_));go_end0;exact⟨rfl,HS⟩
structure LF(X:Cx):Prop where
 x:nf X
 u:A7 X
 sl:zO X
 v:G1 X.mv.A.B
 bg:G1 X.mv.D
 b:0<=X.B/\X.B<=1000000000000000
 id:1000<=X.id/\X.id<=1099
 r:X.c.length<=1000000000
 l:X.a.length<=8
theorem Lo(h:jf w gH t p qb X V)(y:100<=t)(i:LF X)(x0 x1 x2 x3 x4 x5)(va)(vn vc):iB 271 #[ptr p,.agg #[I x0,I x1,I x2,I x3,I x4,I x5,gN va vn vc]] w λA w'=>A=iw/\CS w gH t p qb X.mD w':=by
 have H:=h.cellAt 41 rfl;have lp:=h.A;have M:=(Bl.refl w).alloc (im #[I x0,I x1,I x2,I x3,I x4,I x5,gN va vn vc] 215);have W:=h.bl M (gI:=gH) hU;have HP:Hid (iB 287 #[ptr p] _ λA w'=>A=iw/\CS w gH t p qb X.lL w'):=(vF W y i.x i.sl i.u i.r i.l i.bg.a ⟨i.b,i.id,i.bg.pr⟩).L λA w'⟨Z,e2⟩=>⟨Z,CS.D M e2⟩;have HD:Hid (iB 253 #[ptr p] _ λA w'=>A=iw/\CS w gH t p qb X.kT w'):=(yp W y i.x i.sl i.u i.r i.l i.bg i.v).L λA w'⟨Z,e2⟩=>⟨Z,CS.D M e2⟩;have HF:=gP (CS.B (w':=_) ⟨V,h⟩ M);let⟨Y,j⟩:=gJ X.mD;rw[j];unfold Cx.mD at j;clear h i W M;by_cases F:X.mv.A.A.kd=7
 .rw[aE F]at j;rw[F]at H;rw[j]at HP;clear j F;go_enter func271,ntmps271;go_wp2_with(go_at_call 287;refine iO HP λw5 HS=>?_);go_end0;exact⟨rfl,HS⟩
 rw[az F]at j;have a0:(X.mv.A.A.kd==7)=false:=iU F;by_cases P:X.mv.A.A.kd=5
 .rw[aE P]at j;rw[P]at H;rw[j]at HD;clear j P F a0;go_enter func271,ntmps271;go_wp2_with(go_at_call 253;refine iO HD λw5 HS=>?_);go_end0;exact⟨rfl,HS⟩
 rw[az P]at j;have a1:(X.mv.A.A.kd==5)=false:=iU P;rw[j]at HF;clear j;generalize X.mv.A.A.kd=kd at*;go_enter func271,ntmps271;go_wp2;go_end0;exact⟨rfl,HF⟩
abbrev Ua(v:Vo)(va:Option Addr)(vc:Nat):Value:= .agg #[I v.wh,I v.pr,I v.ba,.slice va v.val.length vc]
def Cx.M(Y:Cx)(fr:Int)(v:Vo):Cx:={Y with mv:={Y.mv with A:=Y.mv.A.add fr v,D:=if Y.mv.A.A.kd=7/\Y.mv.D≠[]then Y.mv.A.B++[(fr,v)]else Y.mv.D}}
def jf.XD(h:jf w gH t p qb X V)(hn:X.mv.A.nodes≠[]){fr:Int}(hf:X.mv.A.R fr=false)(A)(v)(hv:nY.ev w gH (t+3) A v):∃gm clk l,w.cell? (U p 52)=some (.map (some gm))/\w.heap[gm]?=some (.map (iu l) clk)/\(∀e∈l,e.k≠fr)/\jf (ru w gm clk l fr v) gH t p qb (X.M fr A) V/\gL (λb=>Mc t (gH b)) w (ru w gm clk l fr v):=by
 obtain⟨gm,clk,l,W,j,e3,e4,e5,i⟩:=h.r.vt.add C hn hf A v hv;have M:=h.cellAt 52 rfl;rw[W]at M;have P:∀b,b<w.heap.size->gH b=gH b:=λ_ _=>rfl;have L:∀b,b<w.heap.size->b=gm->gH b≠t+3:=λb _ e=>by rw[e,j];omega
 have hB:L5 (ru w gm clk l fr v) gH t (X.M fr A).mv V.bg V.vt.av:=by
  obtain⟨y,F⟩|⟨y,F,Y,Z⟩|⟨y,F,Y⟩:=h.r.bg
  .refine .inl ⟨y,?_⟩;show(if _ then _ else _)=[];rw[az (nG F)];exact F
  .refine .inr (.inl ⟨y,F,?_,?_⟩)
   .show(if _ then _ else _)=_;rw[aE ⟨y,Z⟩];rfl
   show(if _ then _ else _)≠_;rw[aE ⟨y,Z⟩];simp
  refine .inr (.inr ⟨y,F,?_⟩);show oI _ gH (t+6) (t+3) V.bg (if _ then _ else _);rw[az (nN y)];refine Y.only i L (λb hb e=>?_) (λ_ _ e=>e) hU;rw[e]at hb;exact F (hb.H W.symm)
 refine⟨gm,clk,l,M,e3,e4,⟨(i.block p h.A λe=>by have:=h.tp;rw[e,j]at this;omega).H h.hp,h.tp,h.r.lay.only i L λ_ _ e=>e,h.r.c.only i L (λb _ e=>by rw[e,j];omega) P,h.r.tb,(i.block _ h.r.lb λe=>by have:=h.r.tb;rw[e,j]at this;omega).H h.r.mp,h.r.bo,h.r.bn,h.r.pr.only i L (λb _ e=>by rw[e,j];omega) P,h.r.sl.only i L (λb _ e=>by rw[e,j];omega) P,e5,hB,h.r.b.only i L λ_ _ e=>e,λd hd=>?_,h.r.a.gU,h.r.a.lt,h.r.a.a,h.r.a.b⟩,i.L λb _ e=>by rw[e,j];unfold Mc;omega⟩;obtain⟨dv,hk⟩:=h.r.d d hd;exact⟨dv,hk.only i (λb _ e=>by rw[e,j];omega) P⟩
theorem PU(h:jf w gH t p qb X V)(F:100<=t)(hx:nf X)(hn:XN X)(hl:X.mv.A.nodes.length<=100)(fr nr lt)(ja:0<=lt/\lt<=1000000000000000)(v)(va)(vc)(hv:Rd w gH (t+3) 5 (gN va v.val.length vc) (v.val.map B8))(b9:(X.iW lt).mv.A.nodes.length<=100)(h7:(X.iW lt).mv.A.D nr fr=true->(X.iW lt).mv.A.A.kd=7->Pd ((X.iW lt).M fr v))(h5:(X.iW lt).mv.A.D nr fr=true->(X.iW lt).mv.A.A.kd=5->LF ((X.iW lt).M fr v))(h6:(X.iW lt).mv.A.D nr fr=true->(X.iW lt).mv.A.A.kd=6->FQ ((X.iW lt).M fr v)/\mR (X.iW lt).mv.value):iB 216 #[ptr p,I fr,I nr,I lt,Ua v va vc] w λA w'=>A=iw/\CS w gH t p qb (X.sg fr nr lt v) w':=by
 let⟨W,hW⟩:=gJ (w.alloc (im #[I v.wh,I v.pr,I v.ba,gN va v.val.length vc] 222));have bW:=(Bl.refl w).alloc (im #[I v.wh,I v.pr,I v.ba,gN va v.val.length vc] 222);have hX:=ao w (im #[I v.wh,I v.pr,I v.ba,gN va v.val.length vc] 222);rw[hW]at bW hX;have lr:=(ae.1 hX).1;have ab:∀b,b<w.heap.size->iq gH w.heap.size 5 b=gH b:=λb i=>gV _ _ _ _ i;have hK:=h.bl bW (gI:=iq gH w.heap.size 5) ab;have a0:=gP (sQ (hK.IP hl) nr fr);have lp:=hK.A;let⟨Y,hY⟩:=gJ (X.sg fr nr lt v);rw[hY];unfold Cx.sg at hY;simp only at hY;let⟨HW,BW,HX,HK⟩:=jR hW bW hX hK;let⟨H,al,ba⟩:=iz h (And.intro hx hn) ja;let⟨Hl,Hv⟩:=gO hl hv;have am:Hid (∀Z W',CS W (iq gH w.heap.size 5) t p qb Z W'->CS w gH t p qb Z W'):=λZ W' hc=>CS.yK bW ab hc;clear h hx hn hl hv hW bW hX hK ja;by_cases ha:X.mv.A.D nr fr=true
 .rw[aE ha]at hY;rw[ha]at a0;have an:Hid (∀W2,Bl W W2->iB 250 #[ptr p,I lt] W2 λA w'=>A=iw/\CS W2 (iq gH w.heap.size 5) t p qb (X.iW lt) w'):=λW2 i=>BL (HK.bl i (gI:=iq gH w.heap.size 5) hU) F al.1 al.2 lt ba;generalize X.iW lt=B at*;have ap:=gP hY;clear hY ha;have aq:Hid (∀w3 tag3 V3 W4,jf w3 tag3 t p qb B V3->Bl w3 W4->iB 251 #[.pointer (some (U p 41)),I nr,I fr] W4 λA w'=>A=gX (.bool (B.mv.A.D nr fr))/\Bl W4 w'):=λw3 tag3 V3 W4 hk i=>sQ ((hk.bl i (gI:=tag3) hU).IP b9) nr fr;go_enter func216,ntmps216;go_upto_region 1 with fail;rw[HW.o];clear HW;go_wp2_with fail;refine iO a0 λw2 j=>?_;go_wp2_with fail;refine gT (an _ j) λw3 bb=>?_;obtain⟨tag3,k1,⟨V3,K3⟩,O3⟩:=bb;let⟨ar,au,a6⟩:=iz K3 k1 O3;clear k1 K3 O3;go_wp2_with fail;refine gT (aq w3 tag3 V3 _ ar jC) λw4 av=>?_;have a7:=gP av;clear av aq an a0;have aw:Hid (∀Z W',CS w4 tag3 t p qb Z W'->CS w gH t p qb Z W'):=λZ W' hc=>by have l1:=j.lt;refine am _ _ (CS.uV ((gL.B j).H (a6.H (gL.B a7))) (λb i=>au.o b C) hc)
  have a3:=ar.bl a7 (gI:=tag3) hU;by_cases i:B.mv.A.D nr fr=true
  .rw[i];let⟨_,_,aY,bc⟩:=pF i;have l1:=j.lt;have l3:=a6.size;have lw:=BW.lt;have b0:w4.heap[w.heap.size]?=some (im #[I v.wh,I v.pr,I v.ba,gN va v.val.length vc] 222 (0,0)):=(a7.heap C).H ((a6.block w.heap.size C (by rw[iJ _ _ _ _ jl];unfold Mc;omega)).H ((j.heap lr).H HX));have b1:Rd w4.drew tag3 (t+3) 5 (gN va v.val.length vc) (v.val.map B8):=by have r1:=Hv.bl (BW.H j) (gI:=iq gH w.heap.size 5) (λb i e=>by rw[gV _ _ _ _ i];exact e);have r2:=r1.only a6 (λb i e=>by unfold Mc at e;omega) (gI:=tag3) (λb i e=>by rw[au.o b i];exact e);exact r2.bl (a7.drew) λ_ _ e=>e
   obtain⟨gm,clk,l,b2,ac,ad,b3,ho⟩:=(a3.bl ((Bl.refl w4).drew) (gI:=tag3) hU).XD bc aY v (Ua v va vc) ⟨_,rfl,b1⟩;have b4:w4.cell? (U p 52)=some (.map (some gm)):=b2;have a4:=Am w4 gm clk l ac fr (Ua v va vc) ad;have a5:=Am w4.drew gm clk l ac fr (Ua v va vc) ad;let⟨r0,r1,r2,r3,bi⟩:=rX b0;have bl:=a3.A;have HZ:Hid (CS w gH t p qb (B.M fr v) (ru w4.drew gm clk l fr (Ua v va vc))):=aw _ _ (CS.D ((Bl.refl w4).drew) (CS.mk b3 ho));let⟨W5,ag⟩:=gJ (ru w4.drew gm clk l fr (Ua v va vc));have P:_=Result.ok () W5:=a5.H (by rw[<-ag]);rw[ag]at HZ;unfold Ua at a4 P;clear ag a5 b3 ho b2 ac ad b0 b1 a3;go_upto_region 5 with fail;go_cut[] λwx=>Hid (CS w gH t p qb (B.M fr v) wx)
   case first=>
    go_region;all_goals(go_wp2_with fail;go_meet)
    all_goals exact HZ
   case rest=>
    obtain⟨b5,q1,⟨V5,K5⟩,O5⟩:=hcut.o;have a8:=K5.cellAt 41 rfl;have bm:=K5.A;have b6:(B.M fr v).mv.A.A.kd=B.mv.A.A.kd:=rfl;rw[b6]at a8;have ai:=ap.o;rw[aE i]at ai;have a9:Hid ((if B.mv.A.A.kd=7 then(B.M fr v).mM else if B.mv.A.A.kd=5 then(B.M fr v).kT else if B.mv.A.A.kd=6 then(B.M fr v).nC else B.M fr v)=Y):=ai;have HG:Hid (∀Z W',CS wc b5 t p qb Z W'->CS w gH t p qb Z W'):=λZ W' hc=>CS.uV O5 q1 hc;let⟨aa,H7,H5,H6⟩:=jR K5 (h7 i) (h5 i) (h6 i);clear hcut K5 O5 q1 b6 ai h7 h5 h6 HZ a4 P b4 r0 r1 r2 r3 i;by_cases e7:B.mv.A.A.kd=7
    .have HC:Hid (iB 252 #[ptr p] wc λA w'=>A=iw/\CS w gH t p qb Y w'):=(Es aa F (H7 e7)).L λA w'⟨a1,a2⟩=>⟨a1,by
      have:=a9.o
      rw[aE e7]at this
      rw[<-this];exact HG _ _ a2⟩
     rw[e7]at a8;clear e7;go_wp2_with(go_at_call 252;refine iO HC λw5 HS=>?_);go_end0;exact⟨rfl,HS⟩
    have b7:(B.mv.A.A.kd==7)=false:=by simpa using e7
    by_cases e5:B.mv.A.A.kd=5
    .have y:=H5 e5;have HC:Hid (iB 253 #[ptr p] wc λA w'=>A=iw/\CS w gH t p qb Y w'):=(yp aa F y.x y.sl y.u y.r y.l y.bg y.v).L λA w'⟨a1,a2⟩=>⟨a1,by
      have:=a9.o
      rw[az e7,aE e5]at this
      rw[<-this];exact HG _ _ a2⟩
     rw[e5]at a8;clear e5 e7 b7 y;go_wp2_with(go_at_call 253;refine iO HC λw5 HS=>?_);go_end0;exact⟨rfl,HS⟩
    have bd:(B.mv.A.A.kd==5)=false:=by simpa using e5
    by_cases e6:B.mv.A.A.kd=6
    .let⟨g1,g2⟩:=H6 e6;have HC:Hid (iB 254 #[ptr p] wc λA w'=>A=iw/\CS w gH t p qb Y w'):=(Gg aa F g1 g2).L λA w'⟨a1,a2⟩=>⟨a1,by
      have:=a9.o
      rw[az e7,az e5,aE e6]at this
      rw[<-this];exact HG _ _ a2⟩
     rw[e6]at a8;clear e5 e7 b7 e6 bd g1 g2;go_wp2_with(go_at_call 254;refine iO HC λw5 HS=>?_);go_end0;exact⟨rfl,HS⟩
    have bn:(B.mv.A.A.kd==6)=false:=by simpa using e6
    have HS:Hid (CS w gH t p qb Y wc):=by have:=a9.o;rw[az e7,az e5,az e6]at this;unfold Hid;rw[<-this];exact HG _ _ (CS.B ⟨_,aa⟩ jC)
    generalize B.mv.A.A.kd=kd at*;go_wp2;go_end0;exact⟨rfl,HS⟩
  have b8:B.mv.A.D nr fr=false:=by simpa using i
  rw[b8];have HS:Hid (CS w gH t p qb Y w4):=by have:=ap.o;rw[az i]at this;unfold Hid;rw[<-this];exact aw _ _ (CS.B ⟨_,a3⟩ jC)
  clear i b8 a3;go_wp2;refine aG (v:= .tuple #[]) (by simp[results,results216,go_sem]) rfl ?_;exact⟨rfl,HS⟩
 rw[az ha]at hY;have ak:X.mv.A.D nr fr=false:=iU ha;rw[ak]at a0;subst hY;have be:Hid (∀W2,Bl W W2->iB 251 #[.pointer (some (U p 41)),I nr,I fr] W2 λA w'=>A=gX (.bool false)/\Bl W2 w'):=λW2 i=>by have:=sQ ((HK.bl i (gI:=iq gH w.heap.size 5) hU).IP Hl) nr fr;rwa[ak]at this
 clear ha ak;go_enter func216,ntmps216;go_upto_region 1 with fail;rw[HW.o];clear HW;go_wp2_with fail;refine iO a0 λw2 j=>?_;go_wp2_with fail;refine iO (be _ j) λw3 bg=>?_;go_wp2;refine aG (v:= .tuple #[]) (by simp[results,results216,go_sem]) rfl ?_;exact⟨rfl,am _ _ (CS.B ⟨V,HK⟩ (j.H bg))⟩
def Cx.uY(X:Cx)(nr fr:Int):Bool:=X.d.D nr fr||X.mv.a.D nr fr||X.a.any λc=>c.q.D nr fr
theorem LG(h:jf w gH t p qb X V)(H:Bn X)(fr nr):iB 249 #[O p,I fr,I nr] w λi w'=>Bl w w'/\((X.uY nr fr=true/\∃g o f a,i=gX (.tuple #[.pointer (some (U g o)),.func f #[] a]))\/(X.uY nr fr=true/\∃g o f a,i=gX (.tuple #[.pointer (some (U g o)),.func f a #[]]))\/(X.uY nr fr=false/\i=gX (.tuple #[.pointer none,.nilFunc]))):=by
 cases j:X.d.D nr fr with
 |true=>exact(xV h H fr nr j).L λi w'⟨e,y⟩=>⟨y,.inl ⟨by simp[Cx.uY,j],_,_,_,_,e⟩⟩
 |false=>
  cases A:X.mv.a.D nr fr with
  |true=>exact(x9 h H fr nr j A).L λi w'⟨e,y⟩=>⟨y,.inr (.inl ⟨by simp[Cx.uY,A],_,_,_,_,e⟩)⟩
  |false=>
   refine(zW h H fr nr j A).L λi w'⟨y,W⟩=>⟨y,?_⟩;obtain⟨c,M,P,Y,Z,e,_⟩|⟨F,e⟩:=W
   .exact .inl ⟨by simp only[Cx.uY,j,A,fb,cK];exact⟨c,M,P⟩,_,_,_,_,e⟩
   refine .inr (.inr ⟨?_,e⟩);simp only[Cx.uY,j,A,fb,dm];exact λc M=>by rw[F c M];simp
theorem MG(X:Cx)(fr nr)(A)(h:A.wh=5):X.kI fr nr A=if X.uY nr fr=true then X.iW A.ep else X:=by
 unfold Cx.kI Cx.uY
 cases y:X.d.D nr fr with
 |true=>simp[h]
 |false=>
  cases F:X.mv.a.D nr fr with
  |true=>simp[h]
  |false=>
   cases i:X.a.find? (λc=>c.q.D nr fr)with
   |none=>
    have:(X.a.any λc=>c.q.D nr fr)=false:=by rw[dm];exact λc j=>bU.1 i c j
    simp[this]
   |some c=>
    have:(X.a.any λc=>c.q.D nr fr)=true:=by rw[cK];exact⟨c,bu i,cR (p:=λc:jz=>c.q.D nr fr) i⟩
    simp[this,h]
theorem C3(h:jf w gH t p qb X V)(Z:100<=t)(hx:nf X)(hn:XN X)(hl:Bn X)(fr nr)(A)(h5:A.wh=5)(he:0<=A.ep/\A.ep<=1000000000000000)(va)(vc):iB 214 #[O p,I fr,I nr,ri A va vc] w λen w'=>en=iw/\CS w gH t p qb (X.kI fr nr A) w':=by
 rw[MG X fr nr A h5];let⟨W,hW⟩:=gJ (w.alloc (sX A va vc));have bW:=(Bl.refl w).alloc (sX A va vc);have y:=ao w (sX A va vc);rw[hW]at bW y;have F:=h.bl bW (gI:=gH) hU;obtain⟨⟨r0,r1,r2,r3,r4,r5,r6⟩,_,lr⟩:=Db y;have HA:=gP (LG F hl fr nr);have a1:Hid (∀H,Bl W H->iB 250 #[ptr p,I A.ep] H λen w'=>en=iw/\CS w gH t p qb (X.iW A.ep) w'):=λH hb=>(BL (F.bl hb (gI:=gH) hU) Z hx hn A.ep he).L λen w'⟨e1,e2⟩=>⟨e1,CS.D (bW.H hb) e2⟩;have HF:Hid (∀H,Bl W H->CS w gH t p qb X H):=λH hb=>CS.B ⟨V,h⟩ (bW.H hb);have HW:=gP hW;rw[h5]at r0;let⟨Y,M⟩:=gJ (if X.uY nr fr=true then X.iW A.ep else X);rw[M];clear h F hW bW y hx hn hl he;unfold ri;unfold sX at HW;rw[h5]at HW|-;clear h5;go_enter func214,ntmps214;go_upto_region 1 with fail;rw[HW.o];clear HW;go_wp2_with fail;refine HA.L ?_;rintro en w2⟨i,⟨P,g,o,f,a,rfl⟩|⟨P,g,o,f,a,rfl⟩|⟨P,rfl⟩⟩;iterate 2
  .rw[aE P]at M;have j:=gP (a1 _ i);rw[M]at j;let⟨s0,s1⟩:=i.B lr r0 r1;have a3:=af lr i.lt;clear M i HA r0 r1 P;go_wp2_with(go_at_call 250;refine iO j λw5 a2=>?_);go_end0;exact⟨rfl,a2⟩
 rw[az (nG P)]at M;have a0:=gP (HF _ i);rw[M]at a0;clear M i HA P;go_wp2;first
  |go_end0
  |((try simp only[Exit.inBlock,Exit.then]);refine aG (v:= .tuple #[]) (by simp[results,results214,go_sem]) rfl ?_)
 exact⟨rfl,a0⟩
theorem AT(h:jf w gH t p qb X V)(a7:100<=t)(hl:Bn X)(fr nr)(hw:X.d.D nr fr=false)(hs:X.mv.a.D nr fr=true)(A)(h5:A.wh≠5)(ho:LF {X with mv:={X.mv with a:=X.mv.a.add fr A}})(va)(vc)(ht:Rd w gH (t+3) 5 (gN va A.ct.val.length vc) (A.ct.val.map B8)):iB 214 #[O p,I fr,I nr,ri A va vc] w λen w'=>en=iw/\CS w gH t p qb (X.kI fr nr A) w':=by
 have ag:Hid (X.kI fr nr A=({X with mv:={X.mv with a:=X.mv.a.add fr A}}:Cx).mD):=by unfold Hid Cx.kI;rw[az (nG hw),aE hs,az h5]
 let⟨W,hW⟩:=gJ (w.alloc (sX A va vc));have bW:=(Bl.refl w).alloc (sX A va vc);have P:=ao w (sX A va vc);rw[hW]at bW P;have Y:=h.bl bW (gI:=gH) hU;obtain⟨⟨r0,r1,r2,r3,r4,r5,r6⟩,_,lr⟩:=Db P;let⟨HA,HW,ai⟩:=iz (x9 Y hl fr nr hw hs) hW Y;obtain⟨Ht,a8,BW⟩:=iz (ht.bl bW (gI:=gH) λ_ _ e=>e) (pF hs) bW;have am:(A.wh==5)=false:=iU h5;let⟨Hh,Ho⟩:=gO h ho;clear h Y hW bW P ht ho;unfold ri;unfold sX at HW;go_enter func214,ntmps214;go_upto_region 1 with fail;rw[HW.o];clear HW;go_wp2_with(go_at_call 249;refine gT HA λw2 i=>?_;have Z:=ai.bl i (gI:=gH) hU;have an:=Z.A;let⟨s0,s1,s2,s3⟩:=i.M lr r0 r1 r2 r3;let⟨s4,s5,s6⟩:=i.D lr r4 r5 r6;have a0:=af lr i.lt;let⟨a1,ak⟩:=gO i Z;clear i Z);obtain⟨_,_,M,a9⟩:=a8.o;have aa:nY.ev w2.drew gH (t+3) A (ri A va vc):=⟨_,rfl,Ht.bl (a1.drew) λ_ _ e=>e⟩;obtain⟨gm,clk,l,ab,a2,a3,a4,ho⟩:=(ak.bl ((Bl.refl w2).drew) (gI:=gH) hU).XO a9 M A _ aa;have ac:w2.cell? (U p 40)=some (.map (some gm)):=ab;have a5:=pE w2 gm clk l a2 fr (ri A va vc) a3;have j:=pE w2.drew gm clk l a2 fr (ri A va vc) a3;have ad:gm≠w.heap.size:=λe=>by have y:=((BW.H a1).cell Hh.A).H (Hh.cellAt 40 rfl);rw[ac]at y;have:=(Hh.r.sl.B.map (b:=gm) (by simpa using y.symm)).1;omega
 have F:gL (λb=>b=gm) w2.drew (ru w2.drew gm clk l fr (ri A va vc)):=j7 _ _ _;let⟨W3,a6⟩:=gJ (ru w2.drew gm clk l fr (ri A va vc));have L:_=Result.ok () W3:=j.H (by rw[<-a6]);rw[a6]at a4 ho F;have ap:w.heap.size<W3.heap.size:=af a0 F.size;let⟨t0,t1,t2,t3⟩:=F.M a0 (Ne.symm ad) s0 s1 s2 s3;let⟨t4,t5,t6⟩:=F.D a0 (Ne.symm ad) s4 s5 s6;let⟨HF,HO⟩:=gO (Lo a4 a7 Ho A.wh A.ep A.mark A.ct.kd A.ct.cl A.ct.ca va A.ct.val.length vc) ho;unfold ri at a5 L;clear ho F a6 a2 a3 aa a4 j ab M a9;go_region;all_goals
  go_wp2_with(go_at_call 271;refine iO HF λw5 al=>?_);go_end0;refine⟨rfl,?_⟩;rw[ag.o];exact CS.D (BW.H (a1.drew)) (CS.iW HO al)
structure Ve(X:Cx)(fr nr:Int)(A:An):Prop where
 x:nf X
 n:XN X
 q:Bn X
 nk:PY X
 ep:0<=A.ep/\A.ep<=1000000000000000
 se:X.mv.a.D nr fr=true->LF {X with mv:={X.mv with a:=X.mv.a.add fr A}}
 go:∀c∈X.a,c.q.D nr fr=true->Sy (X.put {c with q:=c.q.add fr A}) {c with q:=c.q.add fr A}
theorem Js(h:jf w gH t p qb X V)(i:100<=t)(fr nr)(A)(j:Ve X fr nr A)(va)(vc)(F:Rd w gH (t+3) 5 (gN va A.ct.val.length vc) (A.ct.val.map B8)):iB 214 #[O p,I fr,I nr,ri A va vc] w λM w'=>M=iw/\CS w gH t p qb (X.kI fr nr A) w':=by
 by_cases y:A.wh=5
 .exact C3 h i j.x j.n j.q fr nr A y j.ep va vc
 cases H:X.d.D nr fr with
 |true=>exact AO h j.q fr nr H A y va vc F
 |false=>
  cases L:X.mv.a.D nr fr with
  |true=>exact AT h i j.q fr nr H L A y (j.se L) va vc F
  |false=>exact Df h i j.x j.q j.nk fr nr H L A y j.go va vc F
def sP.only(h:sP w v ds)(i:gL T w w')(A:∀b,v.ownBlock=some b->¬T b):sP w' v ds:=by obtain⟨b,o,c,rfl,y,F,L,M⟩:=h;exact⟨b,o,c,rfl,af y i.size,F,L,λj d P=>(i.cell y (A b rfl)).H (M j d P)⟩
def sP.B(h:sP w v ds):∃a c,v=gN a ds.length c:=by obtain⟨b,o,c,rfl,_⟩:=h;simp_all
def sP.lt(h:sP w v ds):∀b,v.ownBlock=some b->b<w.heap.size:=by obtain⟨b,o,c,rfl,j,_⟩:=h;intro b' i;simp only[Value.ownBlock,aJ]at i;omega
def Ak{kd:Int}{h val:List Int}(y:0<=kd)(A:kd<=255)(F:h.length<=255)(H:val.length<=255)(L:∀d∈val,0<=d/\d<=255):∀d∈iV kd h val,0<=d/\d<=255:=by
 intro d hd;unfold iV at hd;simp only[aT,bh,eB,dB,or_false]at hd;obtain (rfl|rfl|rfl)|⟨x,_,i⟩|hd:=hd
 .omega
 .omega
 .omega
 .unfold sC at i;obtain⟨j,_,rfl⟩:=aD.1 i;exact wJ x j
 simp_all
theorem IG(h:jf w gH t p qb X V)(j:100<=t)(fr nr)(A)(hR:Ve X fr nr A)(v)(hv:sP w v (iV 101 [nr,A.wh,A.ep,A.mark,A.ct.kd,A.ct.cl,A.ct.ca] A.ct.val))(P:Rc.Ok xe ⟨101,[nr,A.wh,A.ep,A.mark,A.ct.kd,A.ct.cl,A.ct.ca],A.ct.val⟩)(Y:∀b,v.ownBlock=some b->¬Mc t (gH b)):iB 162 #[O p,I fr,v] w λen w'=>en=iw/\CS w gH t p qb (X.kI fr nr A) w':=by
 have HR:=gP (Bk v nr A.wh A.ep A.mark A.ct.kd A.ct.cl A.ct.ca A.ct.val w hv P);have Z:∀d∈iV 101 [nr,A.wh,A.ep,A.mark,A.ct.kd,A.ct.cl,A.ct.ca] A.ct.val,0<=d/\d<=255:=Ak gF gF gG P.v1 P.UZ;have y:(iV 101 [nr,A.wh,A.ep,A.mark,A.ct.kd,A.ct.cl,A.ct.ca] A.ct.val).length<=1100000000000:=by exact aF (Ie P) gF
 have HV:Hid (∀W,sP W v (iV 101 [nr,A.wh,A.ep,A.mark,A.ct.kd,A.ct.cl,A.ct.ca] A.ct.val)->_):=λW hW=>FL v _ W hW (by simp[iV]) y Z (by simp[iV]);let⟨Hh,Hp,a6⟩:=iz h hv Y;let⟨a7,a0⟩:=gO hR j;obtain⟨vb,a1,a8⟩:=hv.B;subst a8;clear h hv P Y Z hR y j;generalize (iV 101 [nr,A.wh,A.ep,A.mark,A.ct.kd,A.ct.cl,A.ct.ca] A.ct.val)=ds at*;go_enter func162,ntmps162;go_wp2_with fail;refine HR.L ?_;rintro en w1⟨va,vc,rfl,F,H⟩;have bX:=(Bl.refl w1).alloc (sX A va vc);have i:∀b,b<w.heap.size->iq gH w.heap.size (t+3) b=gH b:=λb M=>gV _ _ _ _ M;have HO:=gP i;have a2:=Hh.bl (F.H bX) (gI:=iq gH w.heap.size (t+3)) i;obtain⟨HP,L⟩:=gO (Js a2 a0 fr nr A a7 va vc ((Rd.qj (gH:=iq gH w.heap.size (t+3)) (t:=t+3) H λb M=>iJ _ _ _ _ (H.lt b M).1).bl bX λ_ _ e=>e)) (F.H bX);unfold ri at HP;unfold sX at HP bX L;clear HR F H a2 bX i;go_wp2_with(go_at_call 214;refine gT HP λw2 hs=>?_;have HS:=gP hs;clear hs HP);have a3:sP w2 (lF vb ds a1) ds:=by
  obtain⟨_,_,_,o2⟩:=HS.o;exact(Hp.bl L).only o2 (λb M e=>by
   rw[HO.o b (Hp.lt b M)]at e
   exact a6 b M e)
 have a4:=gP (HV w2 a3);clear a3 HV;refine gT a4 λw3 a5=>?_;have a9:=gP a5;clear a4 a5;go_wp2;go_end0;exact⟨rfl,CS.yK L HO (HS.post (a9.alloc _))⟩
structure V0(X:Cx)(fr nr lt:Int)(v:Vo):Prop where
 x:nf X
 n:XN X
 l1:X.mv.A.nodes.length<=100
 ja:0<=lt/\lt<=1000000000000000
 l2:(X.iW lt).mv.A.nodes.length<=100
 h7:(X.iW lt).mv.A.D nr fr=true->(X.iW lt).mv.A.A.kd=7->Pd ((X.iW lt).M fr v)
 h5:(X.iW lt).mv.A.D nr fr=true->(X.iW lt).mv.A.A.kd=5->LF ((X.iW lt).M fr v)
 h6:(X.iW lt).mv.A.D nr fr=true->(X.iW lt).mv.A.A.kd=6->FQ ((X.iW lt).M fr v)/\mR (X.iW lt).mv.value
theorem L7(h:jf w gH t p qb X V)(y:100<=t)(fr nr lt)(u)(hR:V0 X fr nr lt u)(v)(hv:sP w v (iV 102 [nr,lt,u.wh,u.pr,u.ba] u.val))(H:Rc.Ok xm ⟨102,[nr,lt,u.wh,u.pr,u.ba],u.val⟩):iB 162 #[O p,I fr,v] w λen w'=>en=iw/\CS w gH t p qb (X.sg fr nr lt u) w':=by
 have L:∀d∈iV 102 [nr,lt,u.wh,u.pr,u.ba] u.val,0<=d/\d<=255:=Ak gF gF gG H.v1 H.UZ;have A:(iV 102 [nr,lt,u.wh,u.pr,u.ba] u.val).length<=1100000000000:=by exact aF (Ie H) gF
 have HR:=gP (Du v _ w hv (by simp[iV]) A L (by simp[iV]));have HV:Hid (∀W,sP W v (iV 102 [nr,lt,u.wh,u.pr,u.ba] u.val)->_):=λW M=>Dv v nr lt u.wh u.pr u.ba u.val W M H;let⟨Hh,Hp,i,P⟩:=jR h hv hR y;obtain⟨vb,a5,a2⟩:=hv.B;subst a2;clear h hv H L hR A y;generalize (iV 102 [nr,lt,u.wh,u.pr,u.ba] u.val)=ds at*;go_enter func162,ntmps162;go_wp2_with fail;refine gT HR λw1 Y=>?_;have a3:=gP Y;clear HR Y;let⟨W,M⟩:=gJ (w1.alloc GH);have bW:=a3.alloc GH;rw[M]at bW;let⟨Z,BW,HW⟩:=iz (HV W (Hp.bl bW)) bW M;clear HV M bW;go_wp2_with fail;rw[HW.o];refine Z.L ?_;rintro en w2⟨va,vc,rfl,a0,F⟩;have bX:=(Bl.refl w2).alloc (im #[I u.wh,I u.pr,I u.ba,gN va u.val.length vc] 222);have j:∀b,b<w.heap.size->iq gH w.heap.size (t+3) b=gH b:=λb hb=>gV _ _ _ _ hb;have bb:=BW.H (a0.H bX);have a1:=Hh.bl bb (gI:=iq gH w.heap.size (t+3)) j;obtain⟨HP,HO,a4⟩:=iz (PU a1 P i.x i.n i.l1 fr nr lt i.ja u va vc ((Rd.qj (gH:=iq gH w.heap.size (t+3)) (t:=t+3) F λb hb=>iJ _ _ _ _ (aF BW.lt (F.lt b hb).1)).bl bX λ_ _ e=>e) i.l2 i.h7 i.h5 i.h6) j bb;unfold Ua ptr at HP;clear Z a0 F a1 bX j bb;go_wp2_with(go_at_call 216;refine gT HP λw3 hs=>?_;have HS:=gP hs;clear hs HP);go_end0;exact⟨rfl,CS.yK a4 HO HS⟩
theorem ub(fr)(v)(Q:World->Prop)(h:iB 162 #[O p,I fr,v] w λi w'=>i=iw/\Q w'):iB 102 #[O p,I fr,v] w λi w'=>i=iw/\Q w':=by
 have H:=gP h;clear h;go_enter func102,ntmps102;go_wp2_with fail;refine gT H λw' j=>?_;have y:=gP j;clear H j;go_wp2;go_end0;exact⟨rfl,y⟩
def LS(h:List Int)(w)(base)(y:w.ownsRow base 3 1 v h.length (h.map I))(hn:h.length<=100):iB 95 #[v] w λe w'=>e=iw/\gL (λk=>v.ownBlock=some k) w w'/\w'.ownsRow base 3 1 v h.length ((h.mergeSort leI).map I):=by
 obtain⟨A,F⟩|⟨H,i,M,P,W,j,Y,Z,hs,ht⟩:=y.2
 .subst A;have hz:h=[]:=List.eq_nil_of_length_eq_zero F;subst hz;refine(Ck none 0 w).L ?_;rintro e w'⟨rfl,rfl⟩;exact⟨rfl,ug,iU y⟩
 subst P;refine(Any.slices_Sort_int il.KK H 0 i h w (holds_of_blockI j (iU ht)) (ae.1 j).1 C).L ?_;rintro e w'⟨rfl,n,os,rfl⟩;exact⟨rfl,(gL.A (grownBy_sortedI _)).L λk _ e=>by simpa [Value.ownBlock]using e.symm,ownsRow_sortedI (by rw[List.length_mergeSort]) W j Y Z hs⟩
theorem VE{bm clk:Nat}(c8:w.cell? (U p 8)=some (.map (some bm)))(_lp:p<w.heap.size)(hm:w.heap[bm]?=some (.map es clk))(bo:∀x∈es.toList,x.born<clk)(nd:(es.toList.map (·.born)).Nodup)(hv:∀x∈es.toList,x.key=I (ke x)/\∃q,x.val= O q/\∀W,Bl w W->iB 94 #[O q] W λe w'=>e=gX (.bool (wn x))/\w'=W)(hs:es.size<=8):iB 51 #[O p] w λen w'=>∃v,en=gX v/\w'.ownsRow w.heap.size 3 1 v (es.toList.filter wn).length ((((es.toList.filter wn).map ke).mergeSort leI).map I)/\Bl w w':=by
 obtain⟨i3,ji,ab,ac,ad⟩:=fx il.tY;let⟨HM,ag,ai⟩:=iz hm bo nd;let⟨HV,HS⟩:=gO hv hs;have lm:=(ae.1 hm).1;clear hm bo nd hv hs;go_enter func51,ntmps51;go_wp2_with(at_range;refine j9 _ rfl _ 98 rfl 3 163 underlying98 bm es clk rfl HM ag ai ?_;intro hI;generalize hr:w.heap.size=r at hI|-;let⟨HI,HR⟩:=gO hI hr;clear hr hI);go_frame;go_loopw[3](λv wr=>∃(h:List MapEntry) (j:List Int),Hid (Bl w wr)/\Hid (wr.ownsRow r 3 1 v j.length (j.map I))/\Hid (j.Perm ((h.filter wn).map ke))/\Hid (It wr r bm es clk h)) λ_ wr=>es.size-(wr.iterSeen r).size
 case atStart=>exact⟨[],[],jC.alloc _,mT,fK _,HI⟩
 let⟨h,j,HB,HG,HZ,HJ⟩:=hrel;go_wp2_with(at_next;refine kQ _ rfl _ rfl r bm clk es h rfl HJ ?_ ?_)
 .intro h0;have a1:j.Perm ((es.toList.filter wn).map ke):=HZ.H ((h0.filter wn).map ke);have hl:j.length=(es.toList.filter wn).length:=by rw[a1.length_eq];simp
  have ak:(es.toList.filter wn).length<=8:=aF (bF _ _) (iU HS.o);have a0:=mergeSort_of_perm_i a1;have HC:=gP (LS j wr r HG C);rw[a0,hl]at HC;have al:=gP HG.lt;clear a0 hl ak a1;go_wp2_with fail;refine HC.L ?_;rintro en w2⟨rfl,a6,a7⟩;let⟨am,an⟩:=gO a6 a7;clear a6 a7;go_wp2;go_ret;have ap:=HR.o;subst ap;exact⟨_,rfl,an,HB.A am λk e=>(al k e).1⟩
 intro e W he F hO aq;let⟨ar,q,hq,a8⟩:=HV e (iU he);rw[hq,ar]at aq|-;have Y:Bl w W:=HB.A hO λb hb=>gS HR.o;have HC:=gP (a8 W Y);have Z:W.ownsRow r 3 1 u3 j.length (j.map I):=hO.iX HG λg e e'=>by let⟨cc,i⟩:=nZ HG g e;have:=HJ.it;rw[e']at i;rw[this]at i;simp at i
 have a9:Hid (u3.ownBlock≠some r/\u3.ownBlock≠some bm):=⟨λe=>by
  obtain⟨cc,i⟩:=nZ Z _ e
  rw[F.it]at i;simp at i,λe=>by
  obtain⟨cc,i⟩:=nZ Z _ e
  rw[F.mp]at i;simp at i⟩
 let⟨a2,HO,a3,aa⟩:=jR F hO Z Y;have au:j.length+1<=9:=by have h1:=HZ.length_eq;have h2:=HJ.len;have h3:=HS.o;have h4:=bF wn h;rw[ay]at h1;omega
 have av:Hid (j.length+1<=maxLen):=mV;have aw:Hid ((j.length+1)*8<=140737488355328):=lT;have aY:=gP F.lr;have b2:=Y.lt;have L:Hid (∀w3:World,It w3 r bm es clk (e::h)->es.size-(w3.iterSeen r).size<es.size-(wr.iterSeen r).size):=λw3 h3=>by
  have e1:w3.iterSeen r=((e::h).map (·.born)).reverse.toArray:=by unfold World.iterSeen;rw[h3.it]
  have e2:wr.iterSeen r=(h.map (·.born)).reverse.toArray:=by unfold World.iterSeen;rw[HJ.it]
  have:=h3.len;rw[e1,e2];simp at this|-;omega
 clear Z Y F hO he HG a8 au
 cases y:wn e with
 |false=>
  rw[y]at HC;have a4:=gP y;clear y;go_wp2_with(go_at_call 94;refine HC.L ?_;rintro en w2⟨rfl,rfl⟩);go_roundw
  case rel=>exact⟨e::h,j,aa,a3,by unfold Hid;rw[cT,az (nG a4.o)];exact HZ,a2⟩
  exact L _ a2
 |true=>
  rw[y]at HC;have a4:=gP y;clear y;go_wp2_with fail;refine HC.L ?_;rintro en w2⟨rfl,rfl⟩;generalize hk:ke e=kk at*;have Hk:=gP hk;clear hk;go_wp2_with(at_builtin;refine fm _ rfl _ _ 24 rfl r 3 i3 (I 0) 1 8 underlying24 ji ab ac ad rfl gF u3 j.length _ rfl (a3.alloc _) (U w2.heap.size 0) 1 1 [I kk] rfl rfl (ZV _ _ _) rS gF av aw (by have:=aY.o;simp;omega) (w2.heap.size+1) gG ?_);intro g' cap w3 M P b0 b1;have O3:=gL.A P;have b3:Bl w w3:=(aa.alloc _).A O3 λk e=>by have:=(a3.lt k e.symm).1;have:=HR.o;omega
  have r3:It w3 r bm es clk (e::h):=(a2.bl ((Bl.refl w2).alloc _)).only O3 (λe=>a9.1 e.symm) λe=>a9.2 e.symm;have a5:Hid (w3.ownsRow r 3 1 (gN (G g') (j.length+1) cap) (j++[kk]).length ((j++[kk]).map I)):=by unfold Hid;simpa using M
  let⟨R3,B3⟩:=gO r3 b3;clear M P b0 O3 b3 r3;go_wp2;go_roundw
  case rel=>refine⟨e::h,j++[kk],B3,a5,?_,R3⟩;unfold Hid;rw[cT,aE a4.o,bj,Hk.o];exact(gk).H (HZ.cons kk)
  case measure=>exact L _ R3
theorem F5(h:jf w gH t p qb X V)(Y:X.a.length<=8)(Z:∀c∈X.a,c.q.nodes.length<=100):iB 51 #[O p] w λM w'=>∃v,M=gX v/\w'.ownsRow w.heap.size 3 1 v X.jA.length (X.jA.map λ(n:Nat)=>I (n:Int))/\Bl w w':=by
 have j:∀x∈(MO X qb V).toList,∃c∈X.a,x=(kt qb V.bo c).A:=λx y=>by obtain⟨e,he,rfl⟩:=lQ y;obtain⟨c,i,rfl⟩:=aD.1 he;exact⟨c,i,rfl⟩
 have e1:(MO X qb V).toList=X.a.map λc=>(kt qb V.bo c).A:=by simp[iu,Function.comp_def]
 obtain⟨wn,F⟩:∃wn:MapEntry->Bool,∀c∈X.a,wn (kt qb V.bo c).A=Cx.ml c:=by
  refine⟨λx=>((X.a.find? λc=>Go.RowKit.intOf x.key==((c.gU:Nat):Int)).map Cx.ml).getD false,λc i=>?_⟩;have:X.a.find? (λd=>((c.gU:Nat):Int)==((d.gU:Nat):Int))=some c:=by
   cases e:X.a.find? (λd=>((c.gU:Nat):Int)==((d.gU:Nat):Int))with
   |none=>have:=bU.1 e c i;simp at this
   |some d=>have H:=cR (p:=λd:jz=>((c.gU:Nat):Int)==((d.gU:Nat):Int)) e;simp at H;rw[rI h.r.a.gU (bu e) i C]
  show((X.a.find? λd=>((c.gU:Nat):Int)==((d.gU:Nat):Int)).map Cx.ml).getD false=Cx.ml c;rw[this];rfl
 have P:((MO X qb V).toList.filter wn)=(X.a.filter Cx.ml).map λc=>(kt qb V.bo c).A:=by rw[e1,dZ];congr 1;exact dH λc i=>F c i
 have hl:((MO X qb V).toList.filter wn).length=X.jA.length:=by rw[P];simp[Cx.jA]
 have hk:(((MO X qb V).toList.filter wn).map λx=>Go.RowKit.intOf x.key)=X.jA.map λ(n:Nat)=>(n:Int):=by rw[P,br];unfold Cx.jA;rw[br];rfl
 have hs:(X.jA.map λ(n:Nat)=>(n:Int)).mergeSort leI=X.jA.map λ(n:Nat)=>(n:Int):=by refine fI ?_;unfold Cx.jA;rw[br,cj];refine(h.r.a.gU.filter _).imp fun{a b} hh=>?_;unfold leI;simp;omega
 refine(VE (ke:=λx=>Go.RowKit.intOf x.key) (wn:=wn) (h.cellAt 8 rfl) h.A h.r.mp (λx y=>?_) ?_ (λx y=>?_) (by simpa [iu]using Y)).L ?_
 .obtain⟨c,i,rfl⟩:=j x y;exact h.r.bo c i
 .have:(MO X qb V).toList.map (·.born)=X.a.map λc=>V.bo c.gU:=by simp[iu,Function.comp_def,Ae.A,kt]
  rw[this];exact h.r.bn
 .obtain⟨c,i,rfl⟩:=j x y;refine⟨rfl,qb c.gU,rfl,λW hW=>?_⟩;obtain⟨cv,k⟩:=(h.bl hW (gI:=gH) hU).r.d c i;rw[F c i];exact qV k (Z c i)
 rintro M w'⟨v,rfl,H,h2⟩;rw[hl,hk,hs,br]at H;exact⟨v,rfl,H,h2⟩
def jz.tH(c:jz):jz:={c with q:={c.q with qU:=true}}
def Cx.Bm(X:Cx)(s:List Int):Cx:={X with a:=X.a.map λc=>if s.contains (c.gU:Int)then c.tH else c}
def Cx.Ol(X:Cx):X.Bm []=X:=by unfold Cx.Bm;simp
def Cx.PE(X:Cx)(s)(h:∀c∈X.a,(c.gU:Int)∈s):X.Bm s={X with a:=X.a.map jz.tH}:=by unfold Cx.Bm;simp_all
def Cx.LX(X)(h:tP X)(i:c∈X.a)(s):X.Bm ((c.gU:Int)::s)=(X.Bm s).put (if s.contains (c.gU:Int)then c.tH else c).tH:=by
 have j:(if s.contains (c.gU:Int)then c.tH else c).tH=c.tH:=by split<;>rfl
 rw[j];unfold Cx.Bm Cx.put;simp only[br];congr 1;refine bf λd y=>?_;simp only[Function.comp_apply];by_cases e:d.gU=c.gU
 .have:=rI h.gU y i e;subst this;rw[aE gG,aE (by split<;>simp[jz.tH])]
 have A:¬(if s.contains (d.gU:Int)then d.tH else d).gU=c.tH.gU:=by split<;>simpa [jz.tH]using e
 rw[az A];have:((c.gU:Int)::s).contains (d.gU:Int)=s.contains (d.gU:Int):=by rw[List.contains_cons];have:((d.gU:Int)==(c.gU:Int))=false:=ig;rw[this,fb]
 rw[this]
def Cx.Gj(X:Cx)(h:c∈X.a)(s):(if s.contains (c.gU:Int)then c.tH else c)∈(X.Bm s).a:=aD.2 ⟨c,h,rfl⟩
def jf.tH(h:jf w gH t p qb X V)(i:c∈X.a):jf (w.setCell (U (qb c.gU) 27) (.bool true)) gH t p qb (X.put c.tH) V/\gL (λb=>Mc t (gH b)) w (w.setCell (U (qb c.gU) 27) (.bool true)):=by obtain⟨cv,k⟩:=h.r.d c i;have j:gL _ w (w.setCell (U (qb c.gU) 27) (.bool true)):=(gL.refl (λb=>b=qb c.gU) w).setCell (U (qb c.gU) 27) (.inl rfl) _;exact h.TH i k j (k.A j (jx 27 _ w _ k.hq) rfl k.ie k.jb k.e ⟨k.q.val,k.q.nodes,k.q.B,k.q.nil⟩) rfl rfl
def jf.Vw(h:jf w gH t p qb X V):jf (ku ((w.setCell (U p 54) (.bool X.wb)).setCell (U p 22) (I 0)) p 24 (uo 0 false)) gH t p qb {X with wl:=X.wb,e:=0,mv:=Mv.zero} {V with bg:= .map none,b:= OO,sl:=QV.zero,vt:=QV.zero}:=by
 have i:jf _ gH t p qb {X with wl:=X.wb,e:=0} V:=
  h.uR (((gL.refl (λb=>b=p) w).setCell (U p 54) (.inl rfl) _).setCell (U p 22) (.inl rfl) _) (jx 22 _ _ _ (jx 54 _ w _ h.hp)) ⟨h.r.lay,h.r.c,h.r.tb,h.r.mp,h.r.bo,h.r.bn,h.r.pr,h.r.sl,h.r.vt,h.r.bg,h.r.b,h.r.d,h.r.a.gU,h.r.a.lt,h.r.a.a,h.r.a.b⟩
 exact i.yL 0 false
theorem SG(h:jf w gH t p qb X V)(am:100<=t)(hx:nf X)(hn:XN X)(ha:X.ib<=999999999999999)(hr:X.c.length<=1000000000)(h8:X.a.length<=8)(hq:∀c∈X.a,c.q.nodes.length<=100):iB 97 #[O p] w λen w'=>en=iw/\CS w gH t p qb X.nM w':=by
 obtain⟨X1,F⟩:∃X1:Cx,X1={X with wl:=X.wb,e:=0,mv:=Mv.zero}:=⟨_,rfl⟩;obtain⟨Y,hY⟩:∃Y:Cx,Y={X1 with a:=X1.a.map jz.tH}:=⟨_,rfl⟩;have hT:X.nM=(if(if Y.jA.length<Y.a.length then Y.jM else Y).jn then(if Y.jA.length<Y.a.length then Y.jM else Y).jH else(if Y.jA.length<Y.a.length then Y.jM else Y)):=by subst hY F;rfl
 have b4:nf Y:=by subst hY F;exact⟨hx.nB,hx.ll,hx.ne,hx.a0,hx.a1⟩
 have b5:nf Y.jM:=by subst hY F;exact⟨hx.nB,hx.ll,hx.ne,by show 0<=X.ib+1;have:=hx.a0;omega,by show X.ib+1<=_;omega⟩
 have ak:XN Y:=by subst hY F;exact⟨hn.e,by show(0:Int)<=0/\(0:Int)<=_;omega⟩
 have b6:XN Y.jM:=⟨ak.e,ak.t⟩;have b7:Y.c.length<=1000000000:=by subst hY F;exact hr
 have b8:Y.a.length<=8:=by subst hY F;simpa using h8
 have b9:∀c∈Y.a,c.q.nodes.length<=100:=by subst hY F;intro c hc;obtain⟨d,hd,rfl⟩:=aD.1 hc;exact hq d hd
 have H1:=h.Vw;rw[<-F]at H1;generalize ({V with bg:= .map none,b:= OO,sl:=QV.zero,vt:=QV.zero}:CV)=V1 at H1;have O1:gL (λb=>b=p) w (ku ((w.setCell (U p 54) (.bool X.wb)).setCell (U p 22) (I 0)) p 24 (uo 0 false)):=jO (S:=λb=>b=p) (.inl rfl) (uo 0 false) 24 _ (((gL.refl (λb=>b=p) w).setCell (U p 54) (.inl rfl) _).setCell (U p 22) (.inl rfl) _);have ar:=h.mZ O1;let⟨W1,au⟩:=gJ (ku ((w.setCell (U p 54) (.bool X.wb)).setCell (U p 22) (I 0)) p 24 (uo 0 false));rw[au]at H1 ar;let⟨bV,bW⟩:=h.R 53 22 rfl;have bX:=h.M 22;have c0:=h.cellAt 54 rfl;have c1:=h.M 54;have ba:Hid (((w.setCell (U p 54) (.bool X.wb)).setCell (U p 22) (I 0)).there p 24 (uo 0 false).toArray.size):=λj hj=>by have hh:=jx 22 (I 0) _ _ (jx 54 (.bool X.wb) w _ h.hp);refine⟨?_,aP _ p _ _ 114 hh⟩;rw[ax _ p _ _ 114 (0,0) hh];have:j<29:=hj;simp[qW];omega
 have lp:=h.A;let⟨bb,M,c2,HT⟩:=jR au H1 ar hT;let⟨bc,c3,c4,c5⟩:=jR b4 b5 ak b6;let⟨bd,av,c6⟩:=iz b7 b8 b9;let⟨HY,a1⟩:=gO hY am;clear h au H1 O1 ar hT b4 b5 ak b6 b7 b8 b9 hY F hx hn hr h8 hq ha am;go_enter func97,ntmps97;have be:(prog.info? 108).map (·.size)=some (uo 0 false).toArray.size:=ix;have an:(uo 0 false).toArray.all (·.oneCell')=true:=ix;go_upto_region 2 with((show Go.wpList _ _ _ [{dst:=none,op:=Op.store 108 _ _,type:=_,pos:=_,after:=_,guard:=_}] _ _);refine wpList_store_mid rfl 108 (.tmp 19) (.tmp 15) rfl p 24 (uo 0 false).toArray rfl rfl ba be an ?_);have hE:((w.setCell (U p 54) (.bool X.wb)).setCell (U p 22) (I 0)).setCells p 24 (uo 0 false).toArray.toList=W1:=(vX p _ 24 _).H bb;rw[hE];have d8:=M.cellAt 8 rfl;have cn:=M.A;have bi:=gP M.r.mp;have bl:Hid (∀x∈(iu (X1.a.map (kt qb V1.bo))).toList,x.born<V1.clk):=λx hx=>by obtain⟨e,he,rfl⟩:=lQ hx;obtain⟨c,hc,rfl⟩:=aD.1 he;exact M.r.bo c hc
 have bn:Hid (((iu (X1.a.map (kt qb V1.bo))).toList.map (·.born)).Nodup):=by
  have:(iu (X1.a.map (kt qb V1.bo))).toList.map (·.born)=X1.a.map λc=>V1.bo c.gU:=by simp[iu,Function.comp_def,Ae.A,kt]
  unfold Hid;rw[this];exact M.r.bn
 have c7:=M.r.lb;have c8:=gP M.r.tb;clear bW bX c0 c1 bV be an ba bb hE;generalize bo:V1.bm=bm at*;generalize ap:V1.clk=clk at*;let⟨bp,ck⟩:=gO bo ap;clear bo ap;let⟨es,aw⟩:=gJ (iu (X1.a.map (kt qb V1.bo)));rw[aw]at bi bl bn;have bq:=gP aw;clear aw;go_wp2_with(at_range;refine j9 _ rfl _ 98 rfl 3 163 underlying98 bm es clk rfl bi bl bn ?_;intro hI;generalize hr:W1.heap.size=r at hI|-;let⟨HI,HR⟩:=gO hI hr;clear hr hI);let⟨y,a2⟩:=gJ (iq gH W1.heap.size 5);have a4:Hid (∀b,b<W1.heap.size->y b=gH b):=λb hb=>by rw[<-a2];exact gV _ _ _ _ hb
 have bs:Hid (y r=5):=by unfold Hid;rw[<-a2,<-HR.o];exact iJ _ _ _ _ jl
 have c9:Hid (y bm=t+1):=(a4 bm c7).H c8;clear a2;go_frame;go_loopw[](λwr=>∃i:List MapEntry,Hid (jf wr y t p qb (X1.Bm (i.map λx=>Go.RowKit.intOf x.key)) V1)/\Hid (gL (λb=>Mc t (gH b)) W1 wr)/\Hid (It wr r bm es clk i)) λwr=>es.size-(wr.iterSeen r).size
 case atStart=>exact⟨[],by unfold Hid;rw[eT,Cx.Ol];exact M.bl (jC.alloc _) a4,(gL.refl _ W1).alloc _,HI⟩
 let⟨i,HC,HO,HJ⟩:=hrel;go_wp2_with(at_next;refine kQ _ rfl _ rfl r bm clk es i rfl HJ ?_ ?_)
 .intro h0;have bv:X1.Bm (i.map λx=>Go.RowKit.intOf x.key)=Y:=by rw[HY.o];refine Cx.PE X1 _ λc hc=>aD.2 ⟨(kt qb V1.bo c).A,h0.mem_iff.2 ?_,rfl⟩;rw[<-bq.o];simp only[iu];exact aD.2 ⟨_,aD.2 ⟨c,hc,rfl⟩,rfl⟩
  have hK:=HC.o;rw[bv]at hK;have HK:=gP hK;have e8:=hK.cellAt 8 rfl;rw[bp.o]at e8;have co:=hK.A;have aY:=hK.r.mp;rw[bp.o]at aY;have bw:=Qk wr bm _ _ aY;rw[ay]at bw;have bx:=gP (F5 hK av c6);have HG:Hid (∀w2 Z,CS wr y t p qb Z w2->CS w gH t p qb Z w2):=λw2 Z hs=>CS.uV c2 hU (CS.uV HO a4 hs)
  clear hK aY bv HC h0 d8 HJ;go_wp2_with fail;refine bx.L ?_;rintro en w2⟨v,rfl,bz,bA⟩;obtain⟨va,cl,rfl⟩:=jw bz;have a5:=gP bA;clear bx bz bA;have a6:=gP (HK.bl a5 (gI:=y) hU);have ca:=a6.A;by_cases hw:Y.jA.length<Y.a.length
  .rw[aE hw]at HT;have b0:=gP (Bc a6 a1 bc);have cb:(Y.jA.length:Int)<(Y.a.length:Int):=C;clear hw;unfold ptr at b0;go_wp2_with fail;refine gT b0 λw3 bB=>?_;have a7:=gP bB;clear bB b0;obtain⟨tag3,a8,⟨V3,P⟩,a9⟩:=a7.o;have a3:=gP (mE P (by exact bd) (by exact av));have HM:Hid (∀W,Bl w3 W->iB 93 #[ptr p] W λen w'=>en=iw/\CS w2 y t p qb (Y.jM).jH w'):=λW hW=>(pg (P.bl hW (gI:=tag3) hU) a1 c3 c5).L λen w'⟨e1,e2⟩=>⟨e1,CS.uV a9 a8 (CS.yK hW hU e2)⟩
   have cc:=P.A;unfold ptr at a3 HM;clear a8 P a9;go_wp2_with fail;refine gT a3 λw4 aa=>?_;have ab:=gP aa;clear aa a3
   cases a0:(Y.jM).jn with
   |false=>rw[a0,az gG]at HT;clear a0;go_wp2;go_end0;refine⟨rfl,?_⟩;rw[HT.o];exact HG _ _ (CS.D a5 (a7.post ab))
   |true=>rw[a0,aE rfl]at HT;have ac:=gP (HM w4 ab);clear a0 HM;go_wp2_with fail;refine gT ac λw5 ad=>?_;have b1:=gP ad;clear ad ac;go_wp2;go_end0;refine⟨rfl,?_⟩;rw[HT.o];exact HG _ _ (CS.D a5 b1)
  rw[az hw]at HT;have cb:¬(Y.jA.length:Int)<(Y.a.length:Int):=C;clear hw;let⟨w3,bC⟩:=gJ w2;have a7:Hid (CS w2 y t p qb Y w3):=by rw[<-bC];exact CS.B ⟨V1,a6⟩ jC
  obtain⟨tag3,a8,⟨V3,P⟩,a9⟩:=a7.o;have a3:=gP (mE P (by exact bd) (by exact av));have HM:Hid (∀W,Bl w3 W->iB 93 #[ptr p] W λen w'=>en=iw/\CS w2 y t p qb (Y).jH w'):=λW hW=>(pg (P.bl hW (gI:=tag3) hU) a1 bc c4).L λen w'⟨e1,e2⟩=>⟨e1,CS.uV a9 a8 (CS.yK hW hU e2)⟩
  have cc:=P.A;unfold ptr at a3 HM;clear a8 P a9;rw[bC]at ca|-;go_wp2_with fail;refine gT a3 λw4 aa=>?_;have ab:=gP aa;clear aa a3
  cases a0:(Y).jn with
  |false=>rw[a0,az gG]at HT;clear a0;go_wp2;go_end0;refine⟨rfl,?_⟩;rw[HT.o];exact HG _ _ (CS.D a5 (a7.post ab))
  |true=>rw[a0,aE rfl]at HT;have ac:=gP (HM w4 ab);clear a0 HM;go_wp2_with fail;refine gT ac λw5 ad=>?_;have b1:=gP ad;clear ad ac;go_wp2;go_end0;refine⟨rfl,?_⟩;rw[HT.o];exact HG _ _ (CS.D a5 b1)
 intro e W he bD hO cd;obtain⟨c,hc,b2⟩:∃c∈X1.a,e=(kt qb V1.bo c).A:=by rw[<-bq.o]at he;obtain⟨e',ce,rfl⟩:=lQ (iU he);obtain⟨c,hc,rfl⟩:=aD.1 ce;exact⟨c,hc,rfl⟩
 have ag:e.key=I (c.gU:Int):=by rw[b2];rfl
 have aq:e.val= O (qb c.gU):=by rw[b2];rfl
 rw[ag,aq]at cd|-;have b3:=HC.only hO (gI:=y) (λb _ e=>by rw[e,bs.o];have:=a1.o;omega) hU;let⟨K2,O2⟩:=b3.tH (X1.Gj hc (i.map λx=>Go.RowKit.intOf x.key));rw[<-Cx.LX X1 M.r.a hc]at K2;have ai:(if(i.map λx=>Go.RowKit.intOf x.key).contains (c.gU:Int)then c.tH else c).gU=c.gU:=by split<;>rfl
 rw[ai]at K2 O2;obtain⟨cv,k⟩:=b3.r.d _ (X1.Gj hc (i.map λx=>Go.RowKit.intOf x.key));rw[ai]at k;have cp:=k.cellAt 27 rfl;have cq:=k.M 27;have lq:=k.lt;have tq:=k.tq;have al:Hid (qb c.gU≠r/\qb c.gU≠bm):=⟨λe=>by rw[e,bs.o]at tq;have:=a1.o;omega,λe=>by rw[e,c9.o]at tq;omega⟩;let⟨a6,cf,bE,cg⟩:=jR K2 O2 bD hO;have bR:Hid (gL (λb=>b=qb c.gU) W (W.setCell (U (qb c.gU) 27) (.bool true))):=(gL.refl (λb=>b=qb c.gU) W).setCell (U (qb c.gU) 27) (.inl rfl) _;have ch:Hid (Go.RowKit.intOf e.key=(c.gU:Int)):=by unfold Hid;rw[ag];rfl
 clear K2 O2 bD hO b3 k tq ag aq b2 he ai;generalize ci:qb c.gU=q at*;clear ci;go_wp2;go_roundw
 case rel=>
  refine⟨e::i,?_,?_,bE.only bR (λe=>al.1 e.symm) λe=>al.2 e.symm⟩
  .unfold Hid;rw[bj,ch.o];exact a6
  unfold Hid;have h1:gL (λb=>Mc t (gH b)) W1 W:=HO.andThen cg λb hb e=>gS HR.o;exact h1.andThen cf λb hb e=>by rw[<-a4.o b hb];exact e
 case measure=>
  have bT:=bE.only bR (λe=>al.1 e.symm) λe=>al.2 e.symm;have e1:(W.setCell (U q 27) (.bool true)).iterSeen r=((e::i).map (·.born)).reverse.toArray:=by unfold World.iterSeen;rw[bT.it]
  have e2:wr.iterSeen r=(i.map (·.born)).reverse.toArray:=by unfold World.iterSeen;rw[HJ.it]
  have:=bT.len;rw[e1,e2];simp at this|-;omega
structure sw(base:Nat)(w:World)(v:Value)(ps:List (Int×List Int))(xs:List Value):Prop where
 ie:w.ownsRow base 179 2 v ps.length xs
 jU:∀i z,ps[i]?=some z->xs[2*i]?=some (I z.1)/\∃u,xs[2*i+1]?=some u/\w.ownsRow base 5 1 u z.2.length (z.2.map B8)
 ap:∀i j u v b,i<j->xs[2*i+1]?=some u->xs[2*j+1]?=some v->u.ownBlock=some b->v.ownBlock≠some b
def sw.nil(base)(w):sw base w OO [] []:=⟨mT,λi z h=>mi h,λi j u v b _ h=>mi h⟩
def sw.only{base:Nat}(h:sw base w v ps xs)(A:gL T w w')(F:∀b,base<=b->b<w.heap.size->¬T b):sw base w' v ps xs:=
 ⟨A.iX h.ie λb j=>F b (h.ie.lt b j).1 (h.ie.lt b j).2,λi z H=>by
  obtain⟨L,u,M,y⟩:=h.jU i z H
  exact⟨L,u,M,A.iX y λb j=>F b (y.lt b j).1 (y.lt b j).2⟩,h.ap⟩
def sw.bl{base:Nat}(h:sw base w v ps xs)(i:Bl w w'):sw base w' v ps xs:=h.only (gL.B i) λ_ _ _ e=>e
def sw.push{base:Nat}{w2:World}{tt:Int}{cap:Nat}(h:sw base w v ps xs)(hb:Bl w w1)(hu:w1.ownsRow w.heap.size 5 1 u ds.length (ds.map B8))(F:base<=w.heap.size)(Y:w2.ownsRow base 179 2 (gN (G g) (ps.length+1) cap) (ps.length+1) (xs++[I tt,u]))(M:(w1.alloc (im #[I tt,u] 179)).grownBy w2 v.ownBlock):sw base w2 (gN (G g) (ps.length+1) cap) (ps++[(tt,ds)]) (xs++[I tt,u]):=by
 have y:xs.length=2*ps.length:=by have:=h.ie.1;omega
 have h1:=h.bl hb;have O2:gL (λb=>v.ownBlock=some b) w1 w2:=(gL.B ((Bl.refl w1).alloc _)).H ((gL.A M).L λk _ e=>e.symm);have oL:∀{m:Nat} {z:Value} {ys:List Value},w1.ownsRow base 5 1 z m ys->w2.ownsRow base 5 1 z m ys:=λA=>O2.iX A λb P e=>kH A h1.ie gF b P e;refine⟨by rw[aO];exact Y,λi z A=>?_,λi j a c b a1 Z W a0=>?_⟩
 .by_cases ja:i<ps.length
  .rw[aB ja]at A;obtain⟨k1,u',k2,k3⟩:=h1.jU i z A;exact⟨by rw[aB C];exact k1,u',by rw[aB C];exact k2,oL k3⟩
  have hi:i=ps.length:=by have:=(aj.1 A).1;simp at this;omega
  subst hi;rw[aC jl]at A;simp at A;subst A;refine⟨by rw[aC C,y];simp,u,by rw[aC C,y];simp,oL (gZ hu λb P=>aF F (hu.lt b P).1)⟩
 have a2:2*j+1<(xs++[I tt,u]).length:=(aj.1 W).1;simp[y]at a2;have a3:i<ps.length:=C;rw[aB C]at Z;by_cases ja:j<ps.length
 .rw[aB C]at W;exact h.ap i j a c b a1 Z W a0
 have hj:j=ps.length:=C;subst hj;rw[aC C,y]at W;simp at W;subst W;obtain⟨_,u',k2,k3⟩:=h.jU i ps[i] (ah a3);rw[k2]at Z;simp only[aJ]at Z;subst Z;intro e;have h1:=(k3.lt b a0).2;have h2:=(hu.lt b e).1;omega
def sw.app{base B:Nat}{v':Value}{ys:List Value}(h:sw base w v ps xs)(ja:∀i u b,xs[2*i+1]?=some u->u.ownBlock=some b->b<B)(k:sw B w u qs ys)(hB:base<=B)(P:w'.ownsRow base 179 2 v' (ps.length+qs.length) (xs++ys))(ho:gL (λb=>v.ownBlock=some b) w w'):sw base w' v' (ps++qs) (xs++ys):=by
 have y:xs.length=2*ps.length:=by have:=h.ie.1;omega
 have oL:∀{c m:Nat} {z:Value} {ls:List Value},w.ownsRow c 5 1 z m ls->w'.ownsRow c 5 1 z m ls:=λA=>ho.iX A λb Z e=>kH A h.ie gF b Z e;refine⟨by rw[aO];exact P,λi z A=>?_,λi j a c b a0 W F H=>?_⟩
 .by_cases hl:i<ps.length
  .rw[aB hl]at A;obtain⟨k1,Y,L,M⟩:=h.jU i z A;exact⟨by rw[aB C];exact k1,Y,by rw[aB C];exact L,oL M⟩
  rw[aC C]at A;obtain⟨k1,Y,L,M⟩:=k.jU _ z A;refine⟨?_,Y,?_,oL (gZ M λb hb=>aF hB (M.lt b hb).1)⟩
  .rw[aC C,y,<-Nat.mul_sub];exact k1
  rw[aC C,y,show 2*i+1-2*ps.length=2*(i-ps.length)+1 by omega];exact L
 by_cases hi:i<ps.length
 .rw[aB C]at W;by_cases hj:j<ps.length
  .rw[aB C]at F;exact h.ap i j a c b a0 W F H
  rw[aC C,y,show 2*j+1-2*ps.length=2*(j-ps.length)+1 by omega]at F;intro e;have h1:=ja i a b W H;have a1:=(aj.1 F).1;have a2:ys.length=2*qs.length:=by have:=k.ie.1;omega
  obtain⟨_,Y,L,M⟩:=k.jU (j-ps.length) qs[j-ps.length] (ah C);rw[F]at L;simp only[aJ]at L;subst L;have:=(M.lt b e).1;omega
 rw[aC C,y,show 2*i+1-2*ps.length=2*(i-ps.length)+1 by omega]at W;rw[aC C,y,show 2*j+1-2*ps.length=2*(j-ps.length)+1 by omega]at F;exact k.ap _ _ a c b C W F H
def sw.low{base:Nat}(h:sw base w v ps xs):∀i u b,xs[2*i+1]?=some u->u.ownBlock=some b->b<w.heap.size:=λi u b y A=>by
 have F:xs.length=2*ps.length:=by have:=h.ie.1;omega
 have:=(aj.1 y).1;obtain⟨_,L,j,H⟩:=h.jU i ps[i] (ah C);rw[y]at j;simp only[aJ]at j;subst j;exact(H.lt b A).2
def sw.one{base:Nat}(h:sw base w v ps xs):∀u∈xs,u.oneCell'=true:=λu L=>by
 have M:xs.length=2*ps.length:=by have:=h.ie.1;omega
 obtain⟨i,H,rfl⟩:=aV.1 L;have y:i/2<ps.length:=C;obtain⟨A,W,F,P⟩:=h.jU (i/2) ps[i/2] (ah y);by_cases Y:i%2=0
 .have j:2*(i/2)=i:=C;rw[j,ah H]at A;simp only[aJ]at A;rw[A];rfl
 have j:2*(i/2)+1=i:=C;rw[j,ah H]at F;simp only[aJ]at F;rw[F];exact Di P
def nI{P:Program}(w){A:Array Oper}{rest:List Oper}{o:Oper}{a:Act}(hg:o.guard=none)(s y)(t)(F:o.op=Op.call {callee:=Callee.builtin Builtin.append,args:=#[s,y],argTypes:=#[t,t]})(base)(e)(i)(z)(size bytes)(h1:P.underlying t=some (.slice e))(h2:P.info? e=some i)(h3:i.zero=some z)(h4:i.size=size)(h5:i.bytes=bytes)(h6:z.cells.size=size)(h7:0<size)(v)(n)(xs)(hs:a.eval s=v)(h:w.ownsRow base e size v n xs)(u)(m b0)(news)(hu:a.eval y=u)(H:w.ownsRow b0 e size u m news)(Z:∀q∈news,q.oneCell'=true)(b1:n+m<=maxLen)(b2:(n+m)*bytes<=140737488355328)(hb:base<=w.heap.size)(hK:∀M w',w'.ownsRow base e size M (n+m) (xs++news)->gL (λb=>v.ownBlock=some b) w w'->(∀b,M.ownBlock=some b->v.ownBlock=some b\/w.heap.size<=b)->wpList P A Q rest (a.put o.dst M) w'):wpList P A Q (o::rest) a w:=by
 obtain⟨a0,a1⟩|⟨g,cap,a2,W,_⟩:=H.2
 .have hl:=H.1;subst a1;obtain rfl:news=[]:=aW.1 C;refine wpList_append_own_none hg s y t F base e i size h1 h2 v n xs hs h (hu.H a0) ?_;exact hK v w (iU h) ug λb hb=>.inl hb
 refine wpList_append_own_at w hg s y t F base e i z size bytes h1 h2 h3 h4 h5 h6 h7 v n xs hs h (U g 0) m cap news (hu.H W) H.1 (λj x hj=>?_) Z b1 b2 hb ?_
 .rw[mK,bP];subst W;rw[H.cellAt j (by have:=(aj.1 hj).1;have:=H.1;omega)];exact hj
 intro M w' r1 r2 _ r4;refine hK M w' r1 ((gL.A r2).L λk _ e=>e.symm) λb Y=>?_;obtain r4|r4:=r4
 .exact .inl (jJ r4 Y)
 rw[Y]at r4;simp at r4;exact .inr C
def Vz(r:Rq):List Int:=iV r.kd [r.ln,r.nr,r.ep,r.pl,r.ct.kd,r.ct.cl,r.ct.ca] r.ct.val
def Qn.Jd{α:Type}(q:Qn α)(k:Nat):List (Int×List Int):=((q.nodes.take k).filter λnd=> !q.R nd).map λnd=>(nd,Vz q.A)
def Qn.M{α:Type}(q:Qn α):List (Int×List Int):=q.jL.map λz=>(z.1,Vz z.2)
def Qn.TU{α:Type}(q:Qn α)(k):(q.Jd k).length<=k:=by unfold Qn.Jd;rw[ay];refine aF (bF _ _) ?_;rw[bH];omega
def Qn.R9{α:Type}(q:Qn α)(k)(h:k<q.nodes.length)(i:q.R q.nodes[k]=true):q.Jd (k+1)=q.Jd k:=by unfold Qn.Jd;rw[aM h,cz];simp[i]
def Qn.U3{α:Type}(q:Qn α)(k)(h:k<q.nodes.length)(i:q.R q.nodes[k]=false):q.Jd (k+1)=q.Jd k++[(q.nodes[k],Vz q.A)]:=by unfold Qn.Jd;rw[aM h,cz];simp[i]
def Qn.KI{α:Type}(q:Qn α)(h:q.qU=true):q.Jd q.nodes.length=q.M:=by unfold Qn.Jd Qn.M Qn.jL;rw[bZ,aE h,br];rfl
structure QC{α:Type}[nY α](w:World)(gH:Nat->Nat)(ga t g o:Nat)(q:Qn α)(V:QV):Prop where
 r:QR w gH ga t q V
 c0:w.cell? (U g o)=some (I q.A.kd)
 c1:w.cell? (U g (o+1))=some (I q.A.ln)
 c2:w.cell? (U g (o+2))=some (I q.A.nr)
 c3:w.cell? (U g (o+3))=some (I q.A.ep)
 c4:w.cell? (U g (o+4))=some (I q.A.pl)
 c5:w.cell? (U g (o+5))=some (I q.A.ct.kd)
 c6:w.cell? (U g (o+6))=some (I q.A.ct.cl)
 c7:w.cell? (U g (o+7))=some (I q.A.ct.ca)
 c8:w.cell? (U g (o+8))=some V.vv
 c9:w.cell? (U g (o+9))=some V.nv
 BD:w.cell? (U g (o+11))=some V.av
 lg:g<w.heap.size
def QC.bl{α:Type}[nY α]{o:Nat}{q:Qn α}{V:QV}(h:QC w gH ga t g o q V)(i:Bl w w'):QC w' gH ga t g o q V:=
 ⟨h.r.only (iT i) (λ_ _ e=>e.elim) (λ_ _ e=>e.elim) hU,(i.cell h.lg).H h.c0,(i.cell h.lg).H h.c1,(i.cell h.lg).H h.c2,(i.cell h.lg).H h.c3,(i.cell h.lg).H h.c4,(i.cell h.lg).H h.c5,(i.cell h.lg).H h.c6,(i.cell h.lg).H h.c7,(i.cell h.lg).H h.c8,(i.cell h.lg).H h.c9,(i.cell h.lg).H h.BD,af h.lg i.lt⟩
def VG{V:QV}(P:QR w gH ga t q V)(x):∃(W Y Z x3 x4 x5:Int) (va:Option Addr) (vn vc:Nat),(Instr.lookup 101 V.av (I x) true).run prog w=.ok (.tuple #[.agg #[I W,I Y,I Z,I x3,I x4,I x5,gN va vn vc],.bool (q.R x)]) w:=by
 obtain⟨A,e⟩|⟨gm,clk,l,A,_,h⟩:=P.B
 .have:q.R x=false:=by unfold Qn.R;rw[e];rfl
  rw[this];exact⟨0,0,0,0,0,0,none,0,0,by rw[A];exact yt w x⟩
 rw[A];have a0:=h.len;by_cases F:∃e∈l,e.k=x
 .let⟨j,e,M,e2,e3⟩:=yz w gm clk l h.mp x F;have hj:=(aj.1 M).1;have H:j<q.B.length:=C;obtain⟨f1,s,f2,f3⟩:=h.jU j e q.B[j] M (ah H);obtain⟨a,cc,rfl⟩:=f3.B;have:q.R x=true:=by unfold Qn.R;rw[cK];exact⟨q.B[j],aL _,by simpa using f1.symm.H e2⟩
  rw[this];exact⟨_,_,_,_,_,_,_,_,_,jS e3 f2⟩
 have:q.R x=false:=by unfold Qn.R;rw[dm];intro z L e;obtain⟨i,hi,rfl⟩:=aV.1 L;have y:i<l.length:=C;exact F ⟨l[i],aL y,by rw[(h.jU i l[i] _ (ah y) (ah hi)).1];simpa using e⟩
 rw[this];exact⟨0,0,0,0,0,0,none,0,0,zv w gm clk l h.mp x λe he e'=>F ⟨e,he,e'⟩⟩
theorem I5(w)(g o)(i:w.cell? (U g (o+10))=some (.bool false)):iB 209 #[.pointer (some (U g o))] w λh w'=>h=gX OO/\w'=w:=by
 go_enter func209,ntmps209;go_wp2;go_ret;exact⟨rfl,rfl⟩
def UC{q:Qn Vo}{V:QV}(P:QR w gH ga t q V)(x):∃(W Y Z:Int) (va:Option Addr) (vn vc:Nat),(Instr.lookup 104 V.av (I x) true).run prog w=.ok (.tuple #[.agg #[I W,I Y,I Z,gN va vn vc],.bool (q.R x)]) w:=by
 obtain⟨A,e⟩|⟨gm,clk,l,A,_,h⟩:=P.B
 .have:q.R x=false:=by unfold Qn.R;rw[e];rfl
  rw[this];exact⟨0,0,0,none,0,0,by rw[A];exact yg w x⟩
 rw[A];have a0:=h.len;by_cases F:∃e∈l,e.k=x
 .let⟨j,e,M,e2,e3⟩:=xT w gm clk l h.mp x F;have hj:=(aj.1 M).1;have H:j<q.B.length:=C;obtain⟨f1,s,f2,f3⟩:=h.jU j e q.B[j] M (ah H);obtain⟨a,cc,rfl⟩:=f3.B;have:q.R x=true:=by unfold Qn.R;rw[cK];exact⟨q.B[j],aL _,by simpa using f1.symm.H e2⟩
  rw[this];exact⟨_,_,_,_,_,_,jS e3 f2⟩
 have:q.R x=false:=by unfold Qn.R;rw[dm];intro z L e;obtain⟨i,hi,rfl⟩:=aV.1 L;have y:i<l.length:=C;exact F ⟨l[i],aL y,by rw[(h.jU i l[i] _ (ah y) (ah hi)).1];simpa using e⟩
 rw[this];exact⟨0,0,0,none,0,0,zH w gm clk l h.mp x λe he e'=>F ⟨e,he,e'⟩⟩
def Wj(α:Type)[nY α](F:Nat):Prop:=∀(w W1:World) (gH:Nat->Nat) (ga t g o:Nat) (q:Qn α) (V:QV),w.cell? (U g (o+10))=some (.bool true)->w.frozen? (U g (o+10))=false->w.setCell (U g (o+10)) (.bool false)=W1->QC W1 gH ga t g o q V->0<=q.A.kd->q.A.kd<=255->q.A.ct.val.length<=255->q.nodes.length<=100->
 Calls prog F #[.pointer (some (U g o))] w λen w'=>∃v xs,en=gX v/\sw W1.heap.size w' v (q.Jd q.nodes.length) xs/\Bl W1 w'
theorem E5:Wj An 209/\Wj Vo 210:=by
 constructor;all_goals
  intro w W1 gH ga t g o q V bg bi aa h k0 k1 ab bl;obtain⟨ac,ad,t0,t1,t2⟩:=fx il.CR;obtain⟨na,nc,W⟩:=h.r.nodes.B;obtain⟨va,vc,a2⟩:=h.r.val.B;rw[ay]at W a2;obtain⟨bm,ag⟩:∃z,V.av=.map z:=by obtain⟨e,_⟩|⟨gm,clk,l,e,_⟩:=h.r.B<;>exact⟨_,e⟩
  have HN:Hid (∀k (hk:k<q.nodes.length),∃bn on,na=some (U bn on)/\bn<W1.heap.size/\W1.cell? (U bn (on+k))=some (I q.nodes[k])):=λk hk=>by obtain⟨bn,on,cn,e1,e2,_,_,e3⟩:=h.r.nodes.cell ig;rw[W]at e1;simp only[bO]at e1;exact⟨bn,on,e1.1,e2,e3 k (I q.nodes[k]) (nN hk)⟩
  have c9:=h.c9;rw[W]at c9;have lg:=h.lg;let⟨ai,HQ,ak⟩:=iz aa h ag;let⟨al,Hf⟩:=gO a2 (And.intro k0 (And.intro k1 ab));clear h aa ag a2 W k0 k1 ab;first|go_enter func209,ntmps209|go_enter func210,ntmps210
  go_upto_region 4 with fail;rw[ai.o];clear ai;go_wp2;go_loopw[3,21](λd i wr=>∃k:Nat,k<=q.nodes.length/\i=I k/\(∃xs,Hid (sw W1.heap.size wr d (q.Jd k) xs))/\Hid (Bl W1 wr)) λ_ i _=>q.nodes.length-(Go.RowKit.intOf i).toNat
  case atStart=>exact⟨0,ju,rfl,⟨[],by unfold Hid;rw[show q.Jd 0=[]from by simp[Qn.Jd]];exact sw.nil _ _⟩,jC⟩
  obtain⟨k,hk,rfl,⟨xs,HP⟩,HB⟩:=hrel;by_cases ja:k<q.nodes.length
  .have bb:(k:Int)<(q.nodes.length:Int):=C;let⟨bn,on,au,am,av⟩:=HN k ja;subst au;have d0:=(HB.cell am).H av;have aw:=HQ.bl HB;let⟨er,e0,e1,e2,e3,e4,e5,e6,e7,e8,e9,aY,a3⟩:=aw;rw[al.o]at e8;rw[ak.o]at aY;first|let⟨u0,u1,u2,u3,u4,u5,a4,a5,a6,Y⟩:=VG er q.nodes[k]|let⟨u0,u1,u2,a4,a5,a6,Y⟩:=UC er q.nodes[k]
   rw[ak.o]at Y;have ev:=er.val;rw[al.o]at ev;have bo:=af am HB.lt;have bp:=q.TU k;let⟨L,a7⟩:=gO (q.R9 k ja) (q.U3 k ja);generalize q.nodes[k]=nk at*;first|have M:=(Bl.refl wr).alloc (im #[I u0,I u1,I u2,I u3,I u4,I u5,gN a4 a5 a6] 215)|have M:=(Bl.refl wr).alloc (im #[I u0,I u1,I u2,gN a4 a5 a6] 222)
   let⟨x0,x1,x2,x3⟩:=M.M a3 e0 e1 e2 e3;let⟨x4,x5,x6⟩:=M.D a3 e4 e5 e6;let⟨x7,x8⟩:=M.B a3 e7 e8
   cases j:q.R nk with
   |true=>
    rw[j]at Y;let⟨hp,b0,b1⟩:=iz (L j) (HB.H M) (HP.bl M);clear j L a7 M ev er e0 e1 e2 e3 e4 e5 e6 e7 e8 e9 x0 x1 x2 x3 x4 x5 x6 x7 x8;go_wp2;go_roundw
    case rel=>exact⟨k+1,C,iD,⟨xs,by unfold Hid;rw[hp.o];exact b1⟩,b0⟩
    exact iC
   |false=>
    rw[j]at Y;have b2:=gP (a7 j);let⟨pl,P⟩:=gJ ((q.Jd k).length);obtain⟨HR,HA⟩:=gO (xI q.A.kd q.A.ln q.A.nr q.A.ep q.A.pl q.A.ct.kd q.A.ct.cl q.A.ct.ca va vc q.A.ct.val _ Hf.1 Hf.2.1 (ev.bs.bl M) (λb hb=>af (ev.xU b hb).1 M.lt) Hf.2.2) M;have b3:Hid (pl+1<=maxLen):=mV;have b4:Hid ((pl+1)*32<=140737488355328):=lT;have y:=HP.ie;rw[P]at y;let⟨b5,a0⟩:=gO y P;clear j L a7 M ev er e1 e2 e3 e4 e5 e6 e7 e8 e9 y P;go_wp2_with fail;refine HR.L ?_;rintro bq w1⟨ba,bc,rfl,an,a8⟩;have Z:=gP (HA.H an);have ap:=gP (gZ (base':=wr.heap.size) a8 λb hb=>aF oC (by have:=(a8.lt b hb).1;simpa using this));have aq:=gP ((iT Z).iX b5 λ_ _ e=>e);have bs:=aF HB.lt Z.lt;have hd:Hid (iV q.A.kd [q.A.ln,q.A.nr,q.A.ep,q.A.pl,q.A.ct.kd,q.A.ct.cl,q.A.ct.ca] q.A.ct.val=Vz q.A):=rfl;rw[hd.o]at ap|-;clear an a8 HR;generalize Vz q.A=ar at*;go_wp2_with(at_builtin;refine fm _ rfl _ _ 176 rfl W1.heap.size 179 ac _ 2 32 underlying176 ad t0 t1 t2 rfl gF _ pl _ rfl (aq.alloc _) (U w1.heap.size 0) 1 1 [I nk,gN ba ar.length bc] rfl rfl (fW (cs:=#[I nk,gN ba ar.length bc]) (t:=179) (fr:=(0,0)) (ao w1 _)) rS gF b3 b4 ig (w1.heap.size+1) gG ?_);intro g' bd w3 a1 F b6 be;have a9:=HP.push (tt:=nk) Z ap HB.lt (jk a0.o a1) F;rw[<-b2.o,a0.o]at a9;have b7:=gP a9;have b8:Hid (Bl W1 w3):=((HB.H Z).alloc _).A (gL.A F) λb e=>(aq.lt b e.symm).1;clear a1 F b6 a9;go_wp2;go_roundw
    case rel=>exact⟨k+1,C,iD,⟨_,b7⟩,b8⟩
    exact iC
  have b9:k=q.nodes.length:=C;subst b9;go_wp2;go_ret;exact⟨_,xs,rfl,HP,HB⟩
theorem JC(w)(g o)(i:w.cell? (U g (o+10))=some (.bool false)):iB 210 #[.pointer (some (U g o))] w λh w'=>h=gX OO/\w'=w:=by
 go_enter func210,ntmps210;go_wp2;go_ret;exact⟨rfl,rfl⟩
structure yD{α:Type}(q:Qn α):Prop where
 k0:0<=q.A.kd
 k1:q.A.kd<=255
 v:q.A.ct.val.length<=255
 n:q.nodes.length<=100
def Qn.JL{α:Type}{q:Qn α}(h:q.qU=false):q.M=[]:=by unfold Qn.M Qn.jL;rw[h];rfl
def Qn.yT{α:Type}{q:Qn α}(h:q.qU=false):q.mF=q:=by unfold Qn.mF;cases q;simp at h;simp[h]
def Qn.tE{α:Type}(q:Qn α):q.M.length<=q.nodes.length:=by
 unfold Qn.M Qn.jL;split
 .rw[ay,ay];exact bF _ _
 simp
section
variable{W1:World}
theorem vA{o:Nat}{Q:QV}(j:w.cell? (U g (o+10))=some (.bool q.qU))(F:w.frozen? (U g (o+10))=false)(y:w.setCell (U g (o+10)) (.bool false)=W1)(h:QC W1 gH ga t g o q Q)(A:yD q):iB 209 #[.pointer (some (U g o))] w λH w'=>∃v xs,H=gX v/\sw w.heap.size w' v q.M xs/\((q.qU=false/\w'=w)\/(q.qU=true/\Bl W1 w')):=by
 cases i:q.qU with
 |false=>rw[i]at j;refine(I5 w g o j).L ?_;rintro H w'⟨rfl,rfl⟩;exact⟨_,[],rfl,by rw[Qn.JL i];exact sw.nil _ _,.inl ⟨rfl,rfl⟩⟩
 |true=>
  rw[i]at j;have M:W1.heap.size=w.heap.size:=by rw[<-y];simp[World.setCell]
  refine(E5.1 _ _ _ _ _ _ _ _ _ j F y h A.k0 A.k1 A.v A.n).L ?_;rintro H w'⟨v,xs,rfl,P,W⟩;rw[M,Qn.KI q i]at P;exact⟨v,xs,rfl,P,.inr ⟨rfl,W⟩⟩
theorem GW{o:Nat}{q:Qn Vo}{Q:QV}(j:w.cell? (U g (o+10))=some (.bool q.qU))(F:w.frozen? (U g (o+10))=false)(y:w.setCell (U g (o+10)) (.bool false)=W1)(h:QC W1 gH ga t g o q Q)(A:yD q):iB 210 #[.pointer (some (U g o))] w λH w'=>∃v xs,H=gX v/\sw w.heap.size w' v q.M xs/\((q.qU=false/\w'=w)\/(q.qU=true/\Bl W1 w')):=by
 cases i:q.qU with
 |false=>rw[i]at j;refine(JC w g o j).L ?_;rintro H w'⟨rfl,rfl⟩;exact⟨_,[],rfl,by rw[Qn.JL i];exact sw.nil _ _,.inl ⟨rfl,rfl⟩⟩
 |true=>
  rw[i]at j;have M:W1.heap.size=w.heap.size:=by rw[<-y];simp[World.setCell]
  refine(E5.2 _ _ _ _ _ _ _ _ _ j F y h A.k0 A.k1 A.v A.n).L ?_;rintro H w'⟨v,xs,rfl,P,W⟩;rw[M,Qn.KI q i]at P;exact⟨v,xs,rfl,P,.inr ⟨rfl,W⟩⟩
def jz.rY(c:jz):jz:={c with q:=c.q.mF}
def NT(h:jf w gH t p qb X V)(j:c∈X.a)(M:yD c.q):iB 209 #[.pointer (some (U (qb c.gU) 17))] w λy w'=>∃v xs,y=gX v/\sw w.heap.size w' v c.q.M xs/\jf w' gH t p qb (X.put c.rY) V/\gL (λb=>Mc t (gH b)) w w':=by
 obtain⟨cv,k⟩:=h.r.d c j;have A:gL (λb=>b=qb c.gU) w (w.setCell (U (qb c.gU) 27) (.bool false)):=(gL.refl (λb=>b=qb c.gU) w).setCell (U (qb c.gU) 27) (.inl rfl) _;have i:kN (w.setCell (U (qb c.gU) 27) (.bool false)) gH t (qb c.gU) c.rY cv:=k.A (c':=c.rY) (cv':=cv) A (jx 27 _ w _ k.hq) rfl k.ie k.jb k.e ⟨k.q.val,k.q.nodes,k.q.B,k.q.nil⟩;let⟨P,W⟩:=h.TH j k A i rfl rfl;have Y:QC (w.setCell (U (qb c.gU) 27) (.bool false)) gH (t+9+2*c.a) (t+3) (qb c.gU) 17 c.q cv.q:=⟨⟨i.q.val,i.q.nodes,i.q.B,i.q.nil⟩,i.cellAt 17 rfl,i.cellAt 18 rfl,i.cellAt 19 rfl,i.cellAt 20 rfl,i.cellAt 21 rfl,i.cellAt 22 rfl,i.cellAt 23 rfl,i.cellAt 24 rfl,i.cellAt 25 rfl,i.cellAt 26 rfl,i.cellAt 28 rfl,i.lt⟩;refine(vA (k.cellAt 27 rfl) (k.M 27) rfl Y M).L ?_;rintro y w'⟨v,xs,rfl,F,⟨Z,rfl⟩|⟨_,H⟩⟩
 .refine⟨v,xs,rfl,F,?_,ug⟩;have:c.rY=c:=by unfold jz.rY;rw[Qn.yT Z]
  rw[this,Cx.wF X h.r.a.gU j];exact h
 exact⟨v,xs,rfl,F,P.bl H hU,W.H (gL.B H)⟩
def N7(h:jf w gH t p qb X V)(M:yD X.d):iB 209 #[.pointer (some (U p 10))] w λj w'=>∃v xs,j=gX v/\sw w.heap.size w' v X.d.M xs/\jf w' gH t p qb {X with d:=X.d.mF} V/\gL (λb=>Mc t (gH b)) w w':=by
 have y:gL (λb=>b=p) w (w.setCell (U p 20) (.bool false)):=(gL.refl (λb=>b=p) w).setCell (U p 20) (.inl rfl) _;have i:jf (w.setCell (U p 20) (.bool false)) gH t p qb {X with d:=X.d.mF} V:=h.uR y (jx 20 _ w _ h.hp) ⟨h.r.lay,h.r.c,h.r.tb,h.r.mp,h.r.bo,h.r.bn,⟨h.r.pr.val,h.r.pr.nodes,h.r.pr.B,h.r.pr.nil⟩,h.r.sl,h.r.vt,h.r.bg,h.r.b,h.r.d,h.r.a.gU,h.r.a.lt,h.r.a.a,h.r.a.b⟩;have P:QC (w.setCell (U p 20) (.bool false)) gH (t+4) (t+3) p 10 X.d V.pr:=⟨⟨i.r.pr.val,i.r.pr.nodes,i.r.pr.B,i.r.pr.nil⟩,i.cellAt 10 rfl,i.cellAt 11 rfl,i.cellAt 12 rfl,i.cellAt 13 rfl,i.cellAt 14 rfl,i.cellAt 15 rfl,i.cellAt 16 rfl,i.cellAt 17 rfl,i.cellAt 18 rfl,i.cellAt 19 rfl,i.cellAt 21 rfl,i.A⟩;refine(vA (h.cellAt 20 rfl) (h.M 20) rfl P M).L ?_;rintro j w'⟨v,xs,rfl,A,⟨W,rfl⟩|⟨_,F⟩⟩
 .refine⟨v,xs,rfl,A,?_,ug⟩;rw[Qn.yT W];exact h
 exact⟨v,xs,rfl,A,i.bl F hU,(h.mZ y).H (gL.B F)⟩
def NG(h:jf w gH t p qb X V)(M:yD X.mv.a):iB 209 #[.pointer (some (U p 29))] w λj w'=>∃v xs,j=gX v/\sw w.heap.size w' v X.mv.a.M xs/\jf w' gH t p qb {X with mv:={X.mv with a:=X.mv.a.mF}} V/\gL (λb=>Mc t (gH b)) w w':=by
 have y:gL (λb=>b=p) w (w.setCell (U p 39) (.bool false)):=(gL.refl (λb=>b=p) w).setCell (U p 39) (.inl rfl) _;have i:jf (w.setCell (U p 39) (.bool false)) gH t p qb {X with mv:={X.mv with a:=X.mv.a.mF}} V:=h.uR y (jx 39 _ w _ h.hp) ⟨h.r.lay,h.r.c,h.r.tb,h.r.mp,h.r.bo,h.r.bn,h.r.pr,⟨h.r.sl.val,h.r.sl.nodes,h.r.sl.B,h.r.sl.nil⟩,h.r.vt,h.r.bg,h.r.b,h.r.d,h.r.a.gU,h.r.a.lt,h.r.a.a,h.r.a.b⟩;have P:QC (w.setCell (U p 39) (.bool false)) gH (t+5) (t+3) p 29 X.mv.a V.sl:=⟨⟨i.r.sl.val,i.r.sl.nodes,i.r.sl.B,i.r.sl.nil⟩,i.cellAt 29 rfl,i.cellAt 30 rfl,i.cellAt 31 rfl,i.cellAt 32 rfl,i.cellAt 33 rfl,i.cellAt 34 rfl,i.cellAt 35 rfl,i.cellAt 36 rfl,i.cellAt 37 rfl,i.cellAt 38 rfl,i.cellAt 40 rfl,i.A⟩;refine(vA (h.cellAt 39 rfl) (h.M 39) rfl P M).L ?_;rintro j w'⟨v,xs,rfl,A,⟨W,rfl⟩|⟨_,F⟩⟩
 .refine⟨v,xs,rfl,A,?_,ug⟩;rw[Qn.yT W];exact h
 exact⟨v,xs,rfl,A,i.bl F hU,(h.mZ y).H (gL.B F)⟩
def Pu(h:jf w gH t p qb X V)(P:yD X.mv.A):iB 210 #[.pointer (some (U p 41))] w λj w'=>∃v xs,j=gX v/\sw w.heap.size w' v X.mv.A.M xs/\jf w' gH t p qb {X with mv:={X.mv with A:=X.mv.A.mF}} V/\gL (λb=>Mc t (gH b)) w w':=by
 have y:gL (λb=>b=p) w (w.setCell (U p 51) (.bool false)):=(gL.refl (λb=>b=p) w).setCell (U p 51) (.inl rfl) _;have i:jf (w.setCell (U p 51) (.bool false)) gH t p qb {X with mv:={X.mv with A:=X.mv.A.mF}} V:=h.uR y (jx 51 _ w _ h.hp) ⟨h.r.lay,h.r.c,h.r.tb,h.r.mp,h.r.bo,h.r.bn,h.r.pr,h.r.sl,⟨h.r.vt.val,h.r.vt.nodes,h.r.vt.B,h.r.vt.nil⟩,h.r.bg,h.r.b,h.r.d,h.r.a.gU,h.r.a.lt,h.r.a.a,h.r.a.b⟩;have W:QC (w.setCell (U p 51) (.bool false)) gH (t+6) (t+3) p 41 X.mv.A V.vt:=⟨⟨i.r.vt.val,i.r.vt.nodes,i.r.vt.B,i.r.vt.nil⟩,i.cellAt 41 rfl,i.cellAt 42 rfl,i.cellAt 43 rfl,i.cellAt 44 rfl,i.cellAt 45 rfl,i.cellAt 46 rfl,i.cellAt 47 rfl,i.cellAt 48 rfl,i.cellAt 49 rfl,i.cellAt 50 rfl,i.cellAt 52 rfl,i.A⟩;refine(GW (h.cellAt 51 rfl) (h.M 51) rfl W P).L ?_;rintro j w'⟨v,xs,rfl,F,⟨Y,rfl⟩|⟨_,M⟩⟩
 .refine⟨v,xs,rfl,F,?_,ug⟩;rw[Qn.yT Y];exact h
 exact⟨v,xs,rfl,F,i.bl M hU,(h.mZ y).H (gL.B M)⟩
def Cx.uX(X:Cx)(s:List Nat):Cx:={X with a:=X.a.map λc=>if s.contains c.gU then c.rY else c}
def Cx.Ni(X:Cx):X.uX []=X:=by unfold Cx.uX;simp
def Cx.Mg(X:Cx)(s)(h:∀c∈X.a,c.gU∈s):X.uX s={X with a:=X.a.map jz.rY}:=by unfold Cx.uX;congr 1;exact bf λc i=>by rw[aE (by simpa using h c i)]
def Cx.Mf(X)(h:tP X)(i:c∈X.a)(s):X.uX (s++[c.gU])=(X.uX s).put c.rY:=by
 unfold Cx.uX Cx.put;simp only[br];congr 1;refine bf λd j=>?_;simp only[Function.comp_apply];by_cases e:d.gU=c.gU
 .have:=rI h.gU j i e;subst this;rw[aE gG,aE (by split<;>simp[jz.rY])]
 have y:¬(if s.contains d.gU then d.rY else d).gU=c.rY.gU:=by split<;>simpa [jz.rY]using e
 rw[az y];have:(s++[c.gU]).contains d.gU=s.contains d.gU:=by rw[dr];simp[e]
 rw[this]
def Cx.BF(X:Cx)(i:c∈X.a)(s)(h:c.gU∉s):c∈(X.uX s).a:=aD.2 ⟨c,i,by rw[az (iU h)]⟩
end
end Go.Proofs.YtbghhbpacijmmaaGreat
