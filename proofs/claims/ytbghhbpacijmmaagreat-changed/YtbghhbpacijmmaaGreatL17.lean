import Derived.BigQuiet
import Derived.Deep.RegionWith
import Derived.Deep.DeepCutAuto
import Derived.Test.YtbghhbpacijmmaaGreatL16
open Go.Proofs.Tryz
namespace Go.Proofs.YtbghhbpacijmmaaGreat
set_option maxRecDepth 99999
set_option maxHeartbeats 0
set_option linter.defProp false
set_option linter.unusedVariables false
open Go.RowKit Go.Maps
attribute [local go_sem ↓] Go.wp_at_zero Go.wp_at_succ
variable {w:World} {gH gI:Nat->Nat} {g k j a gi:Nat} {cs:List Value} {W:Wd} {V:WV} {c:Kl} {v:Value} {S:Cf} {ca pa:Option Addr} {vv:List Int} {gK:List Kl}
abbrev vp(i0 i:Int)(kd po:Int)(vs:ByteArray)(ta:Option Addr)(tn tc:Nat)(be fi wh ad:Int)(ra:Option Addr)(rn rc:Nat):Value:= .agg #[I i0,I i,I kd,I po,.string vs,.slice ta tn tc,I be,I fi,I wh,I ad,.slice ra rn rc]
def mL(fi kd po wh:Int):Int:=if fi=0 then 0 else if kd=4 then po else if kd≠1/\kd≠5/\wh=4 then po+1 else 0
def RE(kd:Int):Prop:=kd=1\/kd=2\/kd=3\/kd=4\/kd=5
theorem Cc(i0 i kd po be fi wh ad)(vs)(ta)(tn tc)(ra)(rn rc)(F:RE kd)(L:0<=po/\po<=1000)(w):iB 62 #[vp i0 i kd po vs ta tn tc be fi wh ad ra rn rc] w λH w'=>H=gX (I (mL fi kd po wh))/\Bl w w':=by
 have h:=(Bl.refl w).alloc (im #[I i0,I i,I kd,I po,.string vs,gN ta tn tc,I be,I fi,I wh,I ad,gN ra rn rc] 60);by_cases y:fi=0
 .subst y;have e:mL 0 kd po wh=0:=by unfold mL;rw[aE rfl]
  rw[e];go_enter func62,ntmps62;go_wp2;go_ret;exact⟨rfl,h⟩
 obtain rfl|rfl|rfl|rfl|rfl:=F
 .have e:mL fi 1 po wh=0:=by unfold mL;rw[az y];simp
  rw[e];go_enter func62,ntmps62;go_wp2;go_ret;exact⟨rfl,h⟩
 .by_cases A:wh=4
  .have e:mL fi 2 po wh=po+1:=by unfold mL;rw[az y];simp[A]
   rw[e];subst A;go_enter func62,ntmps62;go_wp2;go_ret;exact⟨rfl,h⟩
  have e:mL fi 2 po wh=0:=by unfold mL;rw[az y];simp[A]
  rw[e];go_enter func62,ntmps62;go_wp2;go_ret;exact⟨rfl,h⟩
 .by_cases A:wh=4
  .have e:mL fi 3 po wh=po+1:=by unfold mL;rw[az y];simp[A]
   rw[e];subst A;go_enter func62,ntmps62;go_wp2;go_ret;exact⟨rfl,h⟩
  have e:mL fi 3 po wh=0:=by unfold mL;rw[az y];simp[A]
  rw[e];go_enter func62,ntmps62;go_wp2;go_ret;exact⟨rfl,h⟩
 .have e:mL fi 4 po wh=po:=by unfold mL;rw[az y];simp
  rw[e];go_enter func62,ntmps62;go_wp2;go_ret;exact⟨rfl,h⟩
 have e:mL fi 5 po wh=0:=by unfold mL;rw[az y];simp
 rw[e];go_enter func62,ntmps62;go_wp2;go_ret;exact⟨rfl,h⟩
def kD(fi kd po wh ad:Int)(vs rv:List Int):Int×List Int×Bool:=if fi=0 then(0,[],false)else if kd=1 then(if wh=1 then(ad,vs,true)else(0,[],false))else if kd=2\/kd=3 then(if wh=8 then(po,rv,true)else if wh=9 then(po,[],true)else(0,[],false))else(0,[],false)
theorem uy(i0 i kd po be fi wh ad)(vs rv)(ta)(tn tc)(ra)(rc)(M:RE kd)(w)(H:Sl w (gN ra rv.length rc) (rv.map B8)):iB 60 #[vp i0 i kd po (jq vs) ta tn tc be fi wh ad ra rv.length rc] w λP w'=>P=gX (.tuple #[I (kD fi kd po wh ad vs rv).1,.string (jq (kD fi kd po wh ad vs rv).2.1),.bool (kD fi kd po wh ad vs rv).2.2])/\Bl w w':=by
 have h:=(Bl.refl w).alloc (im #[I i0,I i,I kd,I po,.string (jq vs),gN ta tn tc,I be,I fi,I wh,I ad,gN ra rv.length rc] 60);have Q:jq []=({data:=#[]}:ByteArray):=rfl;by_cases y:fi=0
 .have e:kD fi kd po wh ad vs rv=(0,[],false):=by unfold kD;rw[aE y]
  rw[e];subst y;go_enter func60,ntmps60;go_wp2;go_ret3;exact⟨rfl,h⟩
 obtain rfl|rfl|rfl|rfl|rfl:=M
 .by_cases L:wh=1
  .have e:kD fi 1 po wh ad vs rv=(ad,vs,true):=by unfold kD;rw[az y];simp[L]
   rw[e];clear e;subst L;go_enter func60,ntmps60;go_upto_region 4 with fail;go_quiet(fail);go_wp2;go_ret3;exact⟨rfl,h.drewN _⟩
  have e:kD fi 1 po wh ad vs rv=(0,[],false):=by unfold kD;rw[az y];simp[L]
  rw[e];clear e;go_enter func60,ntmps60;go_wp2;go_ret3;exact⟨rfl,h⟩
 .by_cases A:wh=8
  .have e:kD fi 2 po wh ad vs rv=(po,rv,true):=by unfold kD;rw[az y];simp[A]
   rw[e];clear e;subst A;have T:=kX _ rv _ (H.bl h);have kd:=λn=>kX _ rv _ ((H.bl h).bl (jC.drewN n));go_enter func60,ntmps60;go_upto_region 6 with fail;go_quiet(fail);go_wp2;go_ret3;exact⟨rfl,h.drewN _⟩
  by_cases F:wh=9
  .have e:kD fi 2 po wh ad vs rv=(po,[],true):=by unfold kD;rw[az y];simp[F]
   rw[e];clear e;subst F;go_enter func60,ntmps60;go_wp2;go_ret3;exact⟨rfl,h⟩
  have e:kD fi 2 po wh ad vs rv=(0,[],false):=by unfold kD;rw[az y];simp[A,F]
  rw[e];clear e;go_enter func60,ntmps60;go_wp2;go_ret3;exact⟨rfl,h⟩
 .by_cases A:wh=8
  .have e:kD fi 3 po wh ad vs rv=(po,rv,true):=by unfold kD;rw[az y];simp[A]
   rw[e];clear e;subst A;have T:=kX _ rv _ (H.bl h);have kd:=λn=>kX _ rv _ ((H.bl h).bl (jC.drewN n));go_enter func60,ntmps60;go_upto_region 6 with fail;go_quiet(fail);go_wp2;go_ret3;exact⟨rfl,h.drewN _⟩
  by_cases F:wh=9
  .have e:kD fi 3 po wh ad vs rv=(po,[],true):=by unfold kD;rw[az y];simp[F]
   rw[e];clear e;subst F;go_enter func60,ntmps60;go_wp2;go_ret3;exact⟨rfl,h⟩
  have e:kD fi 3 po wh ad vs rv=(0,[],false):=by unfold kD;rw[az y];simp[A,F]
  rw[e];clear e;go_enter func60,ntmps60;go_wp2;go_ret3;exact⟨rfl,h⟩
 .have e:kD fi 4 po wh ad vs rv=(0,[],false):=by unfold kD;rw[az y];simp
  rw[e];clear e;go_enter func60,ntmps60;go_wp2;go_ret3;exact⟨rfl,h⟩
 have e:kD fi 5 po wh ad vs rv=(0,[],false):=by unfold kD;rw[az y];simp
 rw[e];clear e;go_enter func60,ntmps60;go_wp2;go_ret3;exact⟨rfl,h⟩
def Qj(c):tB c=kD c.fin c.kind c.pos c.r.wh c.r.ad c.value c.r.val:=rfl
abbrev xR(i0 i:Int)(kd po:Int)(vs:ByteArray)(ta:Option Addr)(tn tc:Nat)(be fi wh ad:Int)(ra:Option Addr)(rn rc:Nat):Obj:= .cells #[I i0,I i,I kd,I po,.string vs,.slice ta tn tc,I be,I fi,I wh,I ad,.slice ra rn rc] 60
def mU{y A F H L M P Q T Y i:Value}(h:w.heap[g]?=some (im #[y,A,F,H,L,M,P,Q,T,Y,i] 60 (0,0))):(w.cell? (U g 0)=some y/\w.cell? (U g 1)=some A/\w.cell? (U g 2)=some F/\w.cell? (U g 3)=some H/\w.cell? (U g 4)=some L/\w.cell? (U g 5)=some M/\w.cell? (U g 6)=some P/\w.cell? (U g 7)=some Q/\w.cell? (U g 8)=some T/\w.cell? (U g 9)=some Y/\w.cell? (U g 10)=some i)/\g<w.heap.size:=
 ⟨⟨ax w g 0 _ 60 (0,0) h,ax w g 1 _ 60 (0,0) h,ax w g 2 _ 60 (0,0) h,ax w g 3 _ 60 (0,0) h,ax w g 4 _ 60 (0,0) h,ax w g 5 _ 60 (0,0) h,ax w g 6 _ 60 (0,0) h,ax w g 7 _ 60 (0,0) h,ax w g 8 _ 60 (0,0) h,ax w g 9 _ 60 (0,0) h,ax w g 10 _ 60 (0,0) h⟩,(ae.1 h).1⟩
structure Uf(ofi okd opo owh oad:Int)(ovs orv:List Int)(fi kd po wh ad:Int)(vs rv:List Int):Prop where
 app:kd=1->(kD fi kd po wh ad vs rv).2.2=true->¬(kD fi kd po wh ad vs rv).1<mL ofi okd opo owh
 uU:kd=2\/kd=3->fi≠0->po<mL ofi okd opo owh->wh=4
 B:kd=2\/kd=3->fi≠0->(kD ofi okd opo owh oad ovs orv).2.2=true->(kD ofi okd opo owh oad ovs orv).1=po->wh≠3
theorem Pa(oi0 oi okd opo obe ofi owh oad)(ovs orv)(ota)(otn otc)(ora)(orc)(i0 i kd po be fi wh ad)(vs rv)(ta)(tn tc)(ra)(rc)(al:RE okd)(hk:RE kd)(b8:0<=opo/\opo<=1000)(w)(am:Sl w (gN ora orv.length orc) (orv.map B8))(hr:Sl w (gN ra rv.length rc) (rv.map B8))(hG:Uf ofi okd opo owh oad ovs orv fi kd po wh ad vs rv):iB 64 #[vp oi0 oi okd opo (jq ovs) ota otn otc obe ofi owh oad ora orv.length orc,vp i0 i kd po (jq vs) ta tn tc be fi wh ad ra rv.length rc] w λen w'=>en=gX (.bool true)/\Bl w w':=by
 let⟨W1,L⟩:=gJ (w.alloc (xR oi0 oi okd opo (jq ovs) ota otn otc obe ofi owh oad ora orv.length orc));let⟨W2,Q⟩:=gJ (W1.alloc (xR i0 i kd po (jq vs) ta tn tc be fi wh ad ra rv.length rc));have b1:Bl w W1:=by rw[<-L];exact jC.alloc _
 have b2:Bl W1 W2:=by rw[<-Q];exact jC.alloc _
 have z1:W1.heap.size=w.heap.size+1:=by rw[<-L];simp
 have an:W1.heap[w.heap.size]?=some (xR oi0 oi okd opo (jq ovs) ota otn otc obe ofi owh oad ora orv.length orc):=by rw[<-L];exact ao w _
 have T:=(b2.heap (b:=w.heap.size) C).H an;have a4:W2.heap[w.heap.size+1]?=some (xR i0 i kd po (jq vs) ta tn tc be fi wh ad ra rv.length rc):=by rw[<-z1,<-Q];exact ao W1 _
 let⟨a5,a6,a7,Hb⟩:=jR (λW=>Cc oi0 oi okd opo obe ofi owh oad (jq ovs) ota otn otc ora orv.length orc al b8 W) (λW (hb:Bl w W)=>uy i0 i kd po be fi wh ad vs rv ta tn tc ra rc hk W (hr.bl hb)) (λW (hb:Bl w W)=>uy oi0 oi okd opo obe ofi owh oad ovs orv ota otn otc ora orc al W (am.bl hb)) (b1.H b2);let⟨b9,ba,ap⟩:=iz T a4 L;let⟨aq,HG⟩:=gO Q hG;obtain⟨o0,o1,o2,o3,o4,o5,o6,o7,o8,o9,ar⟩:=(mU T).1;have lo:=(mU T).2;have lc:=(mU a4).2;let⟨tr,a8⟩:=gJ (mL ofi okd opo owh);rw[a8]at a5;let⟨bc,a9⟩:=gJ (kD fi kd po wh ad vs rv);let⟨bo,aa⟩:=gJ (kD ofi okd opo owh oad ovs orv);rw[a9]at a6;rw[aa]at a7;let⟨au,Y,ab⟩:=iz a9 aa a8;clear a9 aa a8 L Q b1 b2 z1 an T a4 hG am hr;go_enter func64,ntmps64;go_upto_region 1 with fail;rw[ap.o,aq.o];clear ap aq;go_upto_region 2 with(go_at_call 62;refine gT (a5 _) λw3 Z=>?_;have av:=(Z.heap lc).H ba;have aw:=(Z.heap lo).H b9;let⟨aY,ac,b0⟩:=iz Z av aw;clear Z av aw);clear o0 o1 o2 o3 o4 o5 o6 o7 o8 o9 ar;obtain⟨c0,c1,c2,c3,c4,c5,c6,c7,c8,c9,F⟩:=(mU ac).1;have bd:=(mU ac).2;go_upto_region 3 with(go_at_call 60;refine gT (a6 _ (Hb.H aY)) λw4 a0=>?_;have b3:=(a0.heap bd).H ac;have b4:=(a0.heap (mU b0).2).H b0;let⟨bg,a1,b5⟩:=iz a0 b3 b4;clear a0 b3 b4);clear c0 c1 c2 c3 c4 c5 c6 c7 c8 c9 F;obtain⟨c0,c1,c2,c3,c4,c5,c6,c7,c8,c9,F⟩:=(mU a1).1;obtain⟨o0,o1,o2,o3,o4,o5,o6,o7,o8,o9,ar⟩:=(mU b5).1;have b6:=(mU a1).2;have bn:=(mU b5).2;have h:=gP ((Hb.H aY).H bg);have a2:=λW (hb:Bl w4 W)=>a7.o W (h.H hb);have a3:=gP a2;clear a2 a7 a6 a5;let⟨ag,bm,bb⟩:=bc;obtain hk|hk|hk|hk|hk:=hk
 .subst hk
  cases bb
  .go_wp2;go_ret;exact⟨rfl,h⟩
  have h2:¬ag<tr:=by have h3:=HG.app rfl (mf au.o);rwa[au.o,ab.o]at h3
  go_wp2;go_ret;exact⟨rfl,h⟩
 iterate 2
  .subst hk
   cases bb
   .by_cases hf:fi=0
    .subst hf;go_wp2;go_ret;exact⟨rfl,h⟩
    by_cases ja:po<tr
    .have h4:=HG.uU gF hf (jk ab.o ja);subst h4;go_wp2;go_ret;exact⟨rfl,h⟩
    have Hs:=gP (HG.B gF hf);go_upto_region 10 with(go_at_call 60;refine gT (a3 _ jC) λw5 y=>?_;have M:=(y.heap b6).H a1;let⟨A,P⟩:=gO y M;clear y M);clear c0 c1 c2 c3 c4 c5 c6 c7 c8 c9 F;obtain⟨c0,c1,c2,c3,c4,c5,c6,c7,c8,c9,F⟩:=(mU P).1;have bi:=(mU P).2;let⟨ai,b7,ob⟩:=bo
    cases ob
    .go_wp2;go_ret;exact⟨rfl,h.H A⟩
    by_cases ak:ai=po
    .have h3:¬wh=3:=Hs (mf Y.o) (jk Y.o ak);go_wp2;go_ret;exact⟨lE (nN h3),h.H A⟩
    go_wp2;go_ret;exact⟨rfl,h.H A⟩
   by_cases bl:ag<tr;all_goals
    by_cases hf:fi=0
    .subst hf;go_wp2;go_ret;exact⟨rfl,h⟩
    by_cases ja:po<tr
    .have h4:=HG.uU gF hf (jk ab.o ja);subst h4;go_wp2;go_ret;exact⟨rfl,h⟩
    have Hs:=gP (HG.B gF hf);go_upto_region 10 with(go_at_call 60;refine gT (a3 _ jC) λw5 y=>?_;have M:=(y.heap b6).H a1;let⟨A,P⟩:=gO y M;clear y M);clear c0 c1 c2 c3 c4 c5 c6 c7 c8 c9 F;obtain⟨c0,c1,c2,c3,c4,c5,c6,c7,c8,c9,F⟩:=(mU P).1;have bi:=(mU P).2;let⟨ai,b7,ob⟩:=bo
    cases ob
    .go_wp2;go_ret;exact⟨rfl,h.H A⟩
    by_cases ak:ai=po
    .have h3:¬wh=3:=Hs (mf Y.o) (jk Y.o ak);go_wp2;go_ret;exact⟨lE (nN h3),h.H A⟩
    go_wp2;go_ret;exact⟨rfl,h.H A⟩
 all_goals
  subst hk
  cases bb
  .go_wp2;go_ret;exact⟨rfl,h⟩
  by_cases bl:ag<tr
  .go_wp2;go_ret;exact⟨rfl,h⟩
  go_wp2;go_ret;exact⟨rfl,h⟩
def Xy.p{o:Kl}(h:Xy o c):Uf o.fin o.kind o.pos o.r.wh o.r.ad o.value o.r.val c.fin c.kind c.pos c.r.wh c.r.ad c.value c.r.val:=⟨λi y A=>h.1 ⟨y,A,i⟩,λi y A=>(h.2 i y).1 A,λi y A F H=>(h.2 i y).2 ⟨A,F,H⟩⟩
def qm.cells{cc:Nat}(h:qm w gH gK (gN ca gK.length cc) cs)(Y:gK[k]?=some c):∃cb L M P Q,ca=G cb/\cb<w.heap.size/\w.cell? (U cb (k*11))=some (I c.a)/\w.cell? (U cb (k*11+1))=some (I c.b)/\w.cell? (U cb (k*11+2))=some (I c.kind)/\w.cell? (U cb (k*11+3))=some (I c.pos)/\w.cell? (U cb (k*11+4))=some (.string (jq c.value))/\w.cell? (U cb (k*11+5))=some (gN L c.c.length M)/\w.cell? (U cb (k*11+6))=some (I c.d)/\w.cell? (U cb (k*11+7))=some (I c.fin)/\w.cell? (U cb (k*11+8))=some (I c.r.wh)/\w.cell? (U cb (k*11+9))=some (I c.r.ad)/\w.cell? (U cb (k*11+10))=some (gN P c.r.val.length Q)/\w.ownsRow 0 3 1 (gN L c.c.length M) c.c.length (c.c.map I)/\Sl w (gN P c.r.val.length Q) (c.r.val.map B8):=by have hk:=(aj.1 Y).1;obtain⟨cb,rfl,_,T,i,_⟩:=h.row.cells C;obtain⟨tv,rv,Z,e1,e2,e3,e4,e5,e6,e7,e8,e9,A,F,y⟩:=h.c k c Y;obtain⟨L,M,rfl⟩:=F.B;obtain⟨P,Q,rfl⟩:=y.B;rw[ay]at A y;exact⟨cb,L,M,P,Q,rfl,T,(i (k*11) C).H Z,(i (k*11+1) C).H e1,(i (k*11+2) C).H e2,(i (k*11+3) C).H e3,(i (k*11+4) C).H e4,(i (k*11+5) C).H e5,(i (k*11+6) C).H e6,(i (k*11+7) C).H e7,(i (k*11+8) C).H e8,(i (k*11+9) C).H e9,(i (k*11+10) C).H A,F.ie,y.sl⟩
theorem Ba(h:jG w gH g W V)(hl:W.gK.length<=9999999)(i0 i kd po be fi wh ad)(vs)(ta)(tn tc)(ra)(rn rc){o:Kl}(ho:W.gK[j]?=some o)(h1:o.kind=4)(h2:po<o.pos)(h3:o.d<fi):Calls prog 63 #[O g,vp i0 i kd po vs ta tn tc be fi wh ad ra rn rc] w λen w'=>en=.returned (.bool true)/\Bl w w':=by
 obtain⟨ca,cc,Q⟩:=h.ca.row.B;obtain⟨pv,av,lv,cv,hv,mv,ps,aw,ls,cs,tp⟩:=V;simp only at Q;subst Q;let⟨W1,A⟩:=gJ (w.alloc (.cells #[I i0,I i,I kd,I po,.string vs,.slice ta tn tc,I be,I fi,I wh,I ad,.slice ra rn rc] 60));have b1:Bl w W1:=by rw[<-A];exact jC.alloc _
 have T:W1.heap[w.heap.size]?=some (.cells #[I i0,I i,I kd,I po,.string vs,.slice ta tn tc,I be,I fi,I wh,I ad,.slice ra rn rc] 60 (0,0)):=by rw[<-A];exact ao w _
 have ac:=(aj.1 ho).1;let⟨H,Ho,Y⟩:=iz h ho A;let⟨Z,a0⟩:=gO T b1;clear h ho A T b1;go_enter func63,ntmps63;go_upto_region 1 with fail;rw[Y.o];clear Y;go_wp2;go_loopw[5](λx wr=>∃k:Nat,k<=j/\x=I k/\Hid (Bl W1 wr)) λx _=>W.gK.length-(Go.RowKit.intOf x).toNat
 case atStart=>exact⟨0,ju,rfl,jC⟩
 obtain⟨k,a3,rfl,HB⟩:=hrel;have bw:=a0.H HB;have hX:=H.bl (gI:=gH) bw λ_ _=>rfl;have ja:k<W.gK.length:=C;have aa:(k:Int)<(W.gK.length:Int):=C;have c7:=hX.cellAt 7 rfl;have ag:=hX.lt;have L:=(HB.heap (ae.1 Z).1).H Z;have a1:w.heap.size<wr.heap.size:=(ae.1 L).1;let⟨x3,x7⟩:=qJ L 3 7 rfl;let⟨c,hc⟩:=mm ja;obtain⟨cb,a4,a5,a6,a7,rfl,ai,d0,d1,d2,d3,d4,d5,d6,d7,d8,d9,a8,_,_⟩:=hX.ca.cells hc;let⟨oQ,hO⟩:=gJ (Obj.cells #[I c.a,I c.b,I c.kind,I c.pos,.string (jq c.value),.slice a4 c.c.length a5,I c.d,I c.fin,I c.r.wh,I c.r.ad,.slice a6 c.r.val.length a7] 60);let⟨W5,M⟩:=gJ (wr.alloc oQ);have bA:=(Bl.refl wr).alloc oQ;have y:=ao wr oQ;rw[M]at bA y;let⟨y3,y7⟩:=bA.B a1 x3 x7;have ab:=af a1 bA.lt;have ak:wr.heap.size<W5.heap.size:=(ae.1 y).1;rw[<-hO]at y;let⟨z2,z3,z6⟩:=oR y 2 3 6 rfl;let⟨HO,a2,a9,Hc⟩:=jR hO M bA hc;have P:Hid (¬(c.kind=4/\po<c.pos/\c.d<fi)->k<j):=λhn=>by
  apply fc a3;intro e;subst e;have e2:c=o:=by have:=Hc.symm.H Ho;simpa using this
  subst e2;exact hn ⟨h1,h2,h3⟩
 clear hX L y hO M bA hc bw;go_upto_region 5 with fail;rw[HO.o,a2.o];clear HO a2 d0 d1 d2 d3 d4 d5 d6 d7 d8 d9 a8 c7;have F:=gP (HB.H a9);by_cases k4:c.kind=4
 .rw[k4]at z2;by_cases k5:po<c.pos
  .by_cases k6:c.d<fi
   .go_wp2;go_ret;exact⟨rfl,a0.H F⟩
   have:=P λe=>k6 e.2.2;go_wp2;exact⟨⟨k+1,C,iD,F⟩,iC⟩
  have:=P λe=>k5 e.2.1;go_wp2;exact⟨⟨k+1,C,iD,F⟩,iC⟩
 have:=P λe=>k4 e.1;go_wp2;exact⟨⟨k+1,C,iD,F⟩,iC⟩
theorem Dc(h:jG w gH g W V)(hl:W.gK.length<=9999999)(i0 i kd po be fi wh ad)(vs)(ta)(tn tc)(ra)(rn rc){o:Kl}(ho:W.gK[j]?=some o)(at0)(h1:o.kind=3)(h2:o.pos=at0)(h3:o.d<fi\/o.d=be):Calls prog 61 #[O g,vp i0 i kd po vs ta tn tc be fi wh ad ra rn rc,I at0,.string {data:=#[]}] w λen w'=>en=.returned (.bool true)/\Bl w w':=by
 obtain⟨ca,cc,T⟩:=h.ca.row.B;obtain⟨pv,av,lv,cv,hv,mv,ps,aw,ls,cs,tp⟩:=V;simp only at T;subst T;let⟨W1,L⟩:=gJ (w.alloc (.cells #[I i0,I i,I kd,I po,.string vs,.slice ta tn tc,I be,I fi,I wh,I ad,.slice ra rn rc] 60));have b1:Bl w W1:=by rw[<-L];exact jC.alloc _
 have Y:W1.heap[w.heap.size]?=some (.cells #[I i0,I i,I kd,I po,.string vs,.slice ta tn tc,I be,I fi,I wh,I ad,.slice ra rn rc] 60 (0,0)):=by rw[<-L];exact ao w _
 have ac:=(aj.1 ho).1;let⟨H,Ho,Z⟩:=iz h ho L;let⟨a0,M⟩:=gO Y b1;clear h ho L Y b1;go_enter func61,ntmps61;go_upto_region 1 with fail;rw[Z.o];clear Z;go_wp2;go_loopw[9](λx wr=>∃k:Nat,k<=j/\x=I k/\Hid (Bl W1 wr)) λx _=>W.gK.length-(Go.RowKit.intOf x).toNat
 case atStart=>exact⟨0,ju,rfl,jC⟩
 obtain⟨k,a3,rfl,HB⟩:=hrel;have bw:=M.H HB;have hX:=H.bl (gI:=gH) bw λ_ _=>rfl;have ja:k<W.gK.length:=C;have aa:(k:Int)<(W.gK.length:Int):=C;have c7:=hX.cellAt 7 rfl;have ag:=hX.lt;have P:=(HB.heap (ae.1 a0).1).H a0;have a1:w.heap.size<wr.heap.size:=(ae.1 P).1;let⟨x6,x7⟩:=qJ P 6 7 rfl;let⟨c,hc⟩:=mm ja;obtain⟨cb,a4,a5,a6,a7,rfl,ai,d0,d1,d2,d3,d4,d5,d6,d7,d8,d9,a8,_,_⟩:=hX.ca.cells hc;let⟨oQ,hO⟩:=gJ (Obj.cells #[I c.a,I c.b,I c.kind,I c.pos,.string (jq c.value),.slice a4 c.c.length a5,I c.d,I c.fin,I c.r.wh,I c.r.ad,.slice a6 c.r.val.length a7] 60);let⟨W5,Q⟩:=gJ (wr.alloc oQ);have bA:=(Bl.refl wr).alloc oQ;have y:=ao wr oQ;rw[Q]at bA y;let⟨y6,y7⟩:=bA.B a1 x6 x7;have ab:=af a1 bA.lt;have ak:wr.heap.size<W5.heap.size:=(ae.1 y).1;rw[<-hO]at y;let⟨z2,z3,z6⟩:=oR y 2 3 6 rfl;let⟨HO,a2,a9,Hc⟩:=jR hO Q bA hc;have F:Hid (¬(c.kind=3/\c.pos=at0/\(c.d<fi\/c.d=be))->k<j):=λhn=>by
  apply fc a3;intro e;subst e;have e2:c=o:=by have:=Hc.symm.H Ho;simpa using this
  subst e2;exact hn ⟨h1,h2,h3⟩
 clear hX P y hO Q bA hc bw;go_upto_region 5 with fail;rw[HO.o,a2.o];clear HO a2 d0 d1 d2 d3 d4 d5 d6 d7 d8 d9 a8 c7;have A:=gP (HB.H a9);by_cases k6:fi<=c.d
 .by_cases k7:c.d=be
  .by_cases k4:c.kind=3
   .rw[k4]at z2;by_cases k5:c.pos=at0
    .rw[k5]at z3;go_wp2;go_ret;exact⟨rfl,M.H A⟩
    have:=F λe=>k5 e.2.1;go_wp2;exact⟨⟨k+1,C,iD,A⟩,iC⟩
   have:=F λe=>k4 e.1;go_wp2;exact⟨⟨k+1,C,iD,A⟩,iC⟩
  have:=F (λe=>by obtain e|e:=e.2.2;omega;exact k7 e);go_wp2;exact⟨⟨k+1,C,iD,A⟩,iC⟩
 by_cases k4:c.kind=3
 .rw[k4]at z2;by_cases k5:c.pos=at0
  .rw[k5]at z3;go_wp2;go_ret;exact⟨rfl,M.H A⟩
  have:=F λe=>k5 e.2.1;go_wp2;exact⟨⟨k+1,C,iD,A⟩,iC⟩
 have:=F λe=>k4 e.1;go_wp2;exact⟨⟨k+1,C,iD,A⟩,iC⟩
theorem EJ(h:jG w gH g W V)(hl:W.gK.length<=9999999)(i0 i kd po be fi wh ad)(vs)(ta)(tn tc)(ra)(rn rc){o:Kl}(ho:W.gK[j]?=some o)(at0)(val)(b0:val≠[])(a1:∀d∈val,0<=d/\d<=255)(a9:∀(k:Nat) (c:Kl),W.gK[k]?=some c->∀d∈c.value,0<=d/\d<=255)(aa:∀(k:Nat) (c:Kl),W.gK[k]?=some c->c.kind=1->c.value=val->k=j)(h1:o.kind=1)(h2:o.value=val)(h3:o.d<fi)(h4:at0∈o.c)(b2:o.fin=0\/(o.fin≠0/\o.r.wh=1/\o.r.ad=at0))(h8:o.c.length<=3000000000):Calls prog 61 #[O g,vp i0 i kd po vs ta tn tc be fi wh ad ra rn rc,I at0,.string (jq val)] w λen w'=>en=.returned (.bool true)/\Bl w w':=by
 obtain⟨ca,cc,ab⟩:=h.ca.row.B;obtain⟨pv,av,lv,cv,hv,mv,ps,aw,ls,cs,tp⟩:=V;simp only at ab;subst ab;let⟨W1,T⟩:=gJ (w.alloc (.cells #[I i0,I i,I kd,I po,.string vs,.slice ta tn tc,I be,I fi,I wh,I ad,.slice ra rn rc] 60));have b1:Bl w W1:=by rw[<-T];exact jC.alloc _
 have Y:W1.heap[w.heap.size]?=some (.cells #[I i0,I i,I kd,I po,.string vs,.slice ta tn tc,I be,I fi,I wh,I ad,.slice ra rn rc] 60 (0,0)):=by rw[<-T];exact ao w _
 have bn:=(aj.1 ho).1;let⟨H,Ho,ac⟩:=iz h ho T;let⟨ag,a2⟩:=gO Y b1;have Z:¬(jq val).toList=[]:=λe=>b0 (uI a1 (λd hd=>mi hd) (by rw[e,ey,pL];rfl));have ai:(jq val).toList.isEmpty=false:=by
  cases hl:(jq val).toList with
  |nil=>exact absurd hl Z
  |cons _ _=>rfl
 have a3:=my a1 a9 aa;let⟨sv,a4⟩:=gJ (jq val);rw[a4]at Z ai|-;have ak:=gP a4;clear h ho T Y b1 a4 a1 a9 aa;go_enter func61,ntmps61;go_upto_region 1 with fail;rw[ac.o];clear ac;go_wp2;go_loopw[9](λx wr=>∃k:Nat,k<=j/\x=I k/\Hid (Bl W1 wr)) λx _=>W.gK.length-(Go.RowKit.intOf x).toNat
 case atStart=>exact⟨0,ju,rfl,jC⟩
 obtain⟨k,b3,rfl,HB⟩:=hrel;have bw:=a2.H HB;have hX:=H.bl (gI:=gH) bw λ_ _=>rfl;have ja:k<W.gK.length:=C;have bd:(k:Int)<(W.gK.length:Int):=C;have c7:=hX.cellAt 7 rfl;have bo:=hX.lt;have a5:=(HB.heap (ae.1 ag).1).H ag;have al:w.heap.size<wr.heap.size:=(ae.1 a5).1;let⟨x6,x7⟩:=qJ a5 6 7 rfl;let⟨c,hc⟩:=mm ja;obtain⟨cb,b4,b5,b6,b7,rfl,bp,d0,d1,d2,d3,d4,d5,d6,d7,d8,d9,b8,F,_⟩:=hX.ca.cells hc;have b9:=gP F;clear F;let⟨oQ,hO⟩:=gJ (Obj.cells #[I c.a,I c.b,I c.kind,I c.pos,.string (jq c.value),.slice b4 c.c.length b5,I c.d,I c.fin,I c.r.wh,I c.r.ad,.slice b6 c.r.val.length b7] 60);let⟨W5,a6⟩:=gJ (wr.alloc oQ);have bA:=(Bl.refl wr).alloc oQ;have y:=ao wr oQ;rw[a6]at bA y;let⟨y6,y7⟩:=bA.B al x6 x7;have bg:=af al bA.lt;have bq:wr.heap.size<W5.heap.size:=(ae.1 y).1;rw[<-hO]at y;let⟨z2,z3,z4,z5⟩:=lV y 2 3 4 5 rfl;let⟨z7,z8,z9,z6⟩:=lV y 7 8 9 6 rfl;let⟨HO,am,an,Hc⟩:=jR hO a6 bA hc;have L:Hid (¬(c.kind=1/\c.value=val)->k<j):=λhn=>by
  apply fc b3;intro e;subst e;have e2:c=o:=by have:=Hc.symm.H Ho;simpa using this
  subst e2;exact hn ⟨h1,h2⟩
 have M:Hid ((c.kind=1/\c.value=val)->c=o):=λhn=>by have e:=a3.2.2 k c Hc hn.1 hn.2;subst e;have:=Hc.symm.H Ho;simpa using this
 have ap:Hid (c.value≠val->¬(jq c.value).toList=sv.toList):=λhn e=>hn (uI (a3.2.1 k c Hc) a3.1 (jk ak.o e));clear hX a5 y hO a6 bA hc bw;go_upto_region 5 with fail;rw[HO.o,am.o];clear HO am d0 d1 d2 d3 d4 d5 d6 d7 d8 d9 b8 c7;have A:=gP (HB.H an);by_cases k6:fi<=c.d
 .by_cases k7:c.d=be
  .by_cases k4:c.kind=1
   .by_cases k5:c.value=val
    .have P:=M ⟨k4,k5⟩;subst P;omega
    have Q:=ap k5;have ba:((jq c.value).toList==sv.toList)=false:=iU Q;have bc:¬jq c.value=sv:=λe=>Q (mf e);generalize jq c.value=sc at*;rw[k4]at z2;have:=L λe=>k5 e.2;go_wp2;exact⟨⟨k+1,C,iD,A⟩,iC⟩
   have:=L λe=>k4 e.1;go_wp2;exact⟨⟨k+1,C,iD,A⟩,iC⟩
  have:=L (λe=>by
   have P:=M e
   subst P
   omega)
  go_wp2;exact⟨⟨k+1,C,iD,A⟩,iC⟩
 by_cases k4:c.kind=1
 .by_cases k5:c.value=val
  .have P:=M ⟨k4,k5⟩;subst P;rw[k4]at z2;rw[k5,ak.o]at z4;have aq:=gP ((iT an).iX b9 λ_ _ e=>e);go_wp2;go_loopw[11,12](λhd x wx=>∃(t:Nat) (bb:Bool),t<=c.c.length/\hd=.bool bb/\x=I t/\wx=W5/\(bb=true↔at0∈c.c.take t)) λ_ x _=>c.c.length-(Go.RowKit.intOf x).toNat
   case atStart=>exact⟨0,false,ju,rfl,rfl,rfl,gG⟩
   obtain⟨t,bb,ht,rfl,rfl,rfl,a0⟩:=hrel;have a7:=gP a0;clear a0;by_cases ar:t<c.c.length
   .have bs:(t:Int)<(c.c.length:Int):=C;obtain⟨gt,bi,bl,au,_,aY,_⟩:=aq.2.resolve_left λe=>C;simp only[bO,ZU]at au;obtain⟨rfl,rfl⟩:=au;have bv:gt<wr.heap.size:=(ae.1 aY).1;have y0:=(aq.cellAt t C).H (show(c.c.map I)[t]?=some (I c.c[t]) by rw[aK,ah ar];rfl);have F:Hid (c.c.take (t+1)=c.c.take t++[c.c[t]]):=by unfold Hid;rw[cW,ah ar];rfl
    generalize c.c[t]=tt at*;clear aY
    cases bb
    .by_cases a8:tt=at0
     .subst a8;go_wp2;exact⟨⟨t+1,true,C,rfl,iD,trivial,nG F.o⟩,iC⟩
     go_wp2;refine⟨⟨t+1,false,C,by first|rfl|simp[a8],iD,trivial,?_⟩,iC⟩;rw[F.o,aT];constructor
     .intro e;simp at e
     rintro(e|e)
     .exact a7.2 e
     simp at e;exact absurd e.symm a8
    go_wp2;exact⟨⟨t+1,true,C,rfl,iD,trivial,by rw[F.o,aT];exact⟨λ_=>.inl (a7.1 rfl),λ_=>rfl⟩⟩,iC⟩
   have bm:¬((t:Int)<(c.c.length:Int)):=C;have Y:bb=true:=a7.2 (by rw[bI C];exact h4);subst Y;obtain h5|⟨h7,h5,h6⟩:=b2
   .rw[h5]at z7;go_wp2;go_ret;exact⟨rfl,a2.H A⟩
   rw[h5]at z8;rw[h6]at z9;go_wp2;go_ret;exact⟨rfl,a2.H A⟩
  have Q:=ap k5;have ba:((jq c.value).toList==sv.toList)=false:=iU Q;have bc:¬jq c.value=sv:=λe=>Q (mf e);generalize jq c.value=sc at*;rw[k4]at z2;have:=L λe=>k5 e.2;go_wp2;exact⟨⟨k+1,C,iD,A⟩,iC⟩
 have:=L λe=>k4 e.1;go_wp2;exact⟨⟨k+1,C,iD,A⟩,iC⟩
theorem Qw(w)(g)(i0 i kd po be fi wh)(vs)(ta)(tn tc)(ra)(rn rc)(h:(kd=2/\(wh=8\/wh=9\/wh=3\/wh=4))\/(kd=3/\(wh=8\/wh=9\/wh=4))\/(kd=4/\wh=1)\/(kd=5/\(wh=1\/wh=6)))(F:rn=0\/wh=8):iB 59 #[O g,vp i0 i kd po vs ta tn tc be fi wh 0 ra rn rc] w λH w'=>H=gX (.bool true)/\Bl w w':=by
 have y:=((Bl.refl w).alloc (im #[I i0,I i,I kd,I po,.string vs,gN ta tn tc,I be,I fi,I wh,I 0,gN ra rn rc] 60)).alloc (im #[I wh,I 0,gN ra rn rc] 43);by_cases A:rn=0
 .subst A;obtain⟨rfl,h⟩|⟨rfl,h⟩|⟨rfl,rfl⟩|⟨rfl,h⟩:=h
  .obtain rfl|rfl|rfl|rfl:=h;all_goals
    go_enter func59,ntmps59;go_wp2;go_ret;exact⟨rfl,y⟩
  .obtain rfl|rfl|rfl:=h;all_goals
    go_enter func59,ntmps59;go_wp2;go_ret;exact⟨rfl,y⟩
  .go_enter func59,ntmps59;go_wp2;go_ret;exact⟨rfl,y⟩
  obtain rfl|rfl:=h;all_goals
   go_enter func59,ntmps59;go_wp2;go_ret;exact⟨rfl,y⟩
 have L:=F.resolve_left A;subst L;have M:¬((rn:Int)=0):=C;obtain⟨rfl,_⟩|⟨rfl,_⟩|⟨_,h⟩|⟨_,h⟩:=h
 .go_enter func59,ntmps59;go_wp2;go_ret;exact⟨rfl,y⟩
 .go_enter func59,ntmps59;go_wp2;go_ret;exact⟨rfl,y⟩
 .omega
 omega
def XC(w:World)(X Y):((w.alloc X).alloc Y).heap[w.heap.size+1]?=some Y:=by have h:=ao (w.alloc X) Y;rwa[show(w.alloc X).heap.size=w.heap.size+1 by simp]at h
def Xo(w:World)(X Y):((w.alloc X).alloc Y).heap[w.heap.size]?=some X:=by rw[cL _ _ (show w.heap.size<_ by simp)];exact ao w X
theorem Tw(h:jG w gH g W V)(i:Wk W):iB 27 #[O g] w λy w'=>y=gX (I (W.n*W.ce))/\∃k,w'=w.drewN k:=by
 let⟨A,F,H,L⟩:=vN i.nB;let⟨M,P⟩:=h.R 0 3 rfl;have Q:=h.lt;have T:=tG A F H L;have Y:IntKind.i64.wrap ((W.n:Int)*W.ce)=W.n*W.ce:=vB;clear h;go_enter func27,ntmps27;go_wp2_with fail;go_quiet(fail);go_wp2;go_ret;exact⟨rfl,_,rfl⟩
theorem Nk(h:jG w gH g W V)(hf:Wk W)(i0 i po be fi wh ad)(vs)(ta)(tc)(tk:List Int)(ra)(rc)(y:w.ownsRow 0 3 1 (gN ta tk.length tc) tk.length (tk.map I))(hl:tk.length<=3000000000)(hk:(wh=1/\ad∈tk/\0<=ad/\ad<W.n*W.ce)\/(wh=7/\ad=0/\∃t∈tk,t<0\/W.n*W.ce<=t)):iB 59 #[O g,vp i0 i 1 po vs ta tk.length tc be fi wh ad ra 0 rc] w λen w'=>en=gX (.bool true)/\Bl w w':=by
 have hB:=((Bl.refl w).alloc (xR i0 i 1 po vs ta tk.length tc be fi wh ad ra 0 rc)).alloc (im #[I wh,I ad,gN ra 0 rc] 43);let⟨W2,M⟩:=gJ ((w.alloc (xR i0 i 1 po vs ta tk.length tc be fi wh ad ra 0 rc)).alloc (im #[I wh,I ad,gN ra 0 rc] 43));have A:=Xo w (xR i0 i 1 po vs ta tk.length tc be fi wh ad ra 0 rc) (im #[I wh,I ad,gN ra 0 rc] 43);have F:=XC w (xR i0 i 1 po vs ta tk.length tc be fi wh ad ra 0 rc) (im #[I wh,I ad,gN ra 0 rc] 43);rw[M]at hB A F;obtain⟨H,Z,HT⟩:=iz (And.intro h hf) M ((iT hB).iX y λ_ _ e=>e);let⟨ac,ag,a0⟩:=iz hB A F;have ai:wh=1\/wh=7/\ad=0:=by obtain hk|hk:=hk;exact .inl hk.1;exact .inr ⟨hk.1,hk.2.1⟩
 let⟨f1,f2,f3,f4⟩:=vN hf.nB;have hm:=tG f1 f2 f3 f4;let⟨T,hT⟩:=gJ ((W.n:Int)*W.ce:Int);rw[hT]at hm hk;let⟨a1,Hk⟩:=gO hT hk;clear h hf M y hB A F hk f1 f2 f3 f4 hT;go_enter func59,ntmps59;go_upto_region 2 with fail;rw[Z.o];clear Z;obtain⟨⟨_,_,x2,_,_,x5,_,_,_,_,_⟩,a2⟩:=mU ag;have a3:w.heap.size+1<W2.heap.size:=(ae.1 a0).1;let⟨y0,y1,y2⟩:=oR a0 0 1 2 rfl;go_cut[36]from 12 to 144 λx wx=>x=.bool false/\Hid (wx=W2)
 case first=>
  obtain rfl|⟨rfl,rfl⟩:=ai
  .let⟨q,hq⟩:=gJ (ad !=0)
   cases q;all_goals(go_wp2_with fail;go_meet)
   all_goals exact⟨rfl,rfl⟩
  go_wp2_with fail;go_meet;exact⟨rfl,rfl⟩
 case rest=>
  obtain⟨rfl,hw⟩:=hcut;have ak:=hw.symm;subst ak;go_upto_region 9 with fail;clear x2 y2;go_loopw[6,7,8](λbo bi x wx=>∃(t:Nat) (b1 b2:Bool),t<=tk.length/\bo=.bool b1/\bi=.bool b2/\x=I t/\Hid (Bl W2 wx)/\Hid ((∃s∈tk.take t,s<0\/T<=s)->b1=true)/\Hid (ad∈tk.take t->b2=true)) λ_ _ x _=>tk.length-(Go.RowKit.intOf x).toNat
  case atStart=>exact⟨0,false,false,ju,rfl,rfl,rfl,jC,(λe=>by let⟨s,e,_⟩:=e;simp at e),(λe=>mi e)⟩
  obtain⟨t,b1,b2,ht,rfl,rfl,rfl,P,Hb,Hc⟩:=hrel;have bw:=ac.H P;have z5:=(P.cell a2).H x5;have au:=af a2 P.lt;have a4:=af a3 P.lt;let⟨z0,z1⟩:=P.B a3 y0 y1;obtain⟨hX,Hw⟩:=gO (H.1.bl (gI:=gH) bw λ_ _=>rfl) bw;clear bw;by_cases a5:t<tk.length
  .have av:(t:Int)<(tk.length:Int):=C;have a6:=gP ((iT P).iX HT λ_ _ e=>e);obtain⟨gt,am,an,a7,_,a8,_⟩:=a6.2.resolve_left λe=>C;simp only[bO,ZU]at a7;obtain⟨rfl,rfl⟩:=a7;have aw:gt<wr.heap.size:=(ae.1 a8).1;have q0:=(a6.cellAt t C).H (show(tk.map I)[t]?=some (I tk[t]) by rw[aK,ah a5];rfl);have y:Hid (tk.take (t+1)=tk.take t++[tk[t]]):=by unfold Hid;rw[cW,ah a5];rfl
   generalize tk[t]=tt at*;clear a8;go_upto_region 12 with fail;go_cut[6]from 41 to 70 λx wx=>∃Y:Bool,x=.bool Y/\Hid (Bl wr wx)/\Hid ((tt<0\/T<=tt)\/b1=true->Y=true)
   case first=>
    cases b1
    .by_cases aY:tt<0
     .go_wp2_with fail;go_meet;exact⟨true,rfl,jC,λ_=>rfl⟩
     go_wp2_with fail;refine gT (uG hX H.2) λW' a9=>?_;rw[a1.o];have al:=gP a9;clear a9;go_wp2_with fail;go_meet;exact⟨decide (T<=tt),rfl,al,λe=>by obtain (e|e)|e:=e;exact absurd e C;exact decide_eq_true e;exact absurd e gF⟩
    go_wp2_with fail;go_meet;exact⟨true,rfl,jC,λ_=>rfl⟩
   case rest=>
    obtain⟨Y,rfl,Q,aa⟩:=hcut;have v1:=(Q.cell a4).H z1;have b0:=af a4 Q.lt;have L:Hid (∀e2:Bool,(tt=ad\/b2=true->e2=true)->Hid (Bl W2 wc)/\Hid ((∃s∈tk.take (t+1),s<0\/T<=s)->Y=true)/\Hid (ad∈tk.take (t+1)->e2=true)):=by
     intro e2 h2;refine⟨P.H Q,?_,?_⟩
     .unfold Hid;rw[y.o];rintro⟨s,e,es⟩;rw[aT]at e;obtain e|e:=e
      .exact aa (.inr (Hb ⟨s,e,es⟩))
      simp at e;subst e;exact aa (.inl es)
     unfold Hid;rw[y.o,aT];rintro(e|e)
     .exact h2 (.inr (Hc e))
     simp at e;exact h2 (.inl e.symm)
    clear y
    cases b2
    .go_wp2;exact⟨⟨t+1,Y,decide (tt=ad),C,rfl,rfl,iD,L _ λe=>iU e⟩,iC⟩
    go_wp2;exact⟨⟨t+1,Y,true,C,rfl,rfl,iD,L _ λ_=>rfl⟩,iC⟩
  have ap:¬((t:Int)<(tk.length:Int)):=C;have ab:tk.take t=tk:=bI C;rw[ab]at Hb Hc;obtain⟨rfl,k1,aq,ar⟩|⟨rfl,rfl,k1⟩:=Hk.o
  .have F:=Hc k1;have HQ:Hid (∀nq,iB 27 #[O g] (wr.drewN nq) λen w'=>en=gX (I T)/\∃k,w'=(wr.drewN nq).drewN k):=λnq=>by rw[<-a1.o];exact Tw (hX.bl (gI:=gH) (jC.drewN _) λ_ _=>rfl) H.2
   subst F;go_upto_region 14 with fail;go_quiet((go_at_call 27;exact Calls.quiet_of (HQ _)));go_wp2;go_ret;exact⟨rfl,Hw.drewN _⟩
  have A:=Hb k1;subst A;go_upto_region 14 with fail;go_quiet(fail);go_wp2;go_ret;exact⟨rfl,Hw.drewN _⟩
abbrev cV(c:Kl)(ta:Option Addr)(tc:Nat)(ra:Option Addr)(rc:Nat):Value:=vp c.a c.b c.kind c.pos (jq c.value) ta c.c.length tc c.d c.fin c.r.wh c.r.ad ra c.r.val.length rc
def QJ(h:jG w gH g W V)(L:Wk W)(Y:W.iN<=3000000000)(M:KC (W.n*W.ce) W.gK)(i:c∈W.gK)(P:c.fin≠0)(ta)(tc)(ra)(rc)(y:w.ownsRow 0 3 1 (gN ta c.c.length tc) c.c.length (c.c.map I)):iB 59 #[O g,cV c ta tc ra rc] w λQ w'=>Q=gX (.bool true)/\Bl w w':=by
 unfold cV;by_cases A:c.kind=1
 .obtain⟨F,H⟩:=M.Xu c i P A;rw[A,F];exact Nk h L c.a c.b c.pos c.d c.fin c.r.wh c.r.ad _ ta tc c.c ra rc y (gS ((L.ca c i).tk)) H
 obtain⟨F,H,T⟩:=M.Xq c i P A;rw[F];exact Qw w g c.a c.b c.kind c.pos c.d c.fin c.r.wh _ ta _ tc ra _ rc T (by obtain e|e:=H;exact .inl (by rw[e];rfl);exact .inr e)
def QX(h:jG w gH g W V)(L:Wk W)(hl:W.iN<=3000000000)(i:W.gK.length<=9999999)(M:KC (W.n*W.ce) W.gK)(hc:c∈W.gK){a:Int}(hb:tB c=(a,vv,true))(ta)(tc)(ra)(rc):iB 61 #[O g,cV c ta tc ra rc,I a,.string (jq vv)] w λen w'=>en=gX (.bool true)/\Bl w w':=by
 unfold cV;by_cases P:vv=[]
 .subst P;obtain⟨o,y,H,A,Q⟩:=M.XF c hc a hb;obtain⟨j,T,e⟩:=aV.1 y;exact Dc h i c.a c.b c.kind c.pos c.d c.fin c.r.wh c.r.ad _ ta _ tc ra _ rc (aj.2 ⟨T,e⟩) a H A (.inl Q)
 obtain⟨o,y,H,A,Q,p5,p6⟩:=M.Yi c hc a vv P hb;obtain⟨j,T,e⟩:=aV.1 y;have F:=aj.2 ⟨T,e⟩;exact EJ h i c.a c.b c.kind c.pos c.d c.fin c.r.wh c.r.ad _ ta _ tc ra _ rc F a vv P (by rw[<-A];exact(L.ca o y).vl.2) (λk c' Y=>(L.ca c' (aR Y)).vl.2) (λk c' Y e1 e2=>M.uq k j c' o Y F e1 H (jS e2 A)) H A Q p5 (by by_cases Z:o.fin=0;exact .inl Z;exact .inr ⟨Z,p6.resolve_left Z⟩) (gS ((L.ca o y).tk))
def Vl{xs ys:List Int}(y:∀d∈xs,0<=d/\d<=255)(A:∀d∈ys,0<=d/\d<=255)(h:xs≠ys):¬(jq xs).toList=(jq ys).toList/\((jq xs).toList==(jq ys).toList)=false/\¬jq xs=jq ys:=by have i:¬(jq xs).toList=(jq ys).toList:=λe=>h (uI y A e);exact⟨i,iU i,λe=>i (mf e)⟩
def N6(h:VM W c):∀d∈(tB c).2.1,0<=d/\d<=255:=by
 unfold tB;split
 .intro d i;simp at i
 split
 .split
  .exact h.vl.2
  intro d i;simp at i
 split
 .split
  .exact h.r.a
  split<;>(intro d i;simp at i)
 intro d i;simp at i
theorem Sh(h:jG w gH g W V)(hf:Wk W)(bz:W.iN<=3000000000)(hl:W.gK.length<=9999999)(hO:KC (W.n*W.ce) W.gK):Calls prog 32 #[.pointer (some ⟨g,0,none⟩)] w λy w'=>y=.returned (.bool true)/\Bl w w':=by
 obtain⟨ca,cc,bB⟩:=h.ca.row.B;obtain⟨pv,av,lv,cv,hv,mv,ps,aw,ls,cs,tp⟩:=V;simp only at bB;subst bB;let⟨H,a6⟩:=gO (And.intro h hf) hO;clear h hf hO;go_enter func32,ntmps32;go_wp2;go_loopw[3](λx wr=>∃k:Nat,k<=W.gK.length/\x=.int .i64 k/\Hid (Bl w wr)) λx _=>W.gK.length-(Go.RowKit.intOf x).toNat
 case atStart=>exact⟨0,ju,rfl,jC⟩
 obtain⟨k,dc,rfl,HB⟩:=hrel;have hX:=H.1.bl (gI:=gH) HB λ_ _=>rfl;have c7:=hX.cellAt 7 rfl;have bC:=hX.lt;by_cases ja:k<W.gK.length
 .have cx:(k:Int)<(W.gK.length:Int):=by omega
  obtain⟨c,hc⟩:∃c,W.gK[k]?=some c:=⟨_,ah ja⟩;have a7:=aR hc;obtain⟨cb,ta,tc,ra,rc,rfl,bD,d0,d1,d2,d3,d4,d5,d6,d7,d8,d9,bm,bE,bn⟩:=hX.ca.cells hc;obtain⟨a,vv,bb,b5⟩:∃a vv bb,tB c=(a,vv,bb):=⟨_,_,_,rfl⟩;have a8:=H.2.ca c a7;have a9:0<=c.pos/\c.pos<=1000:=by have:=a8.po;omega
  have aa:Hid (c.fin≠0->∀Z,Bl wr Z->Calls prog 59 #[.pointer (some ⟨g,0,none⟩),cV c ta tc ra rc] Z λy w'=>y=.returned (.bool true)/\Bl Z w'):=λh0 Z hb=>QJ (H.1.bl (gI:=gH) (HB.H hb) λ_ _=>rfl) H.2 bz a6 a7 h0 ta tc ra rc ((gL.B (S:=λ_=>False) hb).iX bE λ_ _ e=>e);have ab:Hid (∀Z,Bl wr Z->Calls prog 60 #[cV c ta tc ra rc] Z λy w'=>y=.returned (.tuple #[.int .i64 a,.string (jq vv),.bool bb])/\Bl Z w'):=λZ hb=>by have e:=uy c.a c.b c.kind c.pos c.d c.fin c.r.wh c.r.ad c.value c.r.val ta c.c.length tc ra rc a8.kd Z (bn.bl hb);rwa[<-Qj,b5]at e
  have a2:Hid (bb=true->∀Z,Bl wr Z->Calls prog 61 #[.pointer (some ⟨g,0,none⟩),cV c ta tc ra rc,.int .i64 a,.string (jq vv)] Z λy w'=>y=.returned (.bool true)/\Bl Z w'):=λc9 Z hb=>QX (H.1.bl (gI:=gH) (HB.H hb) λ_ _=>rfl) H.2 bz hl a6 a7 (jS b5 c9) ta tc ra rc;have ac:Hid (∀Z,Calls prog 62 #[cV c ta tc ra rc] Z λy w'=>y=.returned (.int .i64 (JY c))/\Bl Z w'):=λZ=>Cc c.a c.b c.kind c.pos c.d c.fin c.r.wh c.r.ad _ ta _ tc ra _ rc a8.kd a9 Z;have ad:Hid (c.kind≠4->JY c≠0->∀Z,Bl wr Z->Calls prog 63 #[.pointer (some ⟨g,0,none⟩),cV c ta tc ra rc] Z λy w'=>y=.returned (.bool true)/\Bl Z w'):=λe1 e2 Z hb=>by obtain⟨o,p1,p2,p3,p4⟩:=a6.Yo c a7 e1 e2;obtain⟨j,hj,e⟩:=aV.1 p1;exact Ba (H.1.bl (gI:=gH) (HB.H hb) λ_ _=>rfl) hl c.a c.b c.kind c.pos c.d c.fin c.r.wh c.r.ad _ ta _ tc ra _ rc (aj.2 ⟨hj,e⟩) p2 p3 p4
  let⟨cd,bo,Hc⟩:=iz bn b5 (And.intro hc a8);obtain⟨oQ,hO⟩:∃oQ,Obj.cells #[Value.int .i64 c.a,.int .i64 c.b,.int .i64 c.kind,.int .i64 c.pos,.string (jq c.value),.slice ta c.c.length tc,.int .i64 c.d,.int .i64 c.fin,.int .i64 c.r.wh,.int .i64 c.r.ad,.slice ra c.r.val.length rc] 60=oQ:=⟨_,rfl⟩;obtain⟨W5,bp⟩:∃W5,wr.alloc oQ=W5:=⟨_,rfl⟩;have bA:=(Bl.refl wr).alloc oQ;have i:=ao wr oQ;rw[bp]at bA i;rw[<-hO]at i;let⟨HO,bR,Q,ag⟩:=jR hO bp bA i;clear hX i hO bp bA hc a7 a8 a9 bE bn b5;go_upto_region 5 with fail;rw[HO.o,bR.o];clear HO bR d0 d1 d2 d3 d4 d5 d6 d7 d8 d9 bm c7;obtain⟨⟨z0,z1,z2,z3,z4,z5,z6,z7,z8,z9,A⟩,bT⟩:=mU ag;by_cases bV:c.fin=0
  .have bW:=gP (HB.H Q);clear aa ab a2 ac ad;go_wp2;exact⟨⟨k+1,by omega,by go_num,bW⟩,by simp[Go.RowKit.intOf];omega⟩
  have ai:=gP (aa bV);clear aa;go_wp2_with fail;refine(ai _ Q).L ?_;rintro y w6⟨rfl,bq⟩;let⟨T,bs⟩:=gO ((bq.heap bT).H ag) (Q.H bq);clear bq z0 z1 z2 z3 z4 z5 z6 z7 z8 z9 A;obtain⟨⟨z0,z1,z2,z3,z4,z5,z6,z7,z8,z9,A⟩,b9⟩:=mU T;go_wp2_with fail;refine(ab _ bs).L ?_;rintro y w7⟨rfl,bv⟩;let⟨Y,ak⟩:=gO ((bv.heap b9).H T) (bs.H bv);clear bv z0 z1 z2 z3 z4 z5 z6 z7 z8 z9 A b9;obtain⟨⟨z0,z1,z2,z3,z4,z5,z6,z7,z8,z9,A⟩,ba⟩:=mU Y;go_upto_region 8 with fail;go_cut[9]from 45 to 164 λx wx=>x=.bool true/\Hid (Bl w7 wx)
  case first=>
   cases bb
   .go_wp2_with fail;go_meet;exact⟨rfl,jC⟩
   have ce:=gP (a2 rfl);clear a2;go_wp2_with fail;refine(ce _ ak).L ?_;rintro y w8⟨rfl,cf⟩;go_wp2_with fail;go_meet;exact⟨rfl,cf⟩
  case rest=>
   obtain⟨rfl,al⟩:=hcut;obtain⟨W8,rfl⟩:∃W8,W8=wc:=⟨_,rfl⟩;have F:=gP ((al.heap ba).H Y);clear z0 z1 z2 z3 z4 z5 z6 z7 z8 z9 A ba;obtain⟨⟨z0,z1,z2,z3,z4,z5,z6,z7,z8,z9,A⟩,am⟩:=mU F;go_upto_region 9 with fail;go_cut[10]from 54 to 164 λx wx=>x=.bool true/\Hid (Bl W8 wx)
   case first=>
    by_cases k4:c.kind=4
    .rw[k4]at z2;go_wp2_with fail;go_meet;exact⟨rfl,jC⟩
    go_wp2_with fail;refine(ac _).L ?_;rintro y w9⟨rfl,an⟩;by_cases t0:JY c=0
    .rw[t0];have M:=gP an;clear an;go_wp2_with fail;go_meet;exact⟨rfl,M⟩
    have cg:=gP (ad k4 t0);obtain⟨tt,bX⟩:∃tt,JY c=tt:=⟨_,rfl⟩;rw[bX]at t0|-;clear bX;have P:=gP ((an.heap am).H F);clear z0 z1 z2 z3 z4 z5 z6 z7 z8 z9 A;obtain⟨⟨z0,z1,z2,z3,z4,z5,z6,z7,z8,z9,A⟩,cP⟩:=mU P;have M:=gP an;clear an;go_wp2_with fail;refine(cg _ ((ak.H al).H M)).L ?_;rintro y dd⟨rfl,bc⟩;have c0:=gP (M.H bc);clear bc;go_wp2_with fail;go_meet;exact⟨rfl,c0⟩
   case rest=>
    obtain⟨rfl,M⟩:=hcut;obtain⟨W9,rfl⟩:∃W9,W9=wc:=⟨_,rfl⟩;let⟨P,bd,c1⟩:=iz ((M.heap am).H F) (HB.H ((ak.H al).H M)) ((ak.H al).H M);clear z0 z1 z2 z3 z4 z5 z6 z7 z8 z9 A am a2 ac ad ai ab ag T Y F Q bs ak al M bT bC bD;go_wp2;go_loopw[11](λx wx=>∃j:Nat,j<=W.gK.length/\x=.int .i64 j/\Hid (Bl W9 wx)) λx _=>W.gK.length-(Go.RowKit.intOf x).toNat
    case atStart=>exact⟨0,ju,rfl,jC⟩
    obtain⟨j,dg,rfl,a0⟩:=hrel;have hX:=H.1.bl (gI:=gH) (bd.H a0) λ_ _=>rfl;have c7:=hX.cellAt 7 rfl;have bC:=hX.lt;by_cases ch:j<W.gK.length
    .have cS:(j:Int)<(W.gK.length:Int):=by omega
     obtain⟨o,ho⟩:∃o,W.gK[j]?=some o:=⟨_,ah ch⟩;have b6:=aR ho;obtain⟨dj,ap,aq,ar,au,c2,bD,d0,d1,d2,d3,d4,d5,d6,d7,d8,d9,bm,_,aY⟩:=hX.ca.cells ho;simp only[aJ,Z0,ZS]at c2;subst c2;obtain⟨oa,ov,ob,b0⟩:∃a vv bb,tB o=(a,vv,bb):=⟨_,_,_,rfl⟩;have b7:=H.2.ca o b6;have a9:0<=o.pos/\o.pos<=1000:=by have:=b7.po;omega
     have ci:Hid (∀Z,Bl wr Z->Calls prog 60 #[cV o ap aq ar au] Z λy w'=>y=.returned (.tuple #[.int .i64 oa,.string (jq ov),.bool ob])/\Bl Z w'):=λZ hb=>by have e:=uy o.a o.b o.kind o.pos o.d o.fin o.r.wh o.r.ad o.value o.r.val ap o.c.length aq ar au b7.kd Z (aY.bl hb);rwa[<-Qj,b0]at e
     have c3:Hid (o.fin≠0->o.fin<c.d->∀Z,Bl wr Z->Calls prog 64 #[cV o ap aq ar au,cV c ta tc ra rc] Z λy w'=>y=.returned (.bool true)/\Bl Z w'):=λe0 e Z hb=>Pa o.a o.b o.kind o.pos o.d o.fin o.r.wh o.r.ad o.value o.r.val ap o.c.length aq ar au c.a c.b c.kind c.pos c.d c.fin c.r.wh c.r.ad c.value c.r.val ta c.c.length tc ra rc b7.kd Hc.2.kd a9 Z (aY.bl hb) (cd.bl ((c1.H a0).H hb)) (a6.Od c (aR Hc.1) o b6 e0 e).p;have be:Hid (j≠k->bb=true->ob=true->((a=oa->vv=ov)/\(vv≠[]->vv=ov->a=oa))/\¬(c.kind=1/\o.kind=1/\a=oa)):=λe1 e2 e3=>by have e:=a6.two k j c o Hc.1 ho (λe=>e1 e.symm) (jk bo.o e2) (jk b0 e3);rwa[bo.o,b0]at e
     have ck:Hid (vv≠ov->¬(jq vv).toList=(jq ov).toList/\((jq vv).toList==(jq ov).toList)=false/\¬jq vv=jq ov):=λe=>by have e1:=N6 (H.2.ca c (aR Hc.1));have e2:=N6 (H.2.ca o b6);rw[bo.o]at e1;rw[b0]at e2;exact Vl e1 e2 e
     obtain⟨O2,bw⟩:∃oQ,Obj.cells #[Value.int .i64 o.a,.int .i64 o.b,.int .i64 o.kind,.int .i64 o.pos,.string (jq o.value),.slice ap o.c.length aq,.int .i64 o.d,.int .i64 o.fin,.int .i64 o.r.wh,.int .i64 o.r.ad,.slice ar o.r.val.length au] 60=oQ:=⟨_,rfl⟩;obtain⟨dk,b1⟩:∃W5,wr.alloc O2=W5:=⟨_,rfl⟩;have bA:=(Bl.refl wr).alloc O2;have i:=ao wr O2;rw[b1]at bA i;rw[<-bw]at i;let⟨c4,bg,Q,b2⟩:=jR bw b1 bA i;have l9:=(mU P).2;have b3:=gP (((a0.H bA).heap l9).H P);clear hX i bw b1 bA ho b6 b7 a9 aY b0 l9;go_upto_region 16 with fail;rw[c4.o,bg.o];clear c4 bg d0 d1 d2 d3 d4 d5 d6 d7 d8 d9 bm c7;obtain⟨⟨y0,y1,y2,y3,y4,y5,y6,y7,y8,y9,c5⟩,ly⟩:=mU b2;have lz:=(mU b3).2;go_wp2_with fail;refine(ci _ Q).L ?_;rintro y c6⟨rfl,a3⟩;let⟨cl,cn,a4⟩:=iz ((a3.heap lz).H b3) ((a3.heap ly).H b2) (Q.H a3);clear a3 y0 y1 y2 y3 y4 y5 y6 y7 y8 y9 c5 ly lz b3 b2;obtain⟨⟨y0,y1,y2,y3,y4,y5,y6,y7,y8,y9,c5⟩,ly⟩:=mU cn;obtain⟨⟨z0,z1,z2,z3,z4,z5,z6,z7,z8,z9,A⟩,lz⟩:=mU cl;go_upto_region 17 with fail;go_cut[125]from 99 to 125 λx wx=>x=.bool false/\Hid (wx=c6)
     case first=>
      by_cases b8:j=k
      .have bi:(j:Int)=(k:Int):=by omega
       go_wp2_with fail;go_meet;exact⟨rfl,rfl⟩
      have bi:¬(j:Int)=(k:Int):=by omega
      cases bb
      .go_wp2_with fail;go_meet;exact⟨rfl,rfl⟩
      cases ob
      .go_wp2_with fail;go_meet;exact⟨rfl,rfl⟩
      have Ht:=gP (be b8 rfl rfl);by_cases a5:a=oa
      .have b4:=Ht.1.1 a5;subst a5;subst b4;go_wp2_with fail;go_meet;exact⟨rfl,rfl⟩
      by_cases b4:vv=ov
      .have co:vv=[]:=bk λe=>a5 (Ht.1.2 e b4);subst b4;subst co;have c8:(jq []).toList.isEmpty=true:=by rw[ey,pL];rfl
       have cp:=gP c8;clear c8;go_wp2_with fail;go_meet;exact⟨by simp[cp.o,a5],rfl⟩
      let⟨n1,n2,n3⟩:=ck b4;generalize jq vv=s1 at*;generalize jq ov=s2 at*;go_wp2_with fail;go_meet;exact⟨rfl,rfl⟩
     case rest=>
      obtain⟨rfl,hw⟩:=hcut;have bx:=hw.symm;subst bx;go_upto_region 19 with fail;go_cut[149]from 126 to 149 λx wx=>x=.bool false/\Hid (wx=c6)
      case first=>
       by_cases b8:j=k
       .have da:((j:Int) !=(k:Int))=false:=by simp;omega
        clear b8;go_wp2_with fail;go_meet;exact⟨rfl,rfl⟩
       have bi:¬(j:Int)=(k:Int):=by omega
       by_cases k1:c.kind=1
       .by_cases k2:o.kind=1
        .have Ht:=gP (be b8);rw[k1]at z2;rw[k2]at y2;have Hk:=gP (And.intro k1 k2);clear k1 k2
         cases bb
         .go_wp2_with fail;go_meet;exact⟨rfl,rfl⟩
         cases ob
         .go_wp2_with fail;go_meet;exact⟨rfl,rfl⟩
         have a5:¬a=oa:=λe=>(Ht rfl rfl).2 ⟨Hk.1,Hk.2,e⟩;go_wp2_with fail;go_meet;exact⟨nN a5,rfl⟩
        rw[k1]at z2;clear k1;go_wp2_with fail;go_meet;exact⟨rfl,rfl⟩
       go_wp2_with fail;go_meet;exact⟨rfl,rfl⟩
      case rest=>
       obtain⟨rfl,hw⟩:=hcut;have bx:=hw.symm;subst bx;by_cases cq:o.fin=0
       .have a1:=gP (a0.H a4);clear c3;go_wp2;exact⟨⟨j+1,by omega,by go_num,a1⟩,by simp[Go.RowKit.intOf];omega⟩
       by_cases cr:o.fin<c.d
       .have ct:=gP (c3 cq cr);go_wp2_with fail;refine(ct _ a4).L ?_;rintro y dl⟨rfl,bl⟩;have a1:=gP (a0.H (a4.H bl));clear bl;go_wp2;exact⟨⟨j+1,by omega,by go_num,a1⟩,by simp[Go.RowKit.intOf];omega⟩
       have a1:=gP (a0.H a4);go_wp2;exact⟨⟨j+1,by omega,by go_num,a1⟩,by simp[Go.RowKit.intOf];omega⟩
    have db:¬((j:Int)<(W.gK.length:Int)):=by omega
    have a1:=gP (bd.H a0);clear hX;go_wp2;exact⟨⟨k+1,by omega,by go_num,a1⟩,by simp[Go.RowKit.intOf];omega⟩
 have dn:¬((k:Int)<(W.gK.length:Int)):=by omega
 clear hX;go_wp2;go_ret;exact⟨rfl,HB⟩
def il.US:(prog.info? 72).map (λi=>(i.zero,i.size,i.bytes))=some (some (.agg #[I 0,.pointer none,I 0,.bool false,.bool false]),5,32):=ix
def Wd.some(n m v ce k:Nat):Wd:=⟨n,m,v,ce,(List.range k).map (CG n m),[],[],[],0,[],[],0⟩
section
variable{n m v ce:Nat}
def wg(n m v ce k):(Wd.some n m v ce k).pl.length=k:=by simp[Wd.some]
def WN{N:Pn}(i:N.of n m v ce (jZ n m k))(h:N.A=[])(y:Nd w gI (10+3*k) (11+3*k) (12+3*k) gi n m v ce N [])(A:N.ab 0 (CG n m k).part):yU w gI n m v ce k gi 0 0 (CG n m k):=by
 have F:(CG n m k).q=[]:=by unfold CG;split<;>rfl
 refine⟨N,0,jk F y,i,A,by rw[h];rfl,?_,nG h⟩;rw[Pn.oV,h];simp[iE]
def jG.QD{pc:Nat}(h:jG w gH g (Wd.some n m v ce k) {V with pv:=gN pa k pc})(hk:k<14)(hN:yU w gH n m v ce k gi 0 0 (CG n m k)){W1 Q:World}(Z:Bl w W1){gg cp:Nat}(T:Q.ownsRow 0 72 5 (gN (G gg) (k+1) cp) (k+1) (V.ps++[I (jZ n m k),O gi,I 0,.bool true,.bool false]))(y:W1.grownBy Q (gN pa k pc).ownBlock)(a8:(gN pa k pc).ownBlock=some gg\/w.heap.size<=gg):∃tag2,jB (λs=>s=1\/s=2) w gH (Q.setCell (U g 4) (gN (G gg) (k+1) cp)) tag2/\jG (Q.setCell (U g 4) (gN (G gg) (k+1) cp)) tag2 g (Wd.some n m v ce (k+1)) {V with pv:=gN (G gg) (k+1) cp,ps:=V.ps++[I (jZ n m k),O gi,I 0,.bool true,.bool false]}:=by
 have lw:=h.lt;have l2:=Z.lt;have l3:=y.size;have n3:V.tp=8\/V.tp=97:=h.ht;have A:mC w gH 2 72 5 (gN pa k pc) k V.ps:=by have:=h.a.row;rwa[wg]at this
 have tl:=A.gH;have ll:=λb hb=>(A.ie.lt b hb).2;obtain⟨tag2,a0⟩:∃tag2:Nat->Nat,tag2=λb=>if b<w.heap.size then gH b else if b=gg then 2 else 9:=⟨_,rfl⟩
 have F:∀b,b<w.heap.size->tag2 b=gH b:=λb hb=>by rw[a0];simp[hb]
 have a9:tag2 gg=2:=by
  obtain e|e:=a8
  .rw[F gg (ll gg e)];exact tl gg e
  rw[a0];dsimp only;rw[az C,aE rfl]
 have oQ:gL (λb=>gH b=1\/gH b=2) w (Q.setCell (U g 4) (gN (G gg) (k+1) cp)):=((gL.B Z).H ((gL.A y).L λb _ e=>.inr (tl b e.symm))).setCell (U g 4) (.inl (.inl h.tg)) _;have Y:jB (λt=>t=1\/t=2) w gH (Q.setCell (U g 4) (gN (G gg) (k+1) cp)) tag2:=⟨oQ,F⟩;have a6:Q.heap[g]?=some (im (D6 (Wd.some n m v ce k) {V with pv:=gN pa k pc}).toArray 66 (0,0)):=by rw[y.block g C λe=>by have:=tl g e.symm;rw[h.tg]at this;omega,Z.heap lw];exact h.hg
 have hl:=A.ie.1;refine⟨tag2,Y,jx 4 _ Q _ a6,(F g lw).H h.tg,⟨⟨?_,λb hb=>?_⟩,λi P hP=>?_⟩,h.B.A Y C λi _ _=>C,h.ca.A Y C C λi _=>C,h.po.A Y (by show¬(V.tp=1\/V.tp=2);omega) C,h.ha.A Y C,h.ms.A Y C,by rw[wg];omega,h.an,n3⟩
 .rw[wg];exact lY T λb hb=>Z8 _ _ _ _ λe=>gY T a6 gF (jS hb e)
 .have e:gg=b:=by simpa [Value.ownBlock]using hb
  rw[<-e];exact a9
 have M:((List.range (k+1)).map (CG n m))[i]?=some P:=hP;have hi:=(aj.1 M).1;simp at hi;rw[aK,cD hi]at M;simp at M;by_cases e:i<k
 .obtain⟨gj,mj,⟨a1,a2,a3,a4,a5⟩,nj⟩:=h.a.pl i P (by show((List.range k).map (CG n m))[i]?=_;rw[aK,cD e];simp[M]);refine⟨gj,mj,⟨?_,?_,?_,?_,?_⟩,nj.A Y C C C⟩
  .rw[aB C];exact a1
  .rw[aB C];exact a2
  .rw[aB C];exact a3
  .rw[aB C];exact a4
  rw[aB C];exact a5
 have e':i=k:=C;subst e';rw[<-M];have a7:(CG n m i).up=true/\(CG n m i).oB=false:=by unfold CG;split<;>exact⟨rfl,rfl⟩
 refine⟨gi,0,⟨?_,?_,?_,?_,?_⟩,hN.A Y C C C⟩
 .rw[aC C,hl];simp[Wd.some]
 .rw[aC C,hl];simp
 .rw[aC C,hl];simp
 .rw[aC C,hl,a7.1];simp
 rw[aC C,hl,a7.2];simp
def TF(w):El w none 0 0 []:=⟨ju,jl,gF,0,0,λh=>absurd h gF,λj d i=>C⟩
def Rb(n m k:Nat):Pn:=if k<n*m then .unit ((k/m:Nat):Int) [] (λ_=>St.first)else .voter [] λ_=>λ_=>UE
def VA(S:Cf)(L:k<S.n*S.m+S.v):(Rb S.n S.m k).of S.n S.m S.v S.ce (jZ S.n S.m k)/\(Rb S.n S.m k).A=[]/\(Rb S.n S.m k).ab 0 (CG S.n S.m k).part:=by
 let⟨F,H,M,P⟩:=S.A;have Q:=uP F.2 H.2;unfold Rb CG;by_cases h:k<S.n*S.m
 .rw[aE h,aE h];have gP:jZ S.n S.m k=k:=by unfold jZ;rw[aE h]
  refine⟨⟨pI gP,?_,⟨rfl,λj i=>mi i,λr y=>mi y⟩⟩,rfl,rfl,ju,rfl,?_⟩
  .rw[gP];unfold Bi;rw[aE S.ok,az (by have:((k:Nat):Int)<(S.n:Int)*S.m:=(by exact_mod_cast h);omega)];simp
  simp
 rw[az h,az h];have gP:jZ S.n S.m k=100+k-(S.n*S.m:Nat):=by unfold jZ;rw[az h]
 refine⟨⟨pI gP,pI gP,?_⟩,rfl,ju,?_,?_⟩
 .exact⟨rfl,λj i=>mi i,λr y=>mi y⟩
 .rfl
 simp;rfl
theorem MZ(S:Cf)(w):iB 26 #[cfg S.n S.m S.v S.ce] w λen w'=>∃g,en=gX (.tuple #[O g,.bool true])/\Bl w w'/\∃gI,(∀b,b<w.heap.size->gI b=0)/\Wx w' gI g (Wd.start S.n S.m S.v S.ce):=by
 have ar:=gP (KG S);have au:Hid (∀k,k<S.n*S.m+S.v->(Rb S.n S.m k).of S.n S.m S.v S.ce (jZ S.n S.m k)/\(Rb S.n S.m k).A=[]/\(Rb S.n S.m k).ab 0 (CG S.n S.m k).part):=λk hk=>VA S hk;let⟨n,m,v,ce,hf⟩:=S;simp only at ar au|-;obtain⟨av,aw,r0,r1,r2⟩:=fx il.US;have s0:=(Cf.mk n m v ce hf).A;simp only at s0;have s7:=uP s0.1.2 s0.2.1.2;have s8:1*1<=n*m:=fF s0.1.1 s0.2.1.1;let⟨N,hN⟩:=gJ (n*m);have bq:(n:Int)*(m:Int)=(N:Int):=by rw[<-hN];simp
 rw[hN]at s7 s8;let⟨W0,a6⟩:=gJ (w.alloc (rz n m v ce));let⟨W1,a7⟩:=gJ (W0.alloc (im #[I n,I m,I v,I ce,OO,OO,OO,OO,I 0,OO,OO] 66));have b0:Bl w W0:=by rw[<-a6];exact jC.alloc _
 have b1:Bl W0 W1:=by rw[<-a7];exact jC.alloc _
 have z0:W0.heap.size=w.heap.size+1:=by rw[<-a6];simp
 have z1:W1.heap.size=W0.heap.size+1:=by rw[<-a7];simp
 have ai:W0.heap[w.heap.size]?=some (im #[I n,I m,I v,I ce] 27 (0,0)):=by rw[<-a6];exact ao w _
 have aY:=(b1.heap (b:=w.heap.size) C).H ai;have b3:W1.heap[W0.heap.size]?=some (im (D6 (Wd.some n m v ce 0) ⟨OO,OO,OO,OO,OO,OO,[],[],[],[],8⟩).toArray 66 (0,0)):=by rw[<-a7];exact ao W0 _
 obtain⟨Y,ag⟩:∃Y:Nat->Nat,Y=λb=>if b<w.heap.size then 0 else if b=W0.heap.size then 1 else 9:=⟨_,rfl⟩
 have b4:jG W1 Y W0.heap.size (Wd.some n m v ce 0) ⟨OO,OO,OO,OO,OO,OO,[],[],[],[],8⟩:=⟨b3,by rw[ag];dsimp only;rw[az C,aE rfl],⟨mC.nil _ _ _,λi P hP=>by simp[Wd.some]at hP⟩,⟨mC.nil _ _ _,λi A hA=>by simp[Wd.some]at hA⟩,⟨mC.nil _ _ _,λi c hc=>by simp[Wd.some]at hc⟩,so.nil _,mC.nil _ _ _,mC.nil _ _ _,by simp[Wd.some],by simp[Wd.some],.inl rfl⟩;have ak:=gP b4;have b5:Hid (∀b,b<w.heap.size->Y b=0):=λb hb=>by rw[ag];simp[hb]
 have b6:Hid (Y w.heap.size=9):=by unfold Hid;rw[ag];dsimp only;rw[az C,az C]
 let⟨b7,b8,b9,ba⟩:=jR aY (b0.H b1) a6 a7;have bi:=hf;have Hf:=gP hf;obtain⟨⟨s1,s2⟩,⟨s3,s4⟩,⟨s5,s6⟩,_⟩:=s0;let⟨x0,x1,x2,x3⟩:=lV ai 0 1 2 3 rfl;have lx:w.heap.size<W0.heap.size:=C;let⟨g,hg⟩:=gJ (w.heap.size+1);rw[z0,hg]at ak;clear b4 ai aY b3 b0 b1 a6 a7 ag hf bi;go_enter func26,ntmps26;go_upto_region 1 with fail;rw[b9.o];go_upto_region 2 with fail;rw[ba.o];clear b9 ba x0 x1 x2 x3 z0 z1 lx;go_wp2;go_loopw[5](λi wr=>∃(k:Nat) (gI:Nat->Nat) (pa:Option Addr) (pc:Nat) (ps:List Value),k<=N+v/\i=I k/\Hid (∀b,b<w.heap.size->gI b=0)/\Hid (Bl w wr)/\Hid (jG wr gI g (Wd.some n m v ce k) ⟨gN pa k pc,OO,OO,OO,OO,OO,ps,[],[],[],8⟩)/\Hid (wr.heap[w.heap.size]?=some (im #[I n,I m,I v,I ce] 27 (0,0))/\gI w.heap.size=9)) λi _=>N+v-(Go.RowKit.intOf i).toNat
 case atStart=>exact⟨0,Y,none,0,[],ju,rfl,b5,b8,ak,b7,b6⟩
 clear b5 b8 ak b7 b6 Y;obtain⟨k,gI,pa,pc,ps,hk,rfl,HT,a5,HB,HC⟩:=hrel;have lx:w.heap.size<wr.heap.size:=(ae.1 HC.1).1;let⟨x0,x1,x2,x3⟩:=lV HC.1 0 1 2 3 rfl;have bb:Hid (wr.ownsRow 0 72 5 (gN pa k pc) k ps):=by have:=HB.a.row.ie;rwa[wg]at this
 by_cases ja:k<N+v
 .have bp:(k:Int)<(N:Int)+(v:Int):=C;let⟨al,a0⟩:=gJ (jZ n m k);have HO:Hid (iB 17 #[cfg n m v ce,I al,OO] wr λe w'=>∃gi,e=gX (.tuple #[O gi,I 0])/\Bl wr w'/\∃T,(∀b,b<wr.heap.size->T b=gI b)/\yU w' T n m v ce k gi 0 0 (CG n m k)):=by
   let⟨o1,o2,o3⟩:=au k (jk hN ja);rw[a0]at o1;refine(wM o1 none 0 0 (by rw[Pn.oV,o2];simp[iE]) (by rw[o2];exact TF wr) gI (10+3*k) (11+3*k) (12+3*k) Hf).L ?_;rintro e w'⟨k0,gi,T,rfl,_,_,e3,e4,e5⟩;have hcut:(Rb n m k).cut k0=Rb n m k:=by unfold Rb;split<;>simp[Pn.cut]
   rw[hcut]at e4;exact⟨gi,rfl,e5,T,e3,WN (jk a0 o1) o2 e4 o3⟩
  have a8:Hid ((k:Int)<N->al=k):=λh=>by rw[<-a0];unfold jZ;rw[aE C]
  have a9:Hid (¬(k:Int)<N->al=100+k-N):=λh=>by rw[<-a0,<-hN];unfold jZ;rw[az C]
  have HK:=gP a0;clear a0;by_cases bc:(k:Int)<N
  .have a3:=a8 bc;have bd:¬((N:Int)<=(k:Int)):=C;rw[a3]at HO;have am:=gP a3;clear a3 a8 a9;go_upto_region 9 with(go_at_call 17;refine HO.L ?_;rintro en w2⟨gi,rfl,a1,T,e1,e3⟩;let⟨a4,HE⟩:=gO a1 (And.intro e1 e3);clear a1 e1 e3);have b2:=a4.o;have M:=(iT b2).iX bb λ_ _ e=>e;have Z:=(b2.heap HB.lt).H HB.hg;have y4:w2.cell? (U g 4)=some (gN pa k pc):=ax w2 g 4 _ 66 (0,0) Z;have f4:=aP w2 g 4 _ 66 Z;have aa:g<w2.heap.size:=(ae.1 Z).1;have ac:Hid ((gN pa k pc).ownBlock≠some g):=gY M Z gF;have an:=gP M;have ap:Hid (k+1<=maxLen):=mV;have a1:Hid ((k+1)*32<=140737488355328):=lT;clear M Z b2;go_upto_region 4 with(at_builtin;refine fm _ rfl _ _ 61 rfl 0 72 av _ 5 32 underlying61 aw r0 r1 r2 rfl gF (gN pa k pc) k ps rfl (an.alloc _) (U w2.heap.size 0) 1 1 [I (k:Int),O gi,I 0,.bool true,.bool false] rfl rfl (fW (cs:=#[I (k:Int),O gi,I 0,.bool true,.bool false]) (t:=72) (fr:=(0,0)) (ao w2 _)) rS gF ap a1 gG (w2.heap.size+1) gG ?_;intro gg cp w6 F y Q ad;have kc:=(AN ((Bl.refl w2).alloc _) y (o:=4) aa ac).1.H y4;have kf:=(AN ((Bl.refl w2).alloc _) y (o:=4) aa ac).2.H f4;have bl:g<w6.heap.size:=(by have:=y.size;simp at this;omega);have aq:=my F y Q;clear F y Q ad);go_wp2;obtain⟨F,y,Q⟩:=aq.o;let⟨tag2,kq,q2⟩:=jG.QD (V:=⟨gN pa k pc,OO,OO,OO,OO,OO,ps,[],[],[],8⟩) (HB.bl (gI:=T) a4 HE.1) C HE.2 ((Bl.refl w2).alloc (im #[I (k:Int),O gi,I 0,.bool true,.bool false] 72)) (gg:=gg) (cp:=cp) (by rw[HK.o,am.o];exact F) y (Q.imp (λe=>e) λe=>C);have kk:jB (λt=>t=1\/t=2) wr gI _ tag2:=(jB.A a4 HE.1).H kq;have q1:=kk.gH;have q3:=kk.only;refine⟨⟨k+1,tag2,G gg,cp,_,C,iD,λb hb=>?_,?_,q2,kk.heap HC.1 HC.2 C⟩,iC⟩
   .rw[q1 b (af hb a5.lt)];exact HT b hb
   refine a5.A q3 λb e=>?_;apply dT;intro a2;have:=HT b a2;omega
  have a3:=a9 bc;have bd:(N:Int)<=(k:Int):=C;rw[a3]at HO;have am:=gP a3;clear a3 a8 a9;go_upto_region 9 with(go_at_call 17;refine HO.L ?_;rintro en w2⟨gi,rfl,a1,T,e1,e3⟩;let⟨a4,HE⟩:=gO a1 (And.intro e1 e3);clear a1 e1 e3);have b2:=a4.o;have M:=(iT b2).iX bb λ_ _ e=>e;have Z:=(b2.heap HB.lt).H HB.hg;have y4:w2.cell? (U g 4)=some (gN pa k pc):=ax w2 g 4 _ 66 (0,0) Z;have f4:=aP w2 g 4 _ 66 Z;have aa:g<w2.heap.size:=(ae.1 Z).1;have ac:Hid ((gN pa k pc).ownBlock≠some g):=gY M Z gF;have an:=gP M;have ap:Hid (k+1<=maxLen):=mV;have a1:Hid ((k+1)*32<=140737488355328):=lT;clear M Z b2;go_upto_region 4 with(at_builtin;refine fm _ rfl _ _ 61 rfl 0 72 av _ 5 32 underlying61 aw r0 r1 r2 rfl gF (gN pa k pc) k ps rfl (an.alloc _) (U w2.heap.size 0) 1 1 [I (100+(k:Int)-(N:Int)),O gi,I 0,.bool true,.bool false] rfl rfl (fW (cs:=#[I (100+(k:Int)-(N:Int)),O gi,I 0,.bool true,.bool false]) (t:=72) (fr:=(0,0)) (ao w2 _)) rS gF ap a1 gG (w2.heap.size+1) gG ?_;intro gg cp w6 F y Q ad;have kc:=(AN ((Bl.refl w2).alloc _) y (o:=4) aa ac).1.H y4;have kf:=(AN ((Bl.refl w2).alloc _) y (o:=4) aa ac).2.H f4;have bl:g<w6.heap.size:=(by have:=y.size;simp at this;omega);have aq:=my F y Q;clear F y Q ad);go_wp2;obtain⟨F,y,Q⟩:=aq.o;let⟨tag2,kq,q2⟩:=jG.QD (V:=⟨gN pa k pc,OO,OO,OO,OO,OO,ps,[],[],[],8⟩) (HB.bl (gI:=T) a4 HE.1) C HE.2 ((Bl.refl w2).alloc (im #[I (100+(k:Int)-(N:Int)),O gi,I 0,.bool true,.bool false] 72)) (gg:=gg) (cp:=cp) (by rw[HK.o,am.o];exact F) y (Q.imp (λe=>e) λe=>C);have kk:jB (λt=>t=1\/t=2) wr gI _ tag2:=(jB.A a4 HE.1).H kq;have q1:=kk.gH;have q3:=kk.only;refine⟨⟨k+1,tag2,G gg,cp,_,C,iD,λb hb=>?_,?_,q2,kk.heap HC.1 HC.2 C⟩,iC⟩
  .rw[q1 b (af hb a5.lt)];exact HT b hb
  refine a5.A q3 λb e=>?_;apply dT;intro a2;have:=HT b a2;omega
 have bd:¬((k:Int)<(N:Int)+(v:Int)):=C;have bm:k=N+v:=C;have be:=HB.o;have hz:Wd.some n m v ce k=Wd.zero n m v ce:=by rw[bm,<-hN];rfl
 rw[hz]at be;have bn:=gP (zi be ar);go_wp2_with(go_at_call 38;refine bn.L ?_;rintro en w2⟨rfl,tag2,k2,h2⟩;let⟨bg,bo⟩:=gO k2 h2;clear k2 h2);go_ret2;refine⟨g,rfl,a5.A bg.only λb e=>?_,tag2,λb hb=>?_,bo⟩
 .apply dT;intro a2;have:=HT b a2;omega
 rw[bg.gH b (af hb a5.lt)];exact HT b hb
end
end Go.Proofs.YtbghhbpacijmmaaGreat
