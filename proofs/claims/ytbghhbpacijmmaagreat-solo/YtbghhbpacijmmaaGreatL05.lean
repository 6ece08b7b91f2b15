import Derived.Shelf.SlIterI.Nil
import Derived.Shelf.Spec.SlicesGrow
import Derived.Test.YtbghhbpacijmmaaGreatL04
open Go.Proofs.Tryz
namespace Go.Proofs.YtbghhbpacijmmaaGreat
set_option maxRecDepth 99999
set_option maxHeartbeats 0
set_option linter.defProp false
open Go.RowKit Go.Maps Go.Shelf
attribute [local go_sem ↓] Go.wp_at_zero Go.wp_at_succ
open Go.ChangeMaps (setBlock)
variable {w w' w1 W:World} {aY bp T qb Q:Nat->Nat} {t p g tg q tn tb gm tc r n:Nat} {rs:List Rc} {v iv ov:Value} {S:Nat->Int->Ep} {a b c d ch:Int} {N:Pn} {cs xs:List Value} {l:List Qv} {e:TypeId} {ds:List Int} {q':List Qz} {x:MapEntry}
def NR(w)(p):(method 512 233 (Value.agg #[Value.pointer (some {block:=p,off:=0})]) "furrow/nodes.answer").run prog w=.ok (333,Value.agg #[Value.pointer (some {block:=p,off:=0})]) w:=rfl
def NQ(w)(p):(method 512 238 (Value.agg #[Value.pointer (some {block:=p,off:=0})]) "furrow/nodes.answer").run prog w=.ok (340,Value.agg #[Value.pointer (some {block:=p,off:=0})]) w:=rfl
theorem mm.J(h:mm w aY tg a b c d iv N)(i:∀g,g<w.heap.size->aY g=tg->bp g=tg):mm w bp tg a b c d iv N:=by
 cases N with
 |unit ch rs S=>obtain⟨p,e,K,y,A,D,F⟩:=h;exact⟨p,e,K,y,A,i p y.f.lt D,λg hF=>i g (y.Fu hF).2 (F g hF)⟩
 |voter rs S=>obtain⟨p,e,bm,M,H,j,A,D,L,F⟩:=h;exact⟨p,e,bm,M,H,j,A,i p j.lt D,i bm j.mp.lt L,λg hF=>i g (j.vM hF).2 (F g hF)⟩
def Dh{wc:World}{clk:Nat}{H:Value}{q:List Qz}{D:Value}(h:Qm w aY tn tb g gm clk iv ov l q)(y:Bl w W)(ho:wc.ownsRow W.heap.size 5 1 D n xs)(V:∀b,D.ownBlock=some b->bp b=4)(L:∀b,b<W.heap.size->bp b=gN aY w.heap.size 5 b)(M:bz (λg=>gN aY w.heap.size 5 g=tg) W wc)(a0:10<=tg)(Y:tg≠tn)(P:tg≠tb)(hp:mm wc bp tg a b c d H N):∃j,(∀b,b<w.heap.size->j b=aY b)/\Qm wc j tn tb g gm clk iv ov l q/\(∀b,D.ownBlock=some b->j b=tb)/\(∀x∈l,∀b,x.wU=some b->D.ownBlock≠some b)/\mm wc j tg a b c d H N/\bz (λb=>aY b=tg) w wc:=by
 have hs:∀b,D.ownBlock=some b->W.heap.size<=b:=λb A=>(ho.lt b A).1;have o1:bz (λb=>aY b=tg) w wc:=⟨M.os.H y.os,M.tape.H y.tape,M.output.H y.output,aF y.lt M.size,λi F hn=>by rw[M.block i (af F y.lt) λe=>hn (by rwa[fz _ _ _ _ F]at e),y.heap F]⟩
 have t2:∀b,b<w.heap.size->(λb=>if D.ownBlock=some b then tb else bp b) b=aY b:=λb A=>by simp only;rw[az λe=>by have:=hs b e;have:=y.lt;omega,L b (af A y.lt),fz _ _ _ _ A]
 refine⟨λb=>if D.ownBlock=some b then tb else bp b,t2,h.only o1 (λb _ e=>by rw[e];exact⟨Y,P⟩) t2,λb A=>by simp only;rw[aE A],λx hx b A e=>?_,hp.J λb A e=>?_,o1⟩
 .obtain⟨i,F,rfl⟩:=aV.1 hx;have Z:i<q.length:=by rw[<-h.len];exact F
  have:=((h.vs i l[i] q[i] (ah F) (ah Z)).wU A).1;have:=hs b e;have:=y.lt;omega
 show(if D.ownBlock=some b then tb else bp b)=tg;rw[az λe'=>by have:=V b e';omega];exact e
def AO{wc A w5:World}{i j:Nat->Nat}{y:Pn}{r:Rq}(Y:∀b,b<w.heap.size->i b=aY b)(s1:W.heap.size<=wc.heap.size)(s0:w.heap.size<=W.heap.size)(Z:mm wc i tg a b c d iv y)(k6:bz (λb=>aY b=tg) w wc)(D:Bl wc A)(M:∀b,b<A.heap.size->j b=i b)(q5:Q0 w5 j tn tb g iv q')(P:bz (λb=>i b=tn) A w5)(F:tn≠tg)(L:Pn.step a b c d r ds N y):(∀b,b<w.heap.size->j b=aY b)/\Pn.step a b c d r ds N y/\Nd w5 j tg tn tb g a b c d y q'/\bz (λb=>aY b=tg\/aY b=tn) w w5:=by
 have sx:=D.lt;refine⟨λb V=>by rw[M b C,Y b V],L,⟨iv,((Z.only (iD D) (λ_ _ e=>e.elim) gK).only P (λb _ e=>jP e F) M),q5⟩,?_⟩;refine((k6.L λ_ _ e=>.inl e).H (bz.E D)).andThen P λb V e=>.inr ?_;simp_all
section
variable{clk:Nat}{q:List Qz}
theorem UL{S:Nat->St}(hk:Kt w aY tg p a b c d ch rs S)(hq:Qm w aY tn tb g gm clk (.iface 233 (.agg #[.pointer (some ⟨p,0,none⟩)])) ov l q)(b3:10<=tg)(Z:tn≠tg)(aa:tb≠tg)(b4:tb≠tn)(b5:q.length<=1000)(v)(fr)(r)(h0:1000<=fr)(h1:fr<=1099)(hv:rI w v (iB r.kd [r.ln,r.nr,r.ep,r.pl,r.ct.kd,r.ct.cl,r.ct.ca] r.ct.val))(ok:Pj r (.unit ch rs S))(hl:(gY rs).length<=1000000000000):ib 161 #[.pointer (some ⟨g,0,none⟩),.int .i64 fr,v] w λen w'=>en=gS/\∃N' ds bp,(∀b,b<w.heap.size->bp b=aY b)/\Pn.step a b c d r ds (.unit ch rs S) N'/\Nd w' bp tg tn tb g a b c d N' (zQ q ⟨fr,r.ln,r.nr,ds⟩)/\bz (λb=>aY b=tg\/aY b=tn) w w':=by
 obtain⟨kd,ln,j,e,x,⟨ck,cl,ca,val⟩⟩:=r;obtain⟨ab,a3,F,a4⟩:=ok;simp only at ab a3 F a4 hv;have wf:=F.wf;obtain⟨HR,HQ,Hk⟩:=gV (rM v kd ln j e x ck cl ca val w hv ab F) hq hk;obtain⟨ac,a5,A⟩:=gV a4 a3 wf;have bm:Hid (val.length<=255):=F.v1;have hg:=hq.hp;have HG:=fu hg;have ad:=hq.tg;clear hv F hk hq a4 wf a3 hg;go_enter func161,ntmps161;go_wp2_with fail;refine HR.L ?_;rintro en w1⟨va,vc,rfl,a0,a6⟩;have a7:=(a0.heap (ae.1 HG).1).H HG;obtain⟨W,hW⟩:=dS (w1.alloc (zL kd ln j e x ck cl ca va val vc));have bX:=(Bl.refl w1).alloc (zL kd ln j e x ck cl ca va val vc);have M:=(bX.heap (ae.1 a7).1).H a7;have a1:=ao w1 (zL kd ln j e x ck cl ca va val vc);rw[hW]at bX M a1;have bW:=a0.H bX;have c0:W.cell? ⟨g,0,none⟩=some (.iface 233 (.agg #[.pointer (some ⟨p,0,none⟩)])):=ax W g 0 _ 127 (0,0) M;obtain⟨⟨q0,q1,q2,q3,q4,q5,q6,q7,q8⟩,_,lq⟩:=sB a1;have lg:=(ae.1 M).1;have HV:=fu (gL (base':=w.heap.size) ((iD bX).iJ a6 λ_ _ e=>e) λb hb=>(a6.lt b hb).1);obtain⟨R,hR⟩:∃R,R=uM a b c d ch (S rs.length) kd e x ck cl ca val:=⟨_,rfl⟩;have b6:R.1.ct.val.length<=255:=by rw[hR];exact LR Hk.TX kd e x ck cl ca val
 have HA:Hid (∀W',Bl W W'->_):=λW' D=>Gb (w:=W') (aY:=gN aY w.heap.size 5) (tg:=tg) (p:=p) (Hk.only (iD (bW.H D)) (λ_ _ e=>e.elim) λg hg=>fz _ _ _ _ hg) C kd ln j e x ck cl ca a5.1 va vc val (A e aq) (A x aq) (A ck aq) (A cl aq) (A ca aq) ((zK HV).bl D) (λb hb=>⟨af (HV.lt b hb).2 D.lt,by rw[ig _ _ _ _ (HV.lt b hb).1];omega⟩) ac a5.2 hl R hR b6;obtain⟨b7,ag,a8⟩:=gV hR hW M;obtain⟨a9,ai⟩:=fl a1 bW;have ak:w.heap.size<=w1.heap.size:=a0.lt;have al:g<w.heap.size:=(ae.1 HG).1;clear HR hW a1 M a7 a0 a6 bX bW ac a5 A hR;go_upto_region 2 with fail;rw[ag.o];clear ag;generalize w1.heap.size=P at*;have b8:=λW=>NR W p;go_cut[8,9]from 25 to 33 λy z wx=>∃ba bc i S' bp,y=dk ba (iB 101 [j,R.1.wh,R.1.ep,R.1.mark,R.1.ct.kd,R.1.ct.cl,R.1.ct.ca] R.1.ct.val).length bc/\z=.bool true/\Hid (wx.ownsRow W.heap.size 5 1 (dk ba (iB 101 [j,R.1.wh,R.1.ep,R.1.mark,R.1.ct.kd,R.1.ct.cl,R.1.ct.ca] R.1.ct.val).length bc) (iB 101 [j,R.1.wh,R.1.ep,R.1.mark,R.1.ct.kd,R.1.ct.cl,R.1.ct.ca] R.1.ct.val).length ((iB 101 [j,R.1.wh,R.1.ep,R.1.mark,R.1.ct.kd,R.1.ct.cl,R.1.ct.ca] R.1.ct.val).map B8))/\Hid (∀b,(dk ba (iB 101 [j,R.1.wh,R.1.ep,R.1.mark,R.1.ct.kd,R.1.ct.cl,R.1.ct.ca] R.1.ct.val).length bc).ownBlock=some b->bp b=4)/\Hid (∀b,b<W.heap.size->bp b=gN aY w.heap.size 5 b)/\Hid (pF rs S i S'/\S' i.length=R.2/\(gY i).length<=(gY rs).length+60)/\Hid (Kt wx bp tg p a b c d ch i S')/\Hid (bz (λg=>gN aY w.heap.size 5 g=tg) W wx)
 case first=>
  go_region_held3(λW=>W.cell? ⟨g,0,none⟩=some (.iface 233 (.agg #[.pointer (some ⟨p,0,none⟩)]))/\W.cell? ⟨P,0,none⟩=some (.int .i64 kd)/\W.cell? ⟨P,1,none⟩=some (.int .i64 ln)/\W.cell? ⟨P,2,none⟩=some (.int .i64 j)/\W.cell? ⟨P,3,none⟩=some (.int .i64 e)/\W.cell? ⟨P,4,none⟩=some (.int .i64 x)/\W.cell? ⟨P,5,none⟩=some (.int .i64 ck)/\W.cell? ⟨P,6,none⟩=some (.int .i64 cl)/\W.cell? ⟨P,7,none⟩=some (.int .i64 ca)/\W.cell? ⟨P,8,none⟩=some (lI va val vc)) (go_keep)
   (first|(go_at_call 333;refine(HA _ ?hb).L ?_;(case hb=>exact iZ);rintro en w2⟨ba,bc,i,S',bp,rfl,ho,am,a2,hM,hE,an,ap,oQ⟩;have e1:=(oQ.block g lg (by rw[fz _ _ _ _ al,ad];exact Z)).H a8;have V:=(oQ.block P lq (by rw[ig _ _ _ _ ak];omega)).H a9;have zg:=(ax w2 _ 0 _ 127 (0,0) e1);simp at zg;have z0:=(ax w2 _ 0 _ 100 (0,0) V);simp at z0;have z1:=(ax w2 _ 1 _ 100 (0,0) V);simp at z1;have z2:=(ax w2 _ 2 _ 100 (0,0) V);simp at z2;have z3:=(ax w2 _ 3 _ 100 (0,0) V);simp at z3;have z4:=(ax w2 _ 4 _ 100 (0,0) V);simp at z4;have z5:=(ax w2 _ 5 _ 100 (0,0) V);simp at z5;have z6:=(ax w2 _ 6 _ 100 (0,0) V);simp at z6;have z7:=(ax w2 _ 7 _ 100 (0,0) V);simp at z7;have z8:=(ax w2 _ 8 _ 100 (0,0) V);simp at z8;have l1:=(ae.1 e1).1;have l2:=(ae.1 V).1;have Y:=fu (And.intro ho (And.intro (And.intro am a2) (And.intro hM (And.intro hE (And.intro an (And.intro ap oQ))))));clear ho am a2 hM hE an ap oQ e1 V))
  all_goals(go_wp2_with fail;go_meet)
  all_goals exact⟨ba,bc,i,S',bp,rfl,rfl,Y.1,Y.2.1.1,Y.2.1.2,⟨Y.2.2.1,Y.2.2.2.1,Y.2.2.2.2.1⟩,Y.2.2.2.2.2.1,by first|exact Y.2.2.2.2.2.2|exact(bz.E (jo.drew)).H Y.2.2.2.2.2.2|exact(bz.E (jo.drewN _)).H Y.2.2.2.2.2.2⟩
 case rest=>
  obtain⟨ba,bc,i,S',bp,rfl,rfl,Ho,b9,ar,HM,bb,HO⟩:=hcut;have av:=(HO.block g lg (by rw[fz _ _ _ _ al,ad];exact Z)).H a8;have aw:=(HO.block P lq (by rw[ig _ _ _ _ ak];omega)).H a9;obtain⟨⟨p0,p1,p2,_⟩,_,bn⟩:=sB aw;have bo:=(ae.1 av).1;obtain⟨b0,k1,k2,k3,k4,k5,k6⟩:=Dh (c:=c) (d:=d) HQ ai Ho b9 ar HO b3 (Ne.symm Z) (Ne.symm aa) (a:=a) (b:=b) (N:= .unit ch i S') (show mm _ _ _ _ _ _ _ _ (Pn.unit ch i S')from⟨p,rfl,bb⟩);obtain⟨bd,be,bg,bi⟩:=ju (λW' (D:Bl wc W')=>IQ (k2.bl D (bp:=b0) gK) ⟨fr,ln,j,(iB 101 [j,R.1.wh,R.1.ep,R.1.mark,R.1.ct.kd,R.1.ct.cl,R.1.ct.ca] R.1.ct.val)⟩ ba bc b5 b4 ((iD D).iJ (gL Ho λ_ _=>jd) λ_ _ e=>e) k3 k4) k5 k6 k1;clear HA c0 q0 q1 q2 q3 q4 q5 q6 q7 q8 a9 a8 HV k1 k2 k3 k4 k5 k6 av aw;go_upto_region 4 with fail;go_region_with(go_at_call 212;refine(bd _ ?hb).L ?_;(case hb=>exact iZ);rintro en w5⟨rfl,b1,t5,q5,o5⟩;have HF:=lZ t5 q5 o5;clear t5 q5 o5);all_goals
   go_wp2;go_end0;refine⟨rfl,.unit ch i S',(iB 101 [j,R.1.wh,R.1.ep,R.1.mark,R.1.ct.kd,R.1.ct.cl,R.1.ct.ca] R.1.ct.val),b1,?_⟩;have b2:=b7.o;exact AO bi HO.size ai.lt be bg iZ HF.1 HF.2.1 HF.2.2 Z ⟨rfl,HM.1,qO b2 HM.2.1,HM.2.2,by rw[<-b2]⟩
theorem Uy(hk:Vt w aY tg p rs S)(hq:Qm w aY tn tb g gm clk (.iface 238 (.agg #[.pointer (some ⟨p,0,none⟩)])) ov l q)(b3:10<=tg)(Y:tn≠tg)(a9:tb≠tg)(b4:tb≠tn)(b5:q.length<=1000)(v)(fr)(r)(h0:1000<=fr)(h1:fr<=1099)(hv:rI w v (iB r.kd [r.ln,r.nr,r.ep,r.pl,r.ct.kd,r.ct.cl,r.ct.ca] r.ct.val))(ok:Pj r (.voter rs S))(hl:(gY rs).length<=1000000000000)(hn:rs.length<=1000000000000):ib 161 #[.pointer (some ⟨g,0,none⟩),.int .i64 fr,v] w λen w'=>en=gS/\∃N' ds bp,(∀b,b<w.heap.size->bp b=aY b)/\Pn.step a b c d r ds (.voter rs S) N'/\Nd w' bp tg tn tb g a b c d N' (zQ q ⟨fr,r.ln,r.nr,ds⟩)/\bz (λb=>aY b=tg\/aY b=tn) w w':=by
 obtain⟨kd,ln,j,e,x,⟨ck,cl,ca,val⟩⟩:=r;obtain⟨aa,a2,D,a3⟩:=ok;simp only at aa a2 D a3 hv;have wf:=D.wf;obtain⟨HR,HQ,Hk⟩:=gV (rM v kd ln j e x ck cl ca val w hv aa D) hq hk;obtain⟨ab,ac,a4⟩:=gV a3 a2 wf;have b6:Hid (val.length<=255):=D.v1;have hg:=hq.hp;have HG:=fu hg;have ad:=hq.tg;clear hv D hk hq a3 wf a2 hg;go_enter func161,ntmps161;go_wp2_with fail;refine HR.L ?_;rintro en w1⟨va,vc,rfl,Z,a5⟩;have a6:=(Z.heap (ae.1 HG).1).H HG;obtain⟨W,hW⟩:=dS (w1.alloc (zL kd ln j e x ck cl ca va val vc));have bX:=(Bl.refl w1).alloc (zL kd ln j e x ck cl ca va val vc);have F:=(bX.heap (ae.1 a6).1).H a6;have a0:=ao w1 (zL kd ln j e x ck cl ca va val vc);rw[hW]at bX F a0;have bW:=Z.H bX;have c0:W.cell? ⟨g,0,none⟩=some (.iface 238 (.agg #[.pointer (some ⟨p,0,none⟩)])):=ax W g 0 _ 127 (0,0) F;obtain⟨⟨q0,q1,q2,q3,q4,q5,q6,q7,q8⟩,_,lq⟩:=sB a0;have lg:=(ae.1 F).1;have HV:=fu (gL (base':=w.heap.size) ((iD bX).iJ a5 λ_ _ e=>e) λb hb=>(a5.lt b hb).1);obtain⟨R,hR⟩:∃R,R=nV (S rs.length) kd e x val:=⟨_,rfl⟩;have b7:R.1.val.length<=255:=by rw[hR];exact Mr Hk.TX kd e x val
 have HA:Hid (∀W',Bl W W'->_):=λW' A=>Di (w:=W') (aY:=gN aY w.heap.size 5) (tg:=tg) (p:=p) (Hk.only (iD (bW.H A)) (λ_ _ e=>e.elim) λg hg=>fz _ _ _ _ hg) C kd ln j e x ck cl ca ac va vc val (a4 e aq) (a4 x aq) hl hn ((zK HV).bl A) (λb hb=>⟨af (HV.lt b hb).2 A.lt,by rw[ig _ _ _ _ (HV.lt b hb).1];omega⟩) b6 ab R hR b7;obtain⟨b8,ag,a7⟩:=gV hR hW F;obtain⟨a8,ai⟩:=fl a0 bW;have ak:w.heap.size<=w1.heap.size:=Z.lt;have al:g<w.heap.size:=(ae.1 HG).1;clear HR hW a0 F a6 Z a5 bX bW ab ac a4 hR;go_upto_region 2 with fail;rw[ag.o];clear ag;generalize w1.heap.size=M at*;have b9:=λW=>NQ W p;go_cut[8,9]from 25 to 33 λy z wx=>∃ba bc i S' bp,y=dk ba (iB 102 [j,oG i,R.1.wh,R.1.pr,R.1.ba] R.1.val).length bc/\z=.bool true/\Hid (wx.ownsRow W.heap.size 5 1 (dk ba (iB 102 [j,oG i,R.1.wh,R.1.pr,R.1.ba] R.1.val).length bc) (iB 102 [j,oG i,R.1.wh,R.1.pr,R.1.ba] R.1.val).length ((iB 102 [j,oG i,R.1.wh,R.1.pr,R.1.ba] R.1.val).map B8))/\Hid (∀b,(dk ba (iB 102 [j,oG i,R.1.wh,R.1.pr,R.1.ba] R.1.val).length bc).ownBlock=some b->bp b=4)/\Hid (∀b,b<W.heap.size->bp b=gN aY w.heap.size 5 b)/\Hid (tS rs S i S'/\S' i.length=R.2/\(gY i).length<=(gY rs).length+300)/\Hid (Vt wx bp tg p i S')/\Hid (bz (λg=>gN aY w.heap.size 5 g=tg) W wx)
 case first=>
  go_region_held3(λW=>W.cell? ⟨g,0,none⟩=some (.iface 238 (.agg #[.pointer (some ⟨p,0,none⟩)]))/\W.cell? ⟨M,0,none⟩=some (.int .i64 kd)/\W.cell? ⟨M,1,none⟩=some (.int .i64 ln)/\W.cell? ⟨M,2,none⟩=some (.int .i64 j)/\W.cell? ⟨M,3,none⟩=some (.int .i64 e)/\W.cell? ⟨M,4,none⟩=some (.int .i64 x)/\W.cell? ⟨M,5,none⟩=some (.int .i64 ck)/\W.cell? ⟨M,6,none⟩=some (.int .i64 cl)/\W.cell? ⟨M,7,none⟩=some (.int .i64 ca)/\W.cell? ⟨M,8,none⟩=some (lI va val vc)) (go_keep)
   (first|(go_at_call 340;refine(HA _ ?hb).L ?_;(case hb=>exact iZ);rintro en w2⟨ba,bc,i,S',bp,rfl,ho,am,a1,hM,hE,an,ap,oQ⟩;have e1:=(oQ.block g lg (by rw[fz _ _ _ _ al,ad];exact Y)).H a7;have P:=(oQ.block M lq (by rw[ig _ _ _ _ ak];omega)).H a8;have zg:=(ax w2 _ 0 _ 127 (0,0) e1);simp at zg;have z0:=(ax w2 _ 0 _ 100 (0,0) P);simp at z0;have z1:=(ax w2 _ 1 _ 100 (0,0) P);simp at z1;have z2:=(ax w2 _ 2 _ 100 (0,0) P);simp at z2;have z3:=(ax w2 _ 3 _ 100 (0,0) P);simp at z3;have z4:=(ax w2 _ 4 _ 100 (0,0) P);simp at z4;have z5:=(ax w2 _ 5 _ 100 (0,0) P);simp at z5;have z6:=(ax w2 _ 6 _ 100 (0,0) P);simp at z6;have z7:=(ax w2 _ 7 _ 100 (0,0) P);simp at z7;have z8:=(ax w2 _ 8 _ 100 (0,0) P);simp at z8;have l1:=(ae.1 e1).1;have l2:=(ae.1 P).1;have V:=fu (And.intro ho (And.intro (And.intro am a1) (And.intro hM (And.intro hE (And.intro an (And.intro ap oQ))))));clear ho am a1 hM hE an ap oQ e1 P))
  all_goals(go_wp2_with fail;go_meet)
  all_goals exact⟨ba,bc,i,S',bp,rfl,rfl,V.1,V.2.1.1,V.2.1.2,⟨V.2.2.1,V.2.2.2.1,V.2.2.2.2.1⟩,V.2.2.2.2.2.1,by first|exact V.2.2.2.2.2.2|exact(bz.E (jo.drew)).H V.2.2.2.2.2.2|exact(bz.E (jo.drewN _)).H V.2.2.2.2.2.2⟩
 case rest=>
  obtain⟨ba,bc,i,S',bp,rfl,rfl,Ho,bb,ar,HM,bd,HO⟩:=hcut;have av:=(HO.block g lg (by rw[fz _ _ _ _ al,ad];exact Y)).H a7;have aw:=(HO.block M lq (by rw[ig _ _ _ _ ak];omega)).H a8;obtain⟨⟨p0,p1,p2,_⟩,_,bn⟩:=sB aw;have bo:=(ae.1 av).1;obtain⟨b0,k1,k2,k3,k4,k5,k6⟩:=Dh (c:=c) (d:=d) HQ ai Ho bb ar HO b3 (Ne.symm Y) (Ne.symm a9) (a:=a) (b:=b) (N:= .voter i S') (show mm _ _ _ _ _ _ _ _ (Pn.voter i S')from⟨p,rfl,bd⟩);obtain⟨be,bg,bi,bm⟩:=ju (λW' (A:Bl wc W')=>IQ (k2.bl A (bp:=b0) gK) ⟨fr,ln,j,(iB 102 [j,oG i,R.1.wh,R.1.pr,R.1.ba] R.1.val)⟩ ba bc b5 b4 ((iD A).iJ (gL Ho λ_ _=>jd) λ_ _ e=>e) k3 k4) k5 k6 k1;clear HA c0 q0 q1 q2 q3 q4 q5 q6 q7 q8 a8 a7 HV k1 k2 k3 k4 k5 k6 av aw;go_upto_region 4 with fail;go_region_with(go_at_call 212;refine(be _ ?hb).L ?_;(case hb=>exact iZ);rintro en w5⟨rfl,b1,t5,q5,o5⟩;have HF:=lZ t5 q5 o5;clear t5 q5 o5);all_goals
   go_wp2;go_end0;refine⟨rfl,.voter i S',(iB 102 [j,oG i,R.1.wh,R.1.pr,R.1.ba] R.1.val),b1,?_⟩;have b2:=b8.o;exact AO bm HO.size ai.lt bg bi iZ HF.1 HF.2.1 HF.2.2 Y ⟨HM.1,qO b2 HM.2.1,HM.2.2,by rw[<-b2]⟩
theorem NY(h:Nd w aY tg tn tb g a b c d N q)(j:10<=tg)(y:tn≠tg)(i:tb≠tg)(A:tb≠tn)(D:q.length<=1000)(v)(fr)(r)(L:1000<=fr)(M:fr<=1099)(P:rI w v (iB r.kd [r.ln,r.nr,r.ep,r.pl,r.ct.kd,r.ct.cl,r.ct.ca] r.ct.val))(V:Pj r N)(Y:N.iT.length<=1000000000000)(hn:N.B.length<=1000000000000):ib 161 #[O g,I fr,v] w λen w'=>en=gS/\∃Z ds bp,(∀b,b<w.heap.size->bp b=aY b)/\Pn.step a b c d r ds N Z/\Nd w' bp tg tn tb g a b c d Z (zQ q ⟨fr,r.ln,r.nr,ds⟩)/\bz (λb=>aY b=tg\/aY b=tn) w w':=by
 cases N with
 |unit ch rs S=>obtain⟨iv,⟨p,rfl,F⟩,gm,clk,ov,l,H⟩:=h;exact UL F H j y i A D v fr r L M P V Y
 |voter rs S=>obtain⟨iv,⟨p,rfl,F⟩,gm,clk,ov,l,H⟩:=h;exact Uy F H j y i A D v fr r L M P V Y hn
end
theorem GC(base p bm n)(E)(iT)(M)(vi)(t)(w)(h:Vs base w p bm n E iT M vi t)(A:iT.length<=1000000000000):ib 179 #[O p] w λe w'=>∃i,e=gG i/\Bl w w'/\w'.ownsRow w.heap.size 5 1 i iT.length (iT.map B8):=by
 have D:=h.lt;have H:=fu h;clear h;go_enter func179,ntmps179;go_wp2_with fail;refine(AG base p 1 _ iT _ D H.c1 H.gZ A).L ?_;rintro e w'⟨i,rfl,j,y⟩;obtain⟨F,P⟩:=fl j y;clear j y;go_wp2;go_ret;exact⟨_,rfl,F,P⟩
def G3(w)(p):(method 512 233 (Value.agg #[Value.pointer (some {block:=p,off:=0})]) "Image").run prog w=.ok (169,Value.pointer (some {block:=p,off:=0})) w:=rfl
def Gx(w)(p):(method 512 238 (Value.agg #[Value.pointer (some {block:=p,off:=0})]) "Image").run prog w=.ok (179,Value.pointer (some {block:=p,off:=0})) w:=rfl
section
variable{q:List Qz}
theorem FC(hN:Nd w aY tg tn tb g a b c d N q)(Y:N.iT.length<=1000000000000):ib 103 #[O g] w λy w'=>∃i j,y=gG (dk i N.iT.length j)/\Bl w w'/\w'.ownsRow w.heap.size 5 1 (dk i N.iT.length j) N.iT.length (N.iT.map B8):=by
 obtain⟨iv,Z,gm,clk,ov,l,H⟩:=hN;have L:=H.hp;have lg:=H.lg
 cases N with
 |unit ch rs S=>
  obtain⟨p,rfl,hk⟩:=Z;have D:=fu (NX hk Y);have c0:w.cell? (U g 0)=some (.iface 233 (.agg #[O p])):=ax w g 0 _ 127 (0,0) L;have hm:=λW=>G3 W p;show ib 103 #[O g] w λy w'=>∃i j,y=gG (dk i (gY rs).length j)/\Bl w w'/\w'.ownsRow w.heap.size 5 1 (dk i (gY rs).length j) (gY rs).length ((gY rs).map B8)
  clear hk L H;go_enter func103,ntmps103;go_wp2_with fail;refine D.L ?_;rintro y w'⟨v,rfl,F,A⟩;obtain⟨i,j,rfl⟩:=pR A;obtain⟨P,V⟩:=fl F A;clear D F A;go_wp2;go_ret;exact⟨i,j,rfl,P,V⟩
 |voter rs S=>
  obtain⟨p,rfl,bm,M,vi,hv,hw,_⟩:=Z;have D:=fu (GC 0 p bm rs.length (S rs.length) (gY rs) M vi 253 w hv Y);have c0:w.cell? (U g 0)=some (.iface 238 (.agg #[O p])):=ax w g 0 _ 127 (0,0) L;have hm:=λW=>Gx W p;show ib 103 #[O g] w λy w'=>∃i j,y=gG (dk i (gY rs).length j)/\Bl w w'/\w'.ownsRow w.heap.size 5 1 (dk i (gY rs).length j) (gY rs).length ((gY rs).map B8)
  clear hv hw L H;go_enter func103,ntmps103;go_wp2_with fail;refine D.L ?_;rintro y w'⟨v,rfl,F,A⟩;obtain⟨i,j,rfl⟩:=pR A;obtain⟨P,V⟩:=fl F A;clear D F A;go_wp2;go_ret;exact⟨i,j,rfl,P,V⟩
theorem xb(y:Nd w aY tg tn tb g a b c d N q)(L:N.iT.length<=1000000000000):ib 70 #[O g] w λA w'=>∃i j,A=gG (dk i N.iT.length j)/\Bl w w'/\w'.ownsRow w.heap.size 5 1 (dk i N.iT.length j) N.iT.length (N.iT.map B8):=by
 have D:=fu (FC y L);have V:=y.lt.1;clear y;go_enter func70,ntmps70;go_wp2_with fail;refine D.L ?_;rintro A w'⟨i,j,rfl,F,H⟩;obtain⟨M,P⟩:=fl F H;clear D F H;go_wp2;go_ret;exact⟨i,j,rfl,M,P⟩
theorem Mf(Y:Nd w aY tg tn tb g a b c d N q)(Z:q.length<=200)(y:tb≠tn)(h1:tn≠tg)(_h2:tb≠tg):ib 159 #[O g] w λF w'=>∃i j xs bp,F=gG (dk i (pC q).length j)/\(∀b,b<w.heap.size->bp b=aY b)/\wF w' (λb=>bp b=tb) (dk i (pC q).length j) (pC q) xs/\Nd w' bp tg tn tb g a b c d N []/\bz (λb=>aY b=tn) w w':=by
 obtain⟨iv,H,gm,clk,ov,l,A⟩:=Y;obtain⟨L,HP⟩:=fl (Ou A Z y) H;have lg:=A.lg;clear A H;go_enter func159,ntmps159;go_wp2_with fail;refine L.L ?_;rintro F w'⟨v,xs,bp,rfl,M,D,P,V⟩;obtain⟨i,j,rfl⟩:=ja D.gZ;have HF:=ow M D P V;clear M D P V L;go_wp2;go_ret;exact⟨i,j,xs,bp,rfl,HF.1,HF.2.1,⟨iv,HP.only HF.2.2.2 (λb _ e=>jP e h1) HF.1,HF.2.2.1⟩,HF.2.2.2⟩
theorem JB(y:Nd w aY tg tn tb g a b c d N q)(L:q.length<=200)(A:tb≠tn)(M:tn≠tg)(P:tb≠tg):ib 98 #[O g] w λD w'=>∃i j xs bp,D=gG (dk i (pC q).length j)/\(∀b,b<w.heap.size->bp b=aY b)/\wF w' (λb=>bp b=tb) (dk i (pC q).length j) (pC q) xs/\Nd w' bp tg tn tb g a b c d N []/\bz (λb=>aY b=tn) w w':=by
 have F:=fu (Mf y L A M P);have V:=y.lt.1;clear y;go_enter func98,ntmps98;go_wp2_with fail;refine F.L ?_;rintro D w'⟨i,j,xs,bp,rfl,H⟩;have HF:=fu H;clear H F;go_wp2;go_ret;exact⟨i,j,xs,bp,rfl,HF⟩
end
theorem N1(w)(g)(fr)(v)(Q:World->Prop)(h:ib 161 #[O g,I fr,v] w λi w'=>i=gS/\Q w'):ib 101 #[O g,I fr,v] w λi w'=>i=gS/\Q w':=by
 have H:=fu h;clear h;go_enter func101,ntmps101;go_wp2_with fail;refine gF H λw' j=>?_;have y:=fu j;clear H j;go_wp2;go_end0;exact⟨rfl,y⟩
def Pn.cut(k:Nat):Pn->Pn
 | .unit ch rs S=>.unit ch (rs.take k) S
 | .voter rs S=>.voter (rs.take k) S
def Pn.holds(N:Pn)(n k:Nat):Prop:=k<=N.B.length/\off N.B k<=n/\∀h:k<N.B.length,n<off N.B k+N.B[k].bytes.length
def Pn.of(a b c d u:Int):Pn->Prop
 | .unit ch rs S=>u<100/\yY a b c d u=(ch,0)/\zO a b c d ch rs S
 | .voter rs S=>100<=u/\u<100+c/\oS rs S
def LD(aY)(N M i)(h:N<=M)(g):gN aY N i g=gN (gN aY N i) M i g:=by
 unfold gN;split
 .rw[aE C]
 simp
def mm.two{N M:Nat}{P:Pn}(h:mm w (gN (gN aY N tg) M tg) tg a b c d iv P)(i:N<=M):mm w (gN aY N tg) tg a b c d iv P:=
 h.J λg _ e=>by rw[LD aY N M tg i];exact e
theorem uU(w):ib 85 #[] w λF w'=>∃gm,F=gG (.agg #[.map (some gm),OO])/\w.heap.size<=gm/\w'.heap[gm]?=some (.map #[] 0)/\Bl w w':=by
 have H:∀W:World,(Instr.makeMap 120 none).run prog W=.ok (.map (some W.heap.size)) (W.alloc (.map #[] 0)):=λW=>ij;have i:=ao w (gO #[.map none,OO] 123);obtain⟨W,j⟩:=dS (w.alloc (gO #[.map none,OO] 123));have D:Bl w W:=by rw[<-j];exact jo.alloc _
 rw[j]at i;have lW:=(ae.1 i).1;obtain⟨L,M,ln⟩:=N8 i;obtain⟨f0,f1⟩:=UU i 0 1;have P:Hid (W.heap.size=w.heap.size+1):=by unfold Hid;rw[<-j];simp
 obtain⟨V,Y⟩:=fl j D;clear j D i;go_enter func85,ntmps85;go_upto_region 1 with fail;rw[V.o];go_wp2;have Z:=((bz.refl (λb=>b=w.heap.size) W).setCell (U w.heap.size 0) (.inl rfl) (.map (some W.heap.size))).setCell (U w.heap.size 1) (.inl rfl) OO;have A:((W.setCell (U w.heap.size 0) (.map (some W.heap.size))).setCell (U w.heap.size 1) OO).heap.size=W.heap.size:=by simp[World.setCell]
 have y:=ao ((W.setCell (U w.heap.size 0) (.map (some W.heap.size))).setCell (U w.heap.size 1) OO) (.map #[] 0);rw[A]at y;exact aG (v:= .agg #[.map (some W.heap.size),OO]) (by simp[results,results85,go_sem,L,M,ln]) rfl ⟨_,rfl,gI P.o,y,(Y.B Z λn e=>C).alloc _⟩
section
variable{u:Int}
theorem LB{S:Nat->St}(y:zO a b c d ch rs S)(i:yY a b c d u=(ch,0))(ad)(n cc)(Y:(gY rs).length<=1000000000000)(A:EN w ad n cc rs)(aY)(tg):ib 82 #[.agg #[I a,I b,I c,I d],I u,dk ad n cc] w λe w'=>∃k p,e=gG (.tuple #[.iface 233 (.agg #[O p]),I 0])/\(Pn.unit ch rs S).holds n k/\Bl w w'/\mm w' (gN aY w.heap.size tg) tg a b c d (.iface 233 (.agg #[O p])) ((Pn.unit ch rs S).cut k):=by
 have j:=(Bl.refl w).alloc (qh a b c d);obtain⟨D,Z⟩:=fl (PK (w:=w.alloc (qh a b c d)) y u i ad n cc Y (A.bl j) (gN aY w.heap.size tg) tg) j;clear j A y;go_enter func82,ntmps82;go_wp2_with fail;refine D.L ?_;rintro e w1⟨k,p,rfl,F,H,L,hp,P,V⟩;obtain⟨HB,HK⟩:=fl (Z.H P) V;have HH:Hid ((Pn.unit ch rs S).holds n k):=⟨F,H,L⟩;clear D P V F H L hp;go_wp2;go_ret2;exact⟨k,p,rfl,HH,HB,mm.two (M:=(w.alloc (qh a b c d)).heap.size) (show mm _ _ _ _ _ _ _ _ ((Pn.unit ch rs S).cut k)from⟨p,rfl,HK⟩) aq⟩
def Q3(i:oS rs S)(ad)(n cc)(H:(gY rs).length<=1000000000000)(P:EN w ad n cc rs)(aY)(tg):ib 147 #[dk ad n cc] w λA w'=>∃k p,A=gG (.tuple #[O p,I 0])/\(Pn.voter rs S).holds n k/\Bl w w'/\Vt w' (gN aY w.heap.size tg) tg p (rs.take k) S:=by
 refine(La ad n cc rs S w i H P).L ?_;rintro A w'⟨k,p,bm,M,V,rfl,Y,Z,h3,h4,h5,D,h7⟩;have F:(rs.take k).length=k:=by rw[bH];omega
 have y:oS (rs.take k) S:=⟨i.zero,λj hj=>by
  rw[F]at hj
  have:=i.step j C
  simpa  using this,λr hr=>i.ok r (cQ hr)⟩
 refine⟨k,p,rfl,⟨Y,Z,h3⟩,h7,bm,M,V,?_,y,ig _ _ _ _ h4,ig _ _ _ _ h5,λg hF=>ig _ _ _ _ (D.vM hF).1⟩;rw[F];exact D.UP
theorem Jw(j:oS rs S)(ad)(n cc)(L:(gY rs).length<=1000000000000)(y:EN w ad n cc rs)(aY)(tg):ib 84 #[.agg #[I a,I b,I c,I d],I u,dk ad n cc] w λe w'=>∃k p,e=gG (.tuple #[.iface 238 (.agg #[O p]),I 0])/\(Pn.voter rs S).holds n k/\Bl w w'/\mm w' (gN aY w.heap.size tg) tg a b c d (.iface 238 (.agg #[O p])) ((Pn.voter rs S).cut k):=by
 have i:=(Bl.refl w).alloc (qh a b c d);obtain⟨A,P⟩:=fl (Q3 (w:=w.alloc (qh a b c d)) j ad n cc L (y.bl i) (gN aY w.heap.size tg) tg) i;clear i y j;go_enter func84,ntmps84;go_wp2_with fail;refine A.L ?_;rintro e w1⟨k,p,rfl,D,F,H⟩;obtain⟨V,Y,Z⟩:=gV (P.H F) H D;clear A F H D;go_wp2;go_ret2;exact⟨k,p,rfl,Z,V,mm.two (M:=(w.alloc (qh a b c d)).heap.size) (show mm _ _ _ _ _ _ _ _ ((Pn.voter rs S).cut k)from⟨p,rfl,Y⟩) aq⟩
def Dm(w)(i:u<100):Calls prog 83 #[.agg #[I a,I b,I c,I d],I u] w λe w'=>e=gG (.bool false)/\Bl w w':=by
 go_wp2;go_ret;exact⟨rfl,(jo.alloc (qh a b c d))⟩
def DG(w)(j:100<=u)(y:u<100+c)(i:c<=9):Calls prog 83 #[.agg #[I a,I b,I c,I d],I u] w λe w'=>e=gG (.bool true)/\Bl w w':=by
 go_wp2;go_ret;exact⟨rfl,(jo.alloc (qh a b c d))⟩
def EF{F j:World}(M:Bl w W)(y:Bl W j)(P:Bl W F)(A:Bl F j)(l3:F.heap.size<=gm)(D:j.heap[gm]?=some (.map #[] 0))(Y:mm F (gN aY w.heap.size tg) tg a b c d iv N):w.heap.size<=j.heap.size/\(∀b,b<w.heap.size->(λb=>if b=j.heap.size\/b=gm then tn else gN aY w.heap.size tg b) b=aY b)/\Nd (j.alloc (gO #[iv,.map (some gm),OO] 127)) (λb=>if b=j.heap.size\/b=gm then tn else gN aY w.heap.size tg b) tg tn tb j.heap.size a b c d N []/\Bl w (j.alloc (gO #[iv,.map (some gm),OO] 127)):=by
 have s1:=M.lt;have s3:=P.lt;have V:=(Bl.refl j).alloc (gO #[iv,.map (some gm),OO] 127);have Z:=(ae.1 D).1;refine⟨(M.H y).lt,λb L=>by show(if b=j.heap.size\/b=gm then tn else gN aY w.heap.size tg b)=aY b;rw[az C,fz _ _ _ _ L],⟨iv,(Y.J λb L e=>?_).only (iD (A.H V)) (λ_ _ e=>e.elim) gK,gm,0,OO,[],ao j _,aq,(V.heap Z).H D,aq,mC,λb L=>mX L,rfl,λi e z he=>lY he,List.Pairwise.nil,List.Pairwise.nil⟩,(M.H y).H V⟩;rw[az C];exact e
theorem TG{S:Nat->St}(hw:zO a b c d ch rs S)(a0:yY a b c d u=(ch,0))(ad)(n cc)(hl:(gY rs).length<=1000000000000)(hc:EN w ad n cc rs)(aY)(tg)(hf:mI a b c d=true)(hu:u<100):ib 44 #[.agg #[I a,I b,I c,I d],I u,dk ad n cc] w λe w'=>∃k p g gm,e=gG (.tuple #[O g,I 0])/\(Pn.unit ch rs S).holds n k/\w'.heap[g]?=some (gO #[.iface 233 (.agg #[O p]),.map (some gm),OO] 125 (0,0))/\w'.heap[gm]?=some (.map #[] 0)/\w.heap.size<=gm/\Bl w w'/\∃F,Bl w F/\Bl F w'/\F.heap.size<=gm/\mm F (gN aY w.heap.size tg) tg a b c d (.iface 233 (.agg #[O p])) ((Pn.unit ch rs S).cut k):=by
 have HV:=fu (mw a b c d);rw[hf]at HV;have hA:=(Bl.refl w).alloc (qh a b c d);have hN:=ao w (qh a b c d);obtain⟨HA,HN,HC⟩:=gV hA hN hc;obtain⟨Hw,Hl⟩:=fl hw hl;clear hA hN hc hw hl;go_enter func44,ntmps44;go_wp2_with fail;refine gF (HV _) λw1 L=>?_;have P:=(L.heap aq).H HN;obtain⟨c0,c1,c2,c3,l1⟩:=qP P;have V:=fu (HA.H L);clear L P HN HA HV;go_wp2_with fail;refine gF (Dm w1 hu) λw2 A=>?_;obtain⟨d0,d1,d2,d3⟩:=A.J l1 c0 c1 c2 c3;have l2:=af l1 A.lt;have D:=fu (V.H A);have HO:=fu (LB (w:=w2) Hw a0 ad n cc Hl (HC.bl D) (gN aY w.heap.size tg) tg);clear A c0 c1 c2 c3 V;go_wp2_with fail;refine HO.L ?_;rintro e F⟨k,p,rfl,hh,Y,Z⟩;obtain⟨HQ,M,a1,HH⟩:=ju (uU F) (D.H Y) (mm.two Z D.lt) hh;clear HO Y Z hh d0 d1 d2 d3 D;go_wp2_with(go_at_call 85;refine HQ.L ?_;rintro en w4⟨gm,rfl,i,j,y⟩;have H4:=lZ i j y;clear i j y);go_ret2;obtain⟨i,j,y⟩:=H4.o;have bX:=(Bl.refl w4).alloc (gO #[.iface 233 (.agg #[O p]),.map (some gm),OO] 125);exact⟨k,p,_,gm,rfl,HH,ao w4 _,(bX.heap (ae.1 j).1).H j,aF M.lt i,(M.H y).H bX,F,M,y.H bX,i,a1⟩
theorem PB{S:Nat->St}(V:zO a b c d ch rs S)(M:yY a b c d u=(ch,0))(ad)(n cc)(hl:(gY rs).length<=1000000000000)(Y:EN w ad n cc rs)(aY:Nat->Nat)(tg tn tb)(hf:mI a b c d=true)(hu:u<100):ib 17 #[.agg #[I a,I b,I c,I d],I u,dk ad n cc] w λe w'=>∃k g bp,e=gG (.tuple #[O g,I 0])/\(Pn.unit ch rs S).holds n k/\w.heap.size<=g/\(∀b,b<w.heap.size->bp b=aY b)/\Nd w' bp tg tn tb g a b c d ((Pn.unit ch rs S).cut k) []/\Bl w w':=by
 have P:=(Bl.refl w).alloc (qh a b c d);obtain⟨Z,HA⟩:=fl (TG (w:=w.alloc (qh a b c d)) V M ad n cc hl (Y.bl P) (gN aY w.heap.size tg) tg hf hu) P;clear P Y V;go_enter func17,ntmps17;go_wp2_with fail;refine Z.L ?_;rintro e w5⟨k,p,g,gm,rfl,F,hg,j,D,y,w3,A,i,H,L⟩;obtain⟨c0,c1,c2,lg⟩:=Ao hg;have HF:=fu (And.intro F (And.intro j (And.intro D (And.intro y (And.intro A (And.intro i (And.intro H L)))))));clear Z F hg j D y A i H L;go_wp2;go_ret2;obtain⟨F,j,D,y,A,i,H,L⟩:=HF.o;exact⟨k,_,_,rfl,F,EF HA y A i H j (mm.two L aq)⟩
theorem TE(hw:oS rs S)(a0:100<=u)(a1:u<100+c)(a2:c<=9)(ad)(n cc)(hl:(gY rs).length<=1000000000000)(hc:EN w ad n cc rs)(aY)(tg)(hf:mI a b c d=true):ib 44 #[.agg #[I a,I b,I c,I d],I u,dk ad n cc] w λe w'=>∃k p g gm,e=gG (.tuple #[O g,I 0])/\(Pn.voter rs S).holds n k/\w'.heap[g]?=some (gO #[.iface 238 (.agg #[O p]),.map (some gm),OO] 125 (0,0))/\w'.heap[gm]?=some (.map #[] 0)/\w.heap.size<=gm/\Bl w w'/\∃F,Bl w F/\Bl F w'/\F.heap.size<=gm/\mm F (gN aY w.heap.size tg) tg a b c d (.iface 238 (.agg #[O p])) ((Pn.voter rs S).cut k):=by
 have HV:=fu (mw a b c d);rw[hf]at HV;have hA:=(Bl.refl w).alloc (qh a b c d);have hN:=ao w (qh a b c d);obtain⟨HA,HN,HC⟩:=gV hA hN hc;obtain⟨Hw,Hl⟩:=fl hw hl;clear hA hN hc hw hl;go_enter func44,ntmps44;go_wp2_with fail;refine gF (HV _) λw1 L=>?_;have P:=(L.heap aq).H HN;obtain⟨c0,c1,c2,c3,l1⟩:=qP P;have V:=fu (HA.H L);clear L P HN HA HV;go_wp2_with fail;refine gF (DG w1 a0 a1 a2) λw2 A=>?_;obtain⟨d0,d1,d2,d3⟩:=A.J l1 c0 c1 c2 c3;have l2:=af l1 A.lt;have D:=fu (V.H A);have HO:=fu (Jw (w:=w2) (a:=a) (b:=b) (c:=c) (d:=d) (u:=u) Hw ad n cc Hl (HC.bl D) (gN aY w.heap.size tg) tg);clear A c0 c1 c2 c3 V;go_wp2_with fail;refine HO.L ?_;rintro e F⟨k,p,rfl,hh,Y,Z⟩;obtain⟨HQ,M,a3,HH⟩:=ju (uU F) (D.H Y) (mm.two Z D.lt) hh;clear HO Y Z hh d0 d1 d2 d3 D;go_wp2_with(go_at_call 85;refine HQ.L ?_;rintro en w4⟨gm,rfl,i,j,y⟩;have H4:=lZ i j y;clear i j y);go_ret2;obtain⟨i,j,y⟩:=H4.o;have bX:=(Bl.refl w4).alloc (gO #[.iface 238 (.agg #[O p]),.map (some gm),OO] 125);exact⟨k,p,_,gm,rfl,HH,ao w4 _,(bX.heap (ae.1 j).1).H j,aF M.lt i,(M.H y).H bX,F,M,y.H bX,i,a3⟩
theorem Rm(Z:oS rs S)(M:100<=u)(P:u<100+c)(V:c<=9)(ad)(n cc)(hl:(gY rs).length<=1000000000000)(hc:EN w ad n cc rs)(aY:Nat->Nat)(tg tn tb)(hf:mI a b c d=true):ib 17 #[.agg #[I a,I b,I c,I d],I u,dk ad n cc] w λe w'=>∃k g bp,e=gG (.tuple #[O g,I 0])/\(Pn.voter rs S).holds n k/\w.heap.size<=g/\(∀b,b<w.heap.size->bp b=aY b)/\Nd w' bp tg tn tb g a b c d ((Pn.voter rs S).cut k) []/\Bl w w':=by
 have Y:=(Bl.refl w).alloc (qh a b c d);obtain⟨HO,HA⟩:=fl (TE (w:=w.alloc (qh a b c d)) Z M P V ad n cc hl (hc.bl Y) (gN aY w.heap.size tg) tg hf) Y;clear Y hc Z;go_enter func17,ntmps17;go_wp2_with fail;refine HO.L ?_;rintro e w5⟨k,p,g,gm,rfl,F,hg,j,D,y,w3,A,i,H,L⟩;obtain⟨c0,c1,c2,lg⟩:=Ao hg;have HF:=fu (And.intro F (And.intro j (And.intro D (And.intro y (And.intro A (And.intro i (And.intro H L)))))));clear HO F hg j D y A i H L;go_wp2;go_ret2;obtain⟨F,j,D,y,A,i,H,L⟩:=HF.o;exact⟨k,_,_,rfl,F,EF HA y A i H j (mm.two L aq)⟩
theorem uG(i:N.of a b c d u)(ad)(n cc)(A:N.iT.length<=1000000000000)(D:EN w ad n cc N.B)(aY:Nat->Nat)(tg tn tb)(j:mI a b c d=true):ib 17 #[.agg #[I a,I b,I c,I d],I u,dk ad n cc] w λe w'=>∃k g bp,e=gG (.tuple #[O g,I 0])/\N.holds n k/\w.heap.size<=g/\(∀b,b<w.heap.size->bp b=aY b)/\Nd w' bp tg tn tb g a b c d (N.cut k) []/\Bl w w':=by
 cases N with
 |unit ch rs S=>exact PB i.2.2 i.2.1 ad n cc A D aY tg tn tb j i.1
 |voter rs S=>
  have y:c<=9:=by simp[mI]at j;omega
  exact Rm i.2.2 i.1 i.2.1 y ad n cc A D aY tg tn tb j
end
structure Qn(α:Type) where
 a:Rq
 nodes:List Int
 mP:Bool
 B:List (Int×α)
def Rq.zero:Rq:=⟨0,0,0,0,0,no⟩
def Qn.zero{α:Type}:Qn α:=⟨Rq.zero,[],false,[]⟩
def Qn.new{α:Type}(nodes:List Int)(r:Rq):Qn α:=⟨r,nodes,true,[]⟩
def Qn.J{α:Type}(q:Qn α):Bool:= !q.nodes.isEmpty
def Qn.M{α:Type}(q:Qn α)(fr:Int):Bool:=q.B.any λz=>z.1==fr
def Qn.E{α:Type}(q:Qn α)(nr fr:Int):Bool:=(q.a.nr==nr)&&q.nodes.contains fr&& !q.M fr
def Qn.add{α:Type}(q:Qn α)(fr:Int)(a:α):Qn α:={q with B:=q.B++[(fr,a)]}
def Qn.count{α:Type}(q:Qn α)(such:α->Bool):Nat:=(q.B.filter λz=>such z.2).length
def Qn.iE{α:Type}(q:Qn α):List (Int×Rq):=if q.mP then(q.nodes.filter λnd=> !q.M nd).map λnd=>(nd,q.a)else []
def Qn.jt{α:Type}(q:Qn α):Qn α:={q with mP:=false}
structure Rz where
 wh:Int
 ad:Int
 val:List Int
def Rz.zero:Rz:=⟨0,0,[]⟩
structure jf where
 kind:Int
 gH:Nat
 im:Nat
 iS:Int
 unit:Int
 gZ:Ct
 iR:Ct
 iA:Nat
 e:Rz
 q:Qn An
structure Mv where
 c:Int
 uk:Bool
 E:List (Int×Vo)
 jB:Int
 value:List Int
 b:Qn An
 a:Qn Vo
def Mv.zero:Mv:=⟨0,false,[],0,[],Qn.zero,Qn.zero⟩
structure Cx where
 n:Nat
 m:Nat
 vo:Nat
 ce:Nat
 id:Int
 c:Int
 lay:List (List Int)
 res:List Rz
 dd:List jf
 iu:Int
 jg:Qn An
 kH:Int
 jB:Int
 mv:Mv
 wb:Bool
 wl:Bool
def jC(n m:Nat):List (List Int):=(List.range n).map λk=>(List.range m).map λi=>((k*m+i:Nat):Int)
def kz(lay:List (List Int)):List Int:=lay.flatten
def iL:List Int->List Int->List Int×List Int
 |[],d=>([],d)
 |u::us,d=>match d with
  |[]=>iL us []
  |x::d'=>if x=u then(u::(iL us d').1,(iL us d').2)else iL us (x::d')
def within:List (List Int)->List Int->Option (List (List Int))
 |[],d=>if d=[]then some []else none
 |ch::rest,d=>if(iL ch d).1=[]then none else(within rest (iL ch d).2).map ((iL ch d).1::·)
def uS(lay:List (List Int))(out:Int):Bool:=(lay.any λch=>ch.contains out)&& !(lay.any λch=>ch.contains out&&ch.length==1)
def uI(lay:List (List Int))(out:Int):List (List Int):=lay.map λch=>ch.filter λu=>out==-1||u !=out
def qv(lay:List (List Int))(lE:List Int):Bool:=lay.all λch=>ch.any λu=>lE.contains u
def qo(lay:List (List Int))(out:Int)(lE:List Int):Option (List (List Int)):=
 if(out==-1||uS lay out)&&qv (uI lay out) lE then some (uI lay out)else none
def tG:List Int->List Int->Bool
 |_,[]=>false
 |[],_::_=>true
 |x::xs,y::ys=>if x<y then true else if y<x then false else tG xs ys
def rT(b:Int×List Int)(v:Vo):Int×List Int:=if b.1<v.ba||(v.ba==b.1&&tG b.2 v.val)then(v.ba,v.val)else b
def jF(l:List (Int×Vo)):Int×List Int:=l.foldl (λb z=>rT b z.2) (0,[])
def ki(l:List (Int×Vo)):Int:=l.foldl (λb z=>max b z.2.pr) 0
def sr(l:List (Int×Vo))(oI:Nat):Int×List Int:=jF (l.filter λz=>decide (oI<=(l.filter λy=>y.2.ba==z.2.ba).length))
def oB(l:List (Int×Vo)):List (Int×Vo):=l.filter λz=>z.2.wh==1
def Co(b:Int)(l:List (Int×Vo)):List (Int×Vo):=l.filter λz=>decide (z.2.ba<=b)
namespace Cx
def put(X:Cx)(c:jf):Cx:={X with dd:=X.dd.map λd=>if d.gH=c.gH then c else d}
def qF(X:Cx)(c:jf)(nodes:List Int)(kd pl:Int)(t:Ct):Cx:=
 ({X with iu:=X.iu+1}).put {c with q:=Qn.new nodes ⟨kd,c.im,X.iu+1,X.c,pl,t⟩}
def chain(X:Cx)(a:Int):List Int:=X.lay.getD (a%X.n).toNat []
def oH(X:Cx)(c:jf):Cx:=X.qF c (X.chain c.iS) 3 c.iS no
def ku(X:Cx)(c:jf):Cx:=X.qF c [(X.chain c.iS).getD c.iA 0] 2 c.iS c.iR
def oO(X:Cx)(c:jf)(mark:Int)(e:Rz):Cx:=X.qF {c with e:=e} (kz X.lay) 4 mark no
def fin(X:Cx)(c:jf)(r:Rz):Cx:={X with res:=X.res.set c.gH r,dd:=X.dd.filter λd=>d.gH !=c.gH}
def oz(t:Ct):Rz:=⟨t.kd,0,t.val⟩
def iJ(c:jf)(t:Ct):Bool:=t.cl==c.gZ.cl&&t.ca==c.gZ.ca
def lV(c:jf):Bool:=c.kind==1&& !c.q.J
def dO(X:Cx)(c:jf):Cx:=
 if c.kind=1\/c.kind=3 then X.ku {c with iR:=c.gZ,iA:=0}
 else if c.kind=2 then X.oH c
 else if c.kind=4 then X.oO c c.iS ⟨1,0,[]⟩else X
def jO(X:Cx)(c:jf):Cx:=
 if c.iA+1<(X.chain c.iS).length then X.ku {c with iA:=c.iA+1}
 else if c.kind=1 then X.fin c ⟨1,c.iS,[]⟩else X.fin c (oz c.iR)
def oe(X:Cx)(c:jf)(t:Ct):Cx:=
 if c.kind=1/\iJ c t=false then X.put {c with q:=Qn.zero}else X.jO {c with iR:=t}
def kU(X:Cx)(c:jf)(A:An):Cx:=
 if(iJ c A.ct||(decide (0<c.iA)&&iJ c c.iR))then
  (if c.kind=1 then X.oO c A.mark ⟨1,c.iS,[]⟩else X.oO c A.mark ⟨9,0,[]⟩)
 else(if c.kind=1 then X.put {c with q:=Qn.zero}else X.oO c A.mark ⟨4,0,[]⟩)
def mN(X:Cx)(c:jf)(A:An):Cx:=
 if A.wh=1 then X.jO c else if A.wh=2 then X.oe c A.ct else if A.wh=4 then X.kU c A else X.put c
def lj(X:Cx)(c:jf)(A:An):Cx:=
 if A.wh=4 then X.oO c A.mark ⟨4,0,[]⟩
 else if c.q.B.length<c.q.nodes.length then X.put c
 else if c.q.count (λa=>a.wh==2)=c.q.nodes.length then X.fin c (oz (((c.q.B.find? λz=>z.1==c.q.nodes.headD 0).map λz=>z.2.ct).getD no))
 else X.fin c ⟨3,0,[]⟩
def ld(X:Cx)(c:jf)(A:An):Cx:=
 if c.q.a.kd=3 then X.lj c A else if c.q.a.kd=2 then X.mN c A
 else if c.q.a.kd=4 then(if c.q.count (λa=>a.wh==1)=c.q.nodes.length then X.fin c c.e else X.put c)else X.put c
def jN(X:Cx):List Int:=(X.dd.filter λc=>c.kind==5).map λc=>c.unit
def iO(X:Cx):Bool:= !X.jN.isEmpty
def oI(X:Cx):Nat:=X.vo/2+1
def vQ(X:Cx):List Int:=(List.range X.vo).map λ(i:Nat)=>100+(i:Int)
def kD(X:Cx)(kd pl:Int)(val:List Int):Cx:=
 {X with iu:=X.iu+1,mv:={X.mv with a:=Qn.new X.vQ ⟨kd,9,X.iu+1,X.mv.c,pl,⟨0,0,0,val⟩⟩}}
def jn(X:Cx):Cx:=
 ({X with mv:={Mv.zero with c:=max (X.c+1) (X.kH-1),uk:=decide (max (X.c+1) (X.kH-1)<X.kH)}}).kD 7 0 []
def jR(X:Cx):Cx:=
 {X with iu:=X.iu+1,jg:=Qn.new (kz X.lay) ⟨1,8,X.iu+1,X.c,0,no⟩}
def iz(X:Cx)(e:Int):Cx:=
 if e<=X.c\/e<=X.kH then X
 else if X.mv.c<e then({X with kH:=e}).jn else{X with kH:=e}
def rL(X:Cx):Cx:=
 {X with iu:=X.iu+1,mv:={X.mv with b:=Qn.new (kz X.lay) ⟨1,9,X.iu+1,X.mv.c,0,no⟩}}
def jH(X:Cx):List Int:=X.mv.b.B.map λz=>z.1
def yZ(X:Cx)(v:List Int):Bool:=match within X.lay v with
 |none=>false
 |some l=>qv l X.jH
def nH(X:Cx)(l:List (Int×Vo)):List (Int×Vo):=l.filter λz=> !(decide (0<z.2.ba)&& !X.yZ z.2.val)
def next(X:Cx):Option (List (List Int)):=
 (if X.jN.isEmpty then [-1]else X.jN).findSome? λout=>qo X.lay out X.jH
def kB(X:Cx):Option (List Int):=
 if 0<(jF (X.nH X.mv.E)).1 then some (jF (X.nH X.mv.E)).2 else X.next.map kz
def jD(X:Cx)(p:Int):Int:=(max p X.jB/100+1)*100+X.id-1000
def kL(X:Cx):Cx:=match X.kB with
 |none=>X
 |some _=>({X with jB:=X.jD (ki X.mv.E),mv:={X.mv with jB:=X.jD (ki X.mv.E)}}).kD 5 (X.jD (ki X.mv.E)) []
def kC(X:Cx):Cx:=
 if !X.iO&& !X.wl then{X with wb:=true}
 else
  let Y:={X with wb:=true,mv:={X.mv with E:=X.mv.a.B}}
  (if Y.mv.b.J then Y else Y.rL).kL
def kF(X:Cx)(c:jf):Cx:=
 if(X.lay.getD (c.unit/X.m).toNat []).contains c.unit then(if(X.lay.getD (c.unit/X.m).toNat []).length=1 then X.fin c ⟨6,0,[]⟩else X)else X.fin c ⟨1,0,[]⟩
def lT(X:Cx)(c:jf):Cx:=if c.kind=5 then X.kF c else if lV c then X else X.dO c
def nL(X:Cx)(v:List Int):Cx:=match within X.lay v with
 |none=>{X with mv:=Mv.zero}
 |some l=>
  let Y:={X with c:=X.mv.c,lay:=l,mv:=Mv.zero,wb:=false,wl:=false}
  let Z:=Y.dd.foldl lT Y
  if Z.iO||decide (Z.c<Z.kH)then Z.jn else Z
def ko(X:Cx):Cx:=
 let a:=oB X.mv.a.B
 let v:=jF (X.nH a)
 if(Co v.1 a).length<X.oI then X
 else
  let val:=if v.1=0 then X.kB.getD []else v.2
  ({X with mv:={X.mv with value:=val}}).kD 6 X.mv.jB val
def lU(X:Cx):Cx:=if X.oI<=(oB X.mv.a.B).length then X.nL X.mv.value else X
def lF(X:Cx):Cx:=
 let b:=sr X.mv.a.B X.oI
 if 0<b.1 then X.nL b.2
 else if X.mv.a.B.length<X.oI then X
 else if X.mv.uk then X.nL (jF X.mv.a.B).2
 else X.kC
def lE(X:Cx):Cx:=
 if X.mv.a.a.kd=7 then X.kL else if X.mv.a.a.kd=5 then X.ko else X
def pT(X:Cx)(fr nr lt:Int)(v:Vo):Cx:=
 if X.mv.a.E nr fr then
  let Y:=X.iz lt
  if Y.mv.a.E nr fr then
   let Z:={Y with mv:={Y.mv with a:=Y.mv.a.add fr v,E:=if Y.mv.a.a.kd=7/\Y.mv.E≠[]then Y.mv.a.B++[(fr,v)]else Y.mv.E}}
   if Z.mv.a.a.kd=7 then Z.lF else if Z.mv.a.a.kd=5 then Z.ko else if Z.mv.a.a.kd=6 then Z.lU else Z
  else Y
 else X
def jA(X:Cx)(fr nr:Int)(A:An):Cx:=
 if X.jg.E nr fr then(if A.wh=5 then X.iz A.ep else{X with jg:=X.jg.add fr A})
 else if X.mv.b.E nr fr then(if A.wh=5 then X.iz A.ep else({X with mv:={X.mv with b:=X.mv.b.add fr A}}).lE)
 else match X.dd.find? λc=>c.q.E nr fr with
  |none=>X
  |some c=>if A.wh=5 then X.iz A.ep else(X.put {c with q:=c.q.add fr A}).ld {c with q:=c.q.add fr A} A
def jl(X:Cx):List Nat:=(X.dd.filter lV).map λc=>c.gH
def kR(X:Cx):Cx:=
 let Y:={X with wl:=X.wb,kH:=0,mv:=Mv.zero,dd:=X.dd.map λ(c:jf)=>{c with q:={c.q with mP:=true}}}
 let Z:=if Y.jl.length<Y.dd.length then Y.jR else Y
 if Z.iO then Z.jn else Z
def iE(X:Cx):List (Int×Rq):=(X.dd.flatMap λc=>c.q.iE)++X.jg.iE++X.mv.b.iE++X.mv.a.iE
def jt(X:Cx):Cx:={X with dd:=X.dd.map λ(c:jf)=>{c with q:=c.q.jt},jg:=X.jg.jt,mv:={X.mv with b:=X.mv.b.jt,a:=X.mv.a.jt}}
def mn(X:Cx):Nat:=((List.range 8).find? λl=> !(X.dd.any λc=>c.im==l)).getD 0
def iy(X:Cx)(kind:Int):jf:=⟨kind,X.res.length,X.mn,0,0,⟨0,X.id,X.res.length,[]⟩,no,0,Rz.zero,Qn.zero⟩
def iW(X:Cx)(c:jf):Cx:={X with res:=X.res++[Rz.zero],dd:=X.dd++[c]}
def full(X:Cx):Bool:=X.dd.length==8
def append(X:Cx)(val:List Int):Cx:=let c:=X.iy 1;X.iW {c with gZ:={c.gZ with kd:=8,val:=val}}
def yU(X:Cx)(a:Int):Cx:=let c:={X.iy 2 with iS:=a};(X.iW c).dO c
def fill(X:Cx)(a:Int):Cx:=let c:=X.iy 3;let c:={c with iS:=a,gZ:={c.gZ with kd:=9}};(X.iW c).dO c
def rV(X:Cx)(a:Int):Cx:=let c:={X.iy 4 with iS:=a};(X.iW c).dO c
def change(X:Cx)(u:Int):Cx:=
 let c:={X.iy 5 with unit:=u}
 let Y:=(X.iW c).kF c
 if !X.iO&&Y.iO then Y.jn else Y
def qB(X:Cx)(a:Int):Bool:=decide (0<=a)&&decide (a<X.n*X.ce)
def jv(X:Cx)(k:Nat)(t:Int):Cx:=match X.dd.find? λc=>c.gH==k with
 |none=>X
 |some c=>if X.qB t then let c':={c with iS:=t};(X.put c').dO c' else X.fin c ⟨7,0,[]⟩
def new(n m vo ce:Nat)(id:Int):Cx:=⟨n,m,vo,ce,id,0,jC n m,[],[],0,Qn.zero,0,0,Mv.zero,false,false⟩
end Cx
abbrev Al(p0:Rz)(p1)(p2):=#[I p0.wh,I p0.ad,dk p1 p0.val.length p2]
def Rd(w:World)(aY:Nat->Nat)(t:Nat)(e:TypeId)(v:Value)(cs:List Value):Prop:=
 (v= OO/\cs=[])\/∃b o c arr f,v=.slice (some (U b o)) cs.length c/\aY b=t/\w.heap[b]?=some (.cells arr e f)/\cs.length<=c/\c<=maxLen/\∀j x,cs[j]?=some x->arr[o+j]?=some x
def Rd.nil:Rd w aY t e OO []:= .inl ⟨rfl,rfl⟩
def Rd.E(h:Rd w aY t e v cs):∃a c,v=dk a cs.length c:=by obtain⟨rfl,rfl⟩|⟨b,o,c,i,f,rfl,_⟩:=h<;>exact⟨_,_,rfl⟩
def Rd.only(h:Rd w aY t e v cs){T:Nat->Prop}(D:bz T w w')(F:∀b,b<w.heap.size->T b->aY b≠t)(L:∀b,b<w.heap.size->aY b=t->bp b=t):Rd w' bp t e v cs:=by
 obtain h|⟨b,o,c,i,f,M,y,A,P⟩:=h
 .exact .inl h
 have j:=(ae.1 A).1;exact .inr ⟨b,o,c,i,f,M,L b j y,(D.block b j λe=>F b j e y).H A,P⟩
def Rd.bl(h:Rd w aY t e v cs)(i:Bl w w')(j:∀b,b<w.heap.size->aY b=t->bp b=t):Rd w' bp t e v cs:=h.only (iD i) (λ_ _ e=>e.elim) j
def Rd.cell(h:Rd w aY t e v cs)(M:0<cs.length):∃b o c,v=dk (some (U b o)) cs.length c/\b<w.heap.size/\cs.length<=c/\c<=maxLen/\∀j x,cs[j]?=some x->w.cell? (U b (o+j))=some x:=by
 obtain⟨_,rfl⟩|⟨b,o,c,i,f,A,P,y,D,F,H⟩:=h
 .simp_all
 exact⟨b,o,c,A,(ae.1 y).1,D,F,λj x L=>by rw[ax w b _ i e f y];exact H j x L⟩
def Rd.bs(h:Rd w aY t e v cs):Bs w v cs:=by
 obtain h|⟨b,o,c,i,f,y,H,A,L,M,D⟩:=h
 .exact .inl h
 exact .inr ⟨(U b o),c,y,λj x F=>by rw[mU,ax w b _ i e f A];exact D j x F⟩
def Rd.wU(h:Rd w aY t e v cs)(b)(i:v.ownBlock=some b):b<w.heap.size/\aY b=t:=by
 obtain⟨rfl,_⟩|⟨b',o,c,j,f,rfl,y,A,_⟩:=h
 .contradiction
 simp[Value.ownBlock]at i;subst i;exact⟨(ae.1 A).1,y⟩
def Rd.pB{base:Nat}(h:w.ownsRow base e 1 v n cs)(D:∀b,v.ownBlock=some b->aY b=t):Rd w aY t e v cs:=by
 have y:=iF h;obtain⟨rfl,rfl⟩|⟨g,cap,i,rfl,M,A,P,F,V,Y⟩:=h.2
 .exact .inl ⟨rfl,aW.1 y⟩
 refine .inr ⟨g,0,cap,i,_,qz y,D g rfl,A,C,F,λj x H=>?_⟩;have L:=(aj.1 H).1;have:=h.cellAt j C;rw[ax w g j i e (0,0) A]at this;simp_all
class nA(α:Type) where
 ev:World->(Nat->Nat)->Nat->α->Value->Prop
 only:∀{w w':World} {aY bp:Nat->Nat} {t:Nat} {A:α} {v:Value} {T:Nat->Prop},ev w aY t A v->bz T w w'->(∀b,b<w.heap.size->T b->aY b≠t)->(∀b,b<w.heap.size->aY b=t->bp b=t)->ev w' bp t A v
instance:nA An where
 ev w aY t A v:=∃s,v=.agg #[I A.wh,I A.ep,I A.mark,I A.ct.kd,I A.ct.cl,I A.ct.ca,s]/\Rd w aY t 5 s (A.ct.val.map B8)
 only:=λ⟨s,h1,h2⟩ ho hT ht=>⟨s,h1,h2.only ho hT ht⟩
instance:nA Vo where
 ev w aY t A v:=∃s,v=.agg #[I A.wh,I A.pr,I A.ba,s]/\Rd w aY t 5 s (A.val.map B8)
 only:=λ⟨s,h1,h2⟩ ho hT ht=>⟨s,h1,h2.only ho hT ht⟩
structure Ae where
 k:Int
 v:Value
 bo:Nat
def Ae.B(e:Ae):MapEntry:=⟨I e.k,e.v,e.bo⟩
def gR(l:List Ae):Array MapEntry:=(l.map Ae.B).toArray
structure Mm{α:Type}(w:World)(gm clk:Nat)(l:List Ae)(zz:List (Int×α))(R:α->Value->Prop):Prop where
 mp:w.heap[gm]?=some (.map (gR l) clk)
 len:l.length=zz.length
 f:∀(i:Nat) e z,l[i]?=some e->zz[i]?=some z->e.k=z.1/\R z.2 e.v
 bo:∀e∈l,e.bo<clk
 nd:(l.map (·.bo)).Nodup
 ky:(zz.map (·.1)).Nodup
def nM{α:Type}[nA α](w:World)(aY:Nat->Nat)(g t:Nat)(v:Value)(zz:List (Int×α)):Prop:=
 (v=.map none/\zz=[])\/∃gm clk l,v=.map (some gm)/\aY gm=g/\Mm w gm clk l zz (nA.ev w aY t)
section
variable{α:Type}[nA α]{zz:List (Int×α)}
def nM.map(h:nM w aY g t v zz){b:Nat}(i:v=.map (some b)):b<w.heap.size/\aY b=g:=by
 obtain⟨e,_⟩|⟨gm,clk,l,e,j,h⟩:=h
 .simp_all
 rw[e]at i;simp at i;subst i;exact⟨(ae.1 h.mp).1,j⟩
def nM.only(h:nM w aY g t v zz){T:Nat->Prop}(A:bz T w w')(D:∀b,b<w.heap.size->T b->aY b≠t)(F:∀b,v=.map (some b)->¬T b)(L:∀b,b<w.heap.size->aY b=t->bp b=t)(M:∀b,v=.map (some b)->bp b=aY b):nM w' bp g t v zz:=by
 obtain h|⟨gm,clk,l,y,P,j⟩:=h
 .exact .inl h
 refine .inr ⟨gm,clk,l,y,by rw[M gm y,P],(A.block gm ((ae.1 j.mp).1) (F gm y)).H j.mp,j.len,λi e z V Y=>?_,j.bo,j.nd,j.ky⟩;obtain⟨Z,k2⟩:=j.f i e z V Y;exact⟨Z,nA.only k2 A D L⟩
end
structure QV where
 vv:Value
 nv:Value
 av:Value
def QV.zero:QV:=⟨OO,OO,.map none⟩
structure QR{α:Type}[nA α](w:World)(aY:Nat->Nat)(g t:Nat)(q:Qn α)(V:QV):Prop where
 val:Rd w aY t 5 V.vv (q.a.ct.val.map B8)
 nodes:Rd w aY t 3 V.nv (q.nodes.map I)
 B:nM w aY g t V.av q.B
 nil:V.av=.map none->q.nodes=[]
section
variable{α:Type}[nA α]{q:Qn α}{V:QV}
def QR.only(h:QR w aY g t q V){T:Nat->Prop}(y:bz T w w')(A:∀b,b<w.heap.size->T b->aY b≠t)(D:∀b,b<w.heap.size->T b->aY b≠g)(j:∀b,b<w.heap.size->bp b=aY b):QR w' bp g t q V:=
 ⟨h.val.only y A λb i e=>by rw[j b i];exact e,h.nodes.only y A λb i e=>by rw[j b i];exact e,h.B.only y A (λb i e=>D b (h.B.map i).1 e (h.B.map i).2) (λb i e=>by rw[j b i];exact e) λb i=>j b (h.B.map i).1,h.nil⟩
def QR.zero:QR w aY g t (Qn.zero:Qn α) QV.zero:=⟨Rd.nil,Rd.nil,.inl ⟨rfl,rfl⟩,λ_=>rfl⟩
end
abbrev qL{α:Type}(q:Qn α)(V:QV):List Value:=[I q.a.kd,I q.a.ln,I q.a.nr,I q.a.ep,I q.a.pl,I q.a.ct.kd,I q.a.ct.cl,I q.a.ct.ca,V.vv,V.nv,.bool q.mP,V.av]
def sG(w:World)(aY:Nat->Nat)(g t:Nat)(v:Value)(rs:List Rz):Prop:=
 ∃xs,w.ownsRow 0 43 3 v rs.length xs/\(∀b,v.ownBlock=some b->aY b=g)/\∀i r,rs[i]?=some r->xs[3*i]?=some (I r.wh)/\xs[3*i+1]?=some (I r.ad)/\∃s,xs[3*i+2]?=some s/\Rd w aY t 5 s (r.val.map B8)
def sG.only{rs:List Rz}(h:sG w aY g t v rs){T:Nat->Prop}(A:bz T w w')(H:∀b,b<w.heap.size->T b->aY b≠t)(L:∀b,b<w.heap.size->T b->aY b≠g)(D:∀b,b<w.heap.size->bp b=aY b):sG w' bp g t v rs:=by obtain⟨xs,y,F,M⟩:=h;refine⟨xs,A.iJ y λb j e=>L b (y.lt b j).2 e (F b j),λb j=>by rw[D b (y.lt b j).2];exact F b j,λi r P=>?_⟩;obtain⟨Y,Z,s,k3,k4⟩:=M i r P;exact⟨Y,Z,s,k3,k4.only A H λb j e=>by rw[D b j];exact e⟩
def pj(w:World)(aY:Nat->Nat)(t:Nat)(v:Value)(lay:List (List Int)):Prop:=
 ∃g arr cap f,v=.slice (G g) lay.length cap/\lay.length<=cap/\cap<=maxLen/\aY g=t/\w.heap[g]?=some (.cells arr 24 f)/\∀(k:Nat) (ch:List Int),lay[k]?=some ch->∃x,arr[k]?=some x/\Rd w aY t 3 x (ch.map I)
def pj.only{lay:List (List Int)}(h:pj w aY t v lay){T:Nat->Prop}(y:bz T w w')(A:∀b,b<w.heap.size->T b->aY b≠t)(D:∀b,b<w.heap.size->aY b=t->bp b=t):pj w' bp t v lay:=by obtain⟨g,i,cap,f,M,c1,c2,F,L,P⟩:=h;have j:=(ae.1 L).1;refine⟨g,i,cap,f,M,c1,c2,D g j F,(y.block g j λe=>A g j e F).H L,λk ch Y=>?_⟩;obtain⟨x,Z,k2⟩:=P k ch Y;exact⟨x,Z,k2.only y A D⟩
structure j7 where
 ov:Value
 cv:Value
 ev:Value
 q:QV
def pQ(c:jf)(V:j7):List Value:=
 [I c.kind,I c.gH,I c.im,I c.iS,I c.unit,I c.gZ.kd,I c.gZ.cl,I c.gZ.ca,V.ov,I c.iR.kd,I c.iR.cl,I c.iR.ca,V.cv,I c.iA,I c.e.wh,I c.e.ad,V.ev,
  I c.q.a.kd,I c.q.a.ln,I c.q.a.nr,I c.q.a.ep,I c.q.a.pl,I c.q.a.ct.kd,I c.q.a.ct.cl,I c.q.a.ct.ca,V.q.vv,V.q.nv,.bool c.q.mP,V.q.av]
structure j9(w:World)(aY:Nat->Nat)(t q:Nat)(c:jf)(V:j7):Prop where
 hq:w.heap[q]?=some (.cells (pQ c V).toArray 168 (0,0))
 tq:aY q=t+8+2*c.im
 gZ:Rd w aY (t+3) 5 V.ov (c.gZ.val.map B8)
 iR:Rd w aY (t+3) 5 V.cv (c.iR.val.map B8)
 e:Rd w aY (t+3) 5 V.ev (c.e.val.map B8)
 q:QR w aY (t+9+2*c.im) (t+3) c.q V.q
section
variable{c:jf}{V:j7}
def j9.lt(h:j9 w aY t q c V):q<w.heap.size:=(ae.1 h.hq).1
def j9.only(h:j9 w aY t q c V){T:Nat->Prop}(j:bz T w w')(D:∀b,b<w.heap.size->T b->aY b≠t+3/\aY b≠t+8+2*c.im/\aY b≠t+9+2*c.im)(F:∀b,b<w.heap.size->bp b=aY b):j9 w' bp t q c V:=by
 have A:∀b,b<w.heap.size->T b->aY b≠t+3:=λb y e=>(D b y e).1;have i:∀b,b<w.heap.size->aY b=t+3->bp b=t+3:=λb y e=>by rw[F b y];exact e
 exact⟨(j.block q h.lt λe=>(D q h.lt e).2.1 h.tq).H h.hq,(F q h.lt).H h.tq,h.gZ.only j A i,h.iR.only j A i,h.e.only j A i,h.q.only j A (λb y e=>(D b y e).2.2) F⟩
def j9.cellAt(h:j9 w aY t q c V)(i)(e:(pQ c V)[i]?=some v):w.cell? (U q i)=some v:=by rw[ax w q i _ 168 _ h.hq];simpa using e
def j9.F(h:j9 w aY t q c V)(i):w.frozen? (U q i)=false:=aP w q i _ 168 h.hq
end
def j9.M{X:jf}{Y:j7}(h:j9 w T t p X Y)(i j:Nat){a b:Value}(e:((pQ X Y)[i]?,(pQ X Y)[j]?)=(some a,some b)):w.cell? (U p i)=some a/\w.cell? (U p j)=some b:=by simp at e;exact⟨h.cellAt i e.1,h.cellAt j e.2⟩
def j9.Iq{X:jf}{Y:j7}(h:j9 w T t p X Y)(i j k:Nat){a b c:Value}(e:((pQ X Y)[i]?,(pQ X Y)[j]?,(pQ X Y)[k]?)=(some a,some b,some c)):w.cell? (U p i)=some a/\w.cell? (U p j)=some b/\w.cell? (U p k)=some c:=by simp at e;exact⟨h.cellAt i e.1,h.cellAt j e.2.1,h.cellAt k e.2.2⟩
def j9.Z{X:jf}{Y:j7}(h:j9 w T t p X Y)(i j k m:Nat){a b c d:Value}(e:((pQ X Y)[i]?,(pQ X Y)[j]?,(pQ X Y)[k]?,(pQ X Y)[m]?)=(some a,some b,some c,some d)):w.cell? (U p i)=some a/\w.cell? (U p j)=some b/\w.cell? (U p k)=some c/\w.cell? (U p m)=some d:=by simp at e;exact⟨h.cellAt i e.1,h.cellAt j e.2.1,h.cellAt k e.2.2.1,h.cellAt m e.2.2.2⟩
def j9.VZ{X:jf}{Y:j7}(h:j9 w T t p X Y)(i j:Nat):w.frozen? (U p i)=false/\w.frozen? (U p j)=false:=⟨h.F i,h.F j⟩
def j9.VJ{X:jf}{Y:j7}(h:j9 w T t p X Y)(i j k:Nat):w.frozen? (U p i)=false/\w.frozen? (U p j)=false/\w.frozen? (U p k)=false:=⟨h.F i,h.F j,h.F k⟩
def j9.zN{X:jf}{Y:j7}(h:j9 w T t p X Y)(i j k m:Nat):w.frozen? (U p i)=false/\w.frozen? (U p j)=false/\w.frozen? (U p k)=false/\w.frozen? (U p m)=false:=⟨h.F i,h.F j,h.F k,h.F m⟩
structure CV where
 lv:Value
 rv:Value
 bm:Nat
 clk:Nat
 bo:Nat->Nat
 pr:QV
 bg:Value
 b:Value
 sl:QV
 vt:QV
def pO(X:Cx)(V:CV):List Value:=
 [I X.n,I X.m,I X.vo,I X.ce,I X.id,I X.c,V.lv,V.rv,.map (some V.bm),I X.iu,
  I X.jg.a.kd,I X.jg.a.ln,I X.jg.a.nr,I X.jg.a.ep,I X.jg.a.pl,I X.jg.a.ct.kd,I X.jg.a.ct.cl,I X.jg.a.ct.ca,V.pr.vv,V.pr.nv,.bool X.jg.mP,V.pr.av,
  I X.kH,I X.jB,I X.mv.c,.bool X.mv.uk,V.bg,I X.mv.jB,V.b,
  I X.mv.b.a.kd,I X.mv.b.a.ln,I X.mv.b.a.nr,I X.mv.b.a.ep,I X.mv.b.a.pl,I X.mv.b.a.ct.kd,I X.mv.b.a.ct.cl,I X.mv.b.a.ct.ca,V.sl.vv,V.sl.nv,.bool X.mv.b.mP,V.sl.av,
  I X.mv.a.a.kd,I X.mv.a.a.ln,I X.mv.a.a.nr,I X.mv.a.a.ep,I X.mv.a.a.pl,I X.mv.a.a.ct.kd,I X.mv.a.a.ct.cl,I X.mv.a.a.ct.ca,V.vt.vv,V.vt.nv,.bool X.mv.a.mP,V.vt.av,
  .bool X.wb,.bool X.wl]
def jV(qb bo:Nat->Nat)(c:jf):Ae:=⟨c.gH,O (qb c.gH),bo c.gH⟩
structure sL(X:Cx):Prop where
 gH:X.dd.Pairwise λc d=>c.gH<d.gH
 lt:∀c∈X.dd,c.gH<X.res.length
 im:X.dd.Pairwise λc d=>c.im≠d.im
 a:∀c∈X.dd,c.im<8
def Lr(w:World)(aY:Nat->Nat)(t:Nat)(M:Mv)(bg av:Value):Prop:=
 (bg=.map none/\M.E=[])\/(M.a.a.kd=7/\bg=av/\M.E=M.a.B/\M.E≠[])\/(M.a.a.kd≠7/\bg≠av/\nM w aY (t+6) (t+3) bg M.E)
structure OV(w:World)(aY:Nat->Nat)(t:Nat)(qb:Nat->Nat)(X:Cx)(V:CV):Prop where
 lay:pj w aY (t+3) V.lv X.lay
 res:sG w aY (t+2) (t+3) V.rv X.res
 tb:aY V.bm=t+1
 mp:w.heap[V.bm]?=some (.map (gR (X.dd.map (jV qb V.bo))) V.clk)
 bo:∀c∈X.dd,V.bo c.gH<V.clk
 bn:(X.dd.map λc=>V.bo c.gH).Nodup
 pr:QR w aY (t+4) (t+3) X.jg V.pr
 sl:QR w aY (t+5) (t+3) X.mv.b V.sl
 vt:QR w aY (t+6) (t+3) X.mv.a V.vt
 bg:Lr w aY t X.mv V.bg V.vt.av
 b:Rd w aY (t+3) 5 V.b (X.mv.value.map B8)
 a:∀c∈X.dd,∃cv,j9 w aY t (qb c.gH) c cv
 pd:sL X
structure iN(w:World)(aY:Nat->Nat)(t p:Nat)(qb:Nat->Nat)(X:Cx)(V:CV):Prop where
 hp:w.heap[p]?=some (.cells (pO X V).toArray 114 (0,0))
 tp:aY p=t
 r:OV w aY t qb X V
def Cl(w:World)(aY:Nat->Nat)(t p:Nat)(qb:Nat->Nat)(X:Cx):Prop:=∃V,iN w aY t p qb X V
def Mc(t g:Nat):Prop:=t<=g/\g<t+32/\g≠t+3
section
variable{X:Cx}{V:CV}
def OV.lb(h:OV w aY t qb X V):V.bm<w.heap.size:=(ae.1 h.mp).1
def Lr.only{M:Mv}{y av:Value}(h:Lr w aY t M y av){T:Nat->Prop}(F:bz T w w')(A:∀b,b<w.heap.size->T b->aY b≠t+3/\aY b≠t+6)(D:∀b,b<w.heap.size->bp b=aY b):Lr w' bp t M y av:=by
 obtain h|h|⟨H,L,j⟩:=h
 .exact .inl h
 .exact .inr (.inl h)
 exact .inr (.inr ⟨H,L,j.only F (λb i e=>(A b i e).1) (λb i e=>(A b (j.map i).1 e).2 (j.map i).2) (λb i e=>by rw[D b i];exact e) λb i=>D b (j.map i).1⟩)
def OV.only(h:OV w aY t qb X V){T:Nat->Prop}(j:bz T w w')(y:∀b,b<w.heap.size->T b->aY b<=t\/t+32<=aY b)(A:∀b,b<w.heap.size->bp b=aY b):OV w' bp t qb X V:=by
 have D:∀b,b<w.heap.size->T b->aY b≠t+3:=λb i e=>by have:=y b i e;omega
 have F:∀b,b<w.heap.size->aY b=t+3->bp b=t+3:=λb i e=>by rw[A b i];exact e
 exact⟨h.lay.only j D F,h.res.only j D (λb i e=>by have:=y b i e;omega) A,(A _ h.lb).H h.tb,(j.block _ h.lb λe=>by have:=y _ h.lb e;have:=h.tb;omega).H h.mp,h.bo,h.bn,h.pr.only j D (λb i e=>by have:=y b i e;omega) A,h.sl.only j D (λb i e=>by have:=y b i e;omega) A,h.vt.only j D (λb i e=>by have:=y b i e;omega) A,h.bg.only j (λb i e=>by have:=y b i e;omega) A,h.b.only j D F,λc L=>by
  obtain⟨M,P⟩:=h.a c L
  have:=h.pd.a c L
  exact⟨M,P.only j (λb i e=>by have:=y b i e;omega) A⟩,h.pd⟩
def iN.B(h:iN w aY t p qb X V):p<w.heap.size:=(ae.1 h.hp).1
def iN.only(h:iN w aY t p qb X V){T:Nat->Prop}(i:bz T w w')(j:∀b,b<w.heap.size->T b->aY b<t\/t+32<=aY b)(y:∀b,b<w.heap.size->bp b=aY b):iN w' bp t p qb X V:=
 ⟨(i.block p h.B λe=>by have:=j p h.B e;have:=h.tp;omega).H h.hp,(y p h.B).H h.tp,h.r.only i (λb A e=>by have:=j b A e;omega) y⟩
def iN.bl(h:iN w aY t p qb X V)(i:Bl w w')(j:∀b,b<w.heap.size->bp b=aY b):iN w' bp t p qb X V:=h.only (iD i) (λ_ _ e=>e.elim) j
def Cl.only(h:Cl w aY t p qb X){T:Nat->Prop}(i:bz T w w')(j:∀b,b<w.heap.size->T b->aY b<t\/t+32<=aY b)(y:∀b,b<w.heap.size->bp b=aY b):Cl w' bp t p qb X:=by obtain⟨V,h⟩:=h;exact⟨V,h.only i j y⟩
def Cl.bl(h:Cl w aY t p qb X)(i:Bl w w')(j:∀b,b<w.heap.size->bp b=aY b):Cl w' bp t p qb X:=h.only (iD i) (λ_ _ e=>e.elim) j
def iN.cellAt(h:iN w aY t p qb X V)(i)(e:(pO X V)[i]?=some v):w.cell? (U p i)=some v:=by rw[ax w p i _ 114 _ h.hp];simpa using e
def iN.F(h:iN w aY t p qb X V)(i):w.frozen? (U p i)=false:=aP w p i _ 114 h.hp
end
def CS(w:World)(aY:Nat->Nat)(t p:Nat)(qb:Nat->Nat)(X':Cx)(w':World):Prop:=
 ∃bp,(∀b,b<w.heap.size->bp b=aY b)/\Cl w' bp t p qb X'/\bz (λb=>Mc t (aY b)) w w'
section
variable{X X' X'':Cx}{V:CV}
def CS.E(h:Cl w aY t p qb X)(i:Bl w w'):CS w aY t p qb X w':=⟨aY,λ_ _=>rfl,h.bl i gK,bz.E i⟩
def CS.post(h:CS w aY t p qb X w1)(i:Bl w1 w'):CS w aY t p qb X w':=by obtain⟨bp,j,y,A⟩:=h;exact⟨bp,j,y.bl i gK,A.H (bz.E i)⟩
def CS.F(j:Bl w w1)(h:CS w1 aY t p qb X w'):CS w aY t p qb X w':=by obtain⟨bp,y,A,D⟩:=h;exact⟨bp,λb i=>y b (af i j.lt),A,(bz.E j).H D⟩
def CS.then(h:CS w aY t p qb X w1)(k:∀bp,(∀b,b<w.heap.size->bp b=aY b)->Cl w1 bp t p qb X->CS w1 bp t p qb X' w'):CS w aY t p qb X' w':=by obtain⟨bp,y,D,A⟩:=h;obtain⟨i,F,L,M⟩:=k bp y D;exact⟨i,λb j=>(F b (af j A.size)).H (y b j),L,A.andThen M λb j e=>by rwa[y b j]at e⟩
end
def iN.M{X:Cx}{Y:CV}(h:iN w T t p Q X Y)(i j:Nat){a b:Value}(e:((pO X Y)[i]?,(pO X Y)[j]?)=(some a,some b)):w.cell? (U p i)=some a/\w.cell? (U p j)=some b:=by simp at e;exact⟨h.cellAt i e.1,h.cellAt j e.2⟩
def iN.Iq{X:Cx}{Y:CV}(h:iN w T t p Q X Y)(i j k:Nat){a b c:Value}(e:((pO X Y)[i]?,(pO X Y)[j]?,(pO X Y)[k]?)=(some a,some b,some c)):w.cell? (U p i)=some a/\w.cell? (U p j)=some b/\w.cell? (U p k)=some c:=by simp at e;exact⟨h.cellAt i e.1,h.cellAt j e.2.1,h.cellAt k e.2.2⟩
def iN.Z{X:Cx}{Y:CV}(h:iN w T t p Q X Y)(i j k m:Nat){a b c d:Value}(e:((pO X Y)[i]?,(pO X Y)[j]?,(pO X Y)[k]?,(pO X Y)[m]?)=(some a,some b,some c,some d)):w.cell? (U p i)=some a/\w.cell? (U p j)=some b/\w.cell? (U p k)=some c/\w.cell? (U p m)=some d:=by simp at e;exact⟨h.cellAt i e.1,h.cellAt j e.2.1,h.cellAt k e.2.2.1,h.cellAt m e.2.2.2⟩
def iN.VZ{X:Cx}{Y:CV}(h:iN w T t p Q X Y)(i j:Nat):w.frozen? (U p i)=false/\w.frozen? (U p j)=false:=⟨h.F i,h.F j⟩
def iN.VJ{X:Cx}{Y:CV}(h:iN w T t p Q X Y)(i j k:Nat):w.frozen? (U p i)=false/\w.frozen? (U p j)=false/\w.frozen? (U p k)=false:=⟨h.F i,h.F j,h.F k⟩
def iN.zN{X:Cx}{Y:CV}(h:iN w T t p Q X Y)(i j k m:Nat):w.frozen? (U p i)=false/\w.frozen? (U p j)=false/\w.frozen? (U p k)=false/\w.frozen? (U p m)=false:=⟨h.F i,h.F j,h.F k,h.F m⟩
abbrev J1(p0:Cx)(p1)(p2:CV):=gR (p0.dd.map (jV p1 p2.bo))
theorem jw{S:Nat->Prop}{a:World}(j:S p\/a.heap.size<=p):∀(i:List Value) (o:Nat) (w:World),bz S a w->bz S a (jX w p o i)
 |[],_,_,h=>h
 |v::i,o,_,h=>jw j i (o+1) _ (h.setCell (U p o) j v)
section
variable{X X':Cx}{V V':CV}{c c' d:jf}{cv cv':j7}
def iN.tB(h:iN w aY t p qb X V)(j:bz (λb=>b=p) w w')(i:w'.heap[p]?=some (gO (pO X' V').toArray 114 (0,0)))(r:OV w aY t qb X' V'):iN w' aY t p qb X' V':=
 ⟨i,h.tp,r.only j (λb _ e=>by rw[e,h.tp];exact .inl jc) gK⟩
def iN.mB(h:iN w aY t p qb X V)(i:bz (λb=>b=p) w w'):bz (λb=>Mc t (aY b)) w w':=i.L λb _ e=>by rw[e,h.tp];unfold Mc;omega
def Cx.xU{X:Cx}{c' d:jf}(h:d∈(X.put c').dd):d=c'\/(d∈X.dd/\d.gH≠c'.gH):=by unfold Cx.put at h;simp at h;obtain⟨x,i,e⟩:=h;by_cases j:x.gH=c'.gH;all_goals simp_all
def Cx.nE{X:Cx}{c c':jf}(h:c∈X.dd)(i:c'.gH=c.gH):c'∈(X.put c').dd:=aD.2 ⟨c,h,by rw[aE i.symm]⟩
theorem qt{l:List jf}(h:l.Pairwise λc d=>c.gH<d.gH){c d:jf}(i:c∈l)(j:d∈l)(e:c.gH=d.gH):c=d:=by
 induction l with
 |nil=>simp at i
 |cons x l y=>
  rw[cI]at h;obtain rfl|hc':=bh.1 i<;>obtain rfl|hd':=bh.1 j
  .rfl
  .have:=h.1 d hd';omega
  .have:=h.1 c hc';omega
  simp_all
theorem O0{l:List jf}(h:l.Pairwise λc d=>c.im≠d.im){c d:jf}(i:c∈l)(j:d∈l)(e:c≠d):c.im≠d.im:=by
 induction l with
 |nil=>simp at i
 |cons x l y=>
  rw[cI]at h;obtain rfl|hc':=bh.1 i<;>obtain rfl|hd':=bh.1 j
  .simp_all
  .simp_all
  .exact(h.1 c hc').symm
  simp_all
def sL.put(h:sL X)(D:c∈X.dd)(F:c'.gH=c.gH)(H:c'.im=c.im):sL (X.put c'):=by
 have L:∀x∈X.dd,∃y,y=(if x.gH=c'.gH then c' else x)/\y.gH=x.gH/\y.im=x.im:=λx M=>by
  by_cases e:x.gH=c'.gH
  .rw[aE e];have:x=c:=qt h.gH M D (j4 e F);exact⟨c',rfl,e.symm,by rw[this,H]⟩
  rw[az e];exact⟨x,rfl,rfl,rfl⟩
 have j:(X.put c').dd.map (·.gH)=X.dd.map (·.gH):=by unfold Cx.put;simp_all
 have A:(X.put c').dd.map (·.im)=X.dd.map (·.im):=by unfold Cx.put;simp_all
 refine⟨?_,λd i=>?_,?_,λd i=>?_⟩
 .have:=cj.2 h.gH;rw[<-j]at this;exact cj.1 this
 .obtain rfl|⟨i,_⟩:=Cx.xU i
  .rw[F];exact h.lt c D
  exact h.lt d i
 .have:=(cj (f:=λc:jf=>c.im) (R:=λa b=>a≠b) (l:=X.dd)).2 h.im;rw[<-A]at this;exact cj.1 this
 obtain rfl|⟨i,_⟩:=Cx.xU i
 .rw[H];exact h.a c D
 exact h.a d i
def EV(X:Cx)(c')(qb bo):(X.put c').dd.map (jV qb bo)=X.dd.map (jV qb bo):=by
 unfold Cx.put;simp only[br];refine bf λx _=>?_;simp;by_cases e:x.gH=c'.gH
 .rw[aE e];simp[jV,e]
 simp_all
def iN.call(h:iN w aY t p qb X V)(D:c∈X.dd)(i:bz (λb=>aY b=t+8+2*c.im\/aY b=t+9+2*c.im) w w')(L:j9 w' aY t (qb c.gH) c' cv')(F:c'.gH=c.gH)(Y:c'.im=c.im):iN w' aY t p qb (X.put c') V:=by
 have h8:=h.r.pd.a c D;have y:∀b,b<w.heap.size->aY b=aY b:=λ_ _=>rfl;have A:∀b,b<w.heap.size->(aY b=t+8+2*c.im\/aY b=t+9+2*c.im)->aY b≠t+3:=λb _ e=>C;have M:(X.put c').dd.map (λc=>V.bo c.gH)=X.dd.map (λc=>V.bo c.gH):=by have:=Z5 (List.map Ae.bo) (EV X c' qb V.bo);rwa[br,br]at this
 refine⟨(i.block p h.B λe=>by have:=h.tp;omega).H h.hp,h.tp,h.r.lay.only i A λ_ _ e=>e,h.r.res.only i A (λb _ e=>C) y,h.r.tb,?_,?_,by rw[M];exact h.r.bn,h.r.pr.only i A (λb _ e=>C) y,h.r.sl.only i A (λb _ e=>C) y,h.r.vt.only i A (λb _ e=>C) y,h.r.bg.only i (λb _ e=>C) y,h.r.b.only i A λ_ _ e=>e,λd j=>?_,h.r.pd.put D F Y⟩
 .rw[EV];exact(i.block _ h.r.lb λe=>by have:=h.r.tb;omega).H h.r.mp
 .intro d j;obtain rfl|⟨j,_⟩:=Cx.xU j
  .rw[F];exact h.r.bo c D
  exact h.r.bo d j
 obtain rfl|⟨j,P⟩:=Cx.xU j
 .rw[F];exact⟨_,L⟩
 obtain⟨Z,L⟩:=h.r.a d j;have:=O0 h.r.pd.im j D λe=>P (j4 e F);exact⟨Z,L.only i (λb _ e=>C) y⟩
def iN.CL(h:iN w aY t p qb X V)(i:c∈X.dd)(j:bz (λb=>aY b=t+8+2*c.im\/aY b=t+9+2*c.im) w w'):bz (λb=>Mc t (aY b)) w w':=j.L λb _ e=>by have:=h.r.pd.a c i;unfold Mc;omega
def j9.B(h:j9 w aY t q c cv)(i:bz (λb=>b=q) w w')(y:w'.heap[q]?=some (gO (pQ c' cv').toArray 168 (0,0)))(A:c'.im=c.im)(D:Rd w aY (t+3) 5 cv'.ov (c'.gZ.val.map B8))(F:Rd w aY (t+3) 5 cv'.cv (c'.iR.val.map B8))(H:Rd w aY (t+3) 5 cv'.ev (c'.e.val.map B8))(L:QR w aY (t+9+2*c'.im) (t+3) c'.q cv'.q):j9 w' aY t q c' cv':=by
 have j:∀b,b<w.heap.size->b=q->aY b≠t+3:=λb _ e=>by rw[e,h.tq];omega
 exact⟨y,by rw[A];exact h.tq,D.only i j λ_ _ e=>e,F.only i j λ_ _ e=>e,H.only i j λ_ _ e=>e,L.only i j (λb _ e=>by rw[e,h.tq];omega) gK⟩
def j9.wJ(h:j9 w aY t q c cv)(i:bz (λb=>b=q) w w'):bz (λb=>aY b=t+8+2*c.im\/aY b=t+9+2*c.im) w w':=i.L λb _ e=>.inl (by rw[e];exact h.tq)
def CS.mk(h:iN w' aY t p qb X V)(i:bz (λb=>Mc t (aY b)) w w'):CS w aY t p qb X w':=⟨aY,λ_ _=>rfl,⟨V,h⟩,i⟩
def iN.iu(h:iN w aY t p qb X V)(a):iN (w.setCell (U p 9) (I a)) aY t p qb {X with iu:=a} V:=
 h.tB ((bz.refl (λb=>b=p) w).setCell (U p 9) (.inl rfl) _) (iU 9 _ w _ h.hp) ⟨h.r.lay,h.r.res,h.r.tb,h.r.mp,h.r.bo,h.r.bn,h.r.pr,h.r.sl,h.r.vt,h.r.bg,h.r.b,h.r.a,h.r.pd.gH,h.r.pd.lt,h.r.pd.im,h.r.pd.a⟩
def tj(h:iN w aY t p qb X V)(y:0<=X.iu)(A:X.iu<=1000000000000000):Calls prog 194 #[O p] w λi w'=>i=gG (I (X.iu+1))/\iN w' aY t p qb {X with iu:=X.iu+1} V/\bz (λb=>b=p) w w':=by
 have H:=fu (h.iu (X.iu+1));have D:=h.cellAt 9 rfl;have F:=h.F 9;have L:=h.B;have j:Hid (bz (λb=>b=p) w (w.setCell (U p 9) (I (X.iu+1)))):=(bz.refl (λb=>b=p) w).setCell (U p 9) (.inl rfl) _;clear h;go_wp2;go_ret;exact⟨rfl,H,j⟩
end
section
variable{X X':Cx}{V V':CV}{c c':jf}{cv cv':j7}
def Rd.J(h:Rd w aY g e v cs)(i:∀b,b<w.heap.size->aY b=g->bp b=g):Rd w bp g e v cs:=h.bl (Bl.refl w) i
def nM.J{α:Type}[nA α]{zz:List (Int×α)}(h:nM w aY g r v zz)(j:∀b,b<w.heap.size->aY b=r->bp b=r)(y:∀b,b<w.heap.size->aY b=g->bp b=g):nM w bp g r v zz:=
 h.only (bz.refl _ w) (λ_ _ e=>e.elim) (λ_ _ e=>e) j (λb i=>by rw[y b (h.map i).1 (h.map i).2,(h.map i).2])
def QR.J{α:Type}[nA α]{q:Qn α}{V:QV}(h:QR w aY g r q V)(i:∀b,b<w.heap.size->aY b=r->bp b=r)(j:∀b,b<w.heap.size->aY b=g->bp b=g):QR w bp g r q V:=
 ⟨h.val.J i,h.nodes.J i,h.B.J i j,h.nil⟩
def iN.J(h:iN w aY t p qb X V)(A:∀b,b<w.heap.size->t<=aY b->aY b<t+32->bp b=aY b):iN w bp t p qb X V:=by
 have j:∀k,k<32->∀b,b<w.heap.size->aY b=t+k->bp b=t+k:=λk hk b y e=>by rw[A b y C C];exact e
 refine⟨h.hp,by rw[A p h.B (by rw[h.tp];omega) (by rw[h.tp];omega)];exact h.tp,h.r.lay.only (bz.refl (λ_=>False) w) (λ_ _ e=>e.elim) (j 3 C),?_,j 1 C _ h.r.lb h.r.tb,h.r.mp,h.r.bo,h.r.bn,h.r.pr.J (j 3 C) (j 4 C),h.r.sl.J (j 3 C) (j 5 C),h.r.vt.J (j 3 C) (j 6 C),?_,h.r.b.J (j 3 C),λc D=>?_,h.r.pd⟩
 .obtain⟨xs,F,H,L⟩:=h.r.res;refine⟨xs,F,λb y=>j 2 C b (F.lt b y).2 (H b y),λi r M=>?_⟩;obtain⟨P,Y,s,Z,k4⟩:=L i r M;exact⟨P,Y,s,Z,k4.J (j 3 C)⟩
 .obtain e|e|⟨e1,e2,e3⟩:=h.r.bg
  .exact .inl e
  .exact .inr (.inl e)
  exact .inr (.inr ⟨e1,e2,e3.J (j 3 C) (j 6 C)⟩)
 obtain⟨cv,k⟩:=h.r.a c D;have h8:=h.r.pd.a c D;exact⟨cv,k.hq,by rw[cG];exact j (8+2*c.im) C _ k.lt (by rw[<-cG];exact k.tq),k.gZ.J (j 3 C),k.iR.J (j 3 C),k.e.J (j 3 C),k.q.J (j 3 C) λb y e=>by rw[cG];exact j (9+2*c.im) C b y (by rw[<-cG];exact e)⟩
def j9.J(k:j9 w aY t q c cv)(A:c.im<8)(y:∀b,b<w.heap.size->t<=aY b->aY b<t+32->bp b=aY b):j9 w bp t q c cv:=by
 have i:∀k,k<32->∀b,b<w.heap.size->aY b=t+k->bp b=t+k:=λk D b j e=>by rw[y b j C C];exact e
 exact⟨k.hq,by rw[cG];exact i _ C _ k.lt (by rw[<-cG];exact k.tq),k.gZ.J (i 3 C),k.iR.J (i 3 C),k.e.J (i 3 C),k.q.J (i 3 C) λb j e=>by rw[cG];exact i _ C b j (by rw[<-cG];exact e)⟩
end
def PH(w):(Instr.makeMap 101 none).run prog w=.ok (.map (some w.heap.size)) (w.alloc (.map #[] 0)):=rfl
def RV(w):(Instr.makeMap 104 none).run prog w=.ok (.map (some w.heap.size)) (w.alloc (.map #[] 0)):=rfl
abbrev Ry(kd ln nr ep pl ck cl ca:Int)(v n:Value)(gm:Nat):Value:= .agg #[I kd,I ln,I nr,I ep,I pl,I ck,I cl,I ca,v,n,.bool true,.map (some gm)]
theorem pD(w)(na)(nn nc)(kd ln nr ep pl ck cl ca)(va)(vn vc):ib 207 #[dk na nn nc,EJ kd ln nr ep pl ck cl ca (dk va vn vc)] w λi w'=>∃gm,i=gG (Ry kd ln nr ep pl ck cl ca (dk va vn vc) (dk na nn nc) gm)/\w.heap.size<=gm/\w'.heap[gm]?=some (.map #[] 0)/\Bl w w':=by
 have j:=PH;go_enter func207,ntmps207;go_wp2;refine aG (v:=Ry kd ln nr ep pl ck cl ca (dk va vn vc) (dk na nn nc) (w.heap.size+1+1)) (by simp[results,results207,go_sem]) rfl ⟨_,rfl,C,?_,(((Bl.refl w).alloc _).alloc _).alloc _⟩;have:=ao ((w.alloc (gO #[I kd,I ln,I nr,I ep,I pl,I ck,I cl,I ca,dk va vn vc] 100)).alloc (gO #[I kd,I ln,I nr,I ep,I pl,I ck,I cl,I ca,dk va vn vc,dk na nn nc,.bool true,.map (some (w.heap.size+1+1))] 103)) (.map #[] 0);simpa using this
theorem wI(w)(na)(nn nc)(kd ln nr ep pl ck cl ca)(va)(vn vc):ib 195 #[dk na nn nc,EJ kd ln nr ep pl ck cl ca (dk va vn vc)] w λi w'=>∃gm,i=gG (Ry kd ln nr ep pl ck cl ca (dk va vn vc) (dk na nn nc) gm)/\w.heap.size<=gm/\w'.heap[gm]?=some (.map #[] 0)/\Bl w w':=by
 have j:=RV;go_enter func195,ntmps195;go_wp2;refine aG (v:=Ry kd ln nr ep pl ck cl ca (dk va vn vc) (dk na nn nc) (w.heap.size+1+1)) (by simp[results,results195,go_sem]) rfl ⟨_,rfl,C,?_,(((Bl.refl w).alloc _).alloc _).alloc _⟩;have:=ao ((w.alloc (gO #[I kd,I ln,I nr,I ep,I pl,I ck,I cl,I ca,dk va vn vc] 100)).alloc (gO #[I kd,I ln,I nr,I ep,I pl,I ck,I cl,I ca,dk va vn vc,dk na nn nc,.bool true,.map (some (w.heap.size+1+1))] 106)) (.map #[] 0);simpa using this
def nM.new{α:Type}[nA α](y:w.heap[gm]?=some (.map #[] 0))(tg:aY gm=g):nM w aY g r (.map (some gm)) ([]:List (Int×α)):=
 .inr ⟨gm,0,[],rfl,tg,y,rfl,λi e z j=>lY j,λe j=>lY j,fH,fH⟩
section
variable{X X':Cx}{V V':CV}{c c':jf}{cv cv':j7}
def iN.Vw(h:iN w aY t p qb X V)(i:c∈X.dd)(r)(nodes)(mP)(v2 n2)(gm)(y:Rd w aY (t+3) 5 v2 (r.ct.val.map B8))(A:Rd w aY (t+3) 3 n2 (nodes.map I))(D:w.heap[gm]?=some (.map #[] 0))(tg:aY gm=t+9+2*c.im):iN (jX w (qb c.gH) 17 [I r.kd,I r.ln,I r.nr,I r.ep,I r.pl,I r.ct.kd,I r.ct.cl,I r.ct.ca,v2,n2,.bool mP,.map (some gm)]) aY t p qb (X.put {c with q:=⟨r,nodes,mP,[]⟩}) V
 /\bz (λb=>Mc t (aY b)) w (jX w (qb c.gH) 17 [I r.kd,I r.ln,I r.nr,I r.ep,I r.pl,I r.ct.kd,I r.ct.cl,I r.ct.ca,v2,n2,.bool mP,.map (some gm)]):=by
 obtain⟨cv,k⟩:=h.r.a c i;have j:bz (λb=>b=qb c.gH) w (jX w (qb c.gH) 17 [I r.kd,I r.ln,I r.nr,I r.ep,I r.pl,I r.ct.kd,I r.ct.cl,I r.ct.ca,v2,n2,.bool mP,.map (some gm)]):=jw (S:=λb=>b=qb c.gH) (.inl rfl) _ 17 w (bz.refl _ w);have F:j9 _ aY t (qb c.gH) {c with q:=⟨r,nodes,mP,[]⟩} {cv with q:=⟨v2,n2,.map (some gm)⟩}:=k.B j (jY _ 17 w _ k.hq) rfl k.gZ k.iR k.e ⟨y,A,nM.new D tg,λe=>lY e⟩;exact⟨h.call i (k.wJ j) F rfl rfl,h.CL i (k.wJ j)⟩
def IE{M w2:World}{y A D F L ln i j:Int}(Y:aY g<t\/t+32<=aY g)(Z:iN w2 aY t p qb X V)(hg:w2.heap[g]?=some (gO #[I y,I 0,I 0,I 0,I A,I D,I F,I L,v] 100 (0,0)))(ho:bz (λb=>b=p) M w2)(hb:Bl W M):Hid (iN (((w2.setCell (U g 1) (I ln)).setCell (U g 2) (I i)).setCell (U g 3) (I j)) aY t p qb X V)/\Hid ((((w2.setCell (U g 1) (I ln)).setCell (U g 2) (I i)).setCell (U g 3) (I j)).heap[g]?=some (gO #[I y,I ln,I i,I j,I A,I D,I F,I L,v] 100 (0,0)))/\Hid (bz (λb=>b=p\/b=g) W (((w2.setCell (U g 1) (I ln)).setCell (U g 2) (I i)).setCell (U g 3) (I j))):=by
 have P:bz _ w2 (((w2.setCell (U g 1) (I ln)).setCell (U g 2) (I i)).setCell (U g 3) (I j)):=(((bz.refl (λb=>b=g) w2).setCell (U g 1) (.inl rfl) _).setCell (U g 2) (.inl rfl) _).setCell (U g 3) (.inl rfl) _;exact⟨Z.only P (λb _ e=>jP e Y) gK,jY [I ln,I i,I j] 1 w2 [I y,I 0,I 0,I 0,I A,I D,I F,I L,v] hg,((bz.E hb).H (ho.L λ_ _ e=>.inl e)).H (P.L λ_ _ e=>.inr e)⟩
theorem FY(h:iN w aY t p qb X V)(ac:100<=t)(hc:c∈X.dd)(ha:0<=X.iu)(hb:X.iu<=1000000000000000)(kd pl ck cl ca)(val nodes)(va na)(vc nc)(hv:Rd w aY (t+3) 5 (dk va val.length vc) (val.map B8))(hn:Rd w aY (t+3) 3 (dk na nodes.length nc) (nodes.map I)):ib 190 #[O p,O (qb c.gH),dk na nodes.length nc,EJ kd 0 0 0 pl ck cl ca (dk va val.length vc)] w λen w'=>en=gS/\CS w aY t p qb (X.qF c nodes kd pl ⟨ck,cl,ca,val⟩) w':=by
 obtain⟨cv,k⟩:=h.r.a c hc;obtain⟨W,hW⟩:=dS (w.alloc (gO #[I kd,I 0,I 0,I 0,I pl,I ck,I cl,I ca,dk va val.length vc] 100));have M:=(Bl.refl w).alloc (gO #[I kd,I 0,I 0,I 0,I pl,I ck,I cl,I ca,dk va val.length vc] 100);have hX:=ao w (gO #[I kd,I 0,I 0,I 0,I pl,I ck,I cl,I ca,dk va val.length vc] 100);rw[hW]at M hX;have HN:Hid (∀W',Bl W W'->_):=λW' a5=>tj (h.bl (bp:=gN aY w.heap.size 5) (M.H a5) λb hb=>fz _ _ _ _ hb) ha hb;obtain⟨H,Hk,Hv,Hn⟩:=ju h k hv hn;have a6:=h.B;have a0:=k.lt;obtain⟨a1,BW,HX⟩:=gV hW M hX;have lg:w.heap.size<W.heap.size:=(ae.1 hX).1;have a7:Hid (p≠w.heap.size):=lQ;have a8:Hid (qb c.gH≠p):=λe=>by have:=k.hq;rw[e,h.hp]at this;simp at this
 have d5:=(h.bl (bp:=aY) M gK).cellAt 5 rfl;have d2:=(M.cell a0).H (k.cellAt 2 rfl);obtain⟨⟨q0,q1,q2,q3,q4,q5,q6,q7,q8⟩,A,_⟩:=sB hX;have f1:=A 1;have f2:=A 2;have f3:=A 3;have ad:=af a6 M.lt;have a2:=af a0 M.lt;clear h k hv hn hW M hX A;go_enter func190,ntmps190;go_upto_region 1 with fail;rw[a1.o];clear a1;go_cut[] λwx=>Hid (iN wx (gN aY w.heap.size 5) t p qb {X with iu:=X.iu+1} V)/\Hid (wx.heap[w.heap.size]?=some (gO #[I kd,I c.im,I (X.iu+1),I X.c,I pl,I ck,I cl,I ca,dk va val.length vc] 100 (0,0)))/\Hid (bz (λb=>b=p\/b=w.heap.size) W wx)
 case first=>
  go_region_with(go_at_call 194;refine(HN _ ?hb).L ?_;(case hb=>exact iZ);rintro en w2⟨rfl,D,y⟩;have e1:=(y.block w.heap.size lg (gI a7.o)).H HX;have z5:=D.cellAt 5 rfl;have z2:=(y.cell a2 a8).H d2;obtain⟨⟨y0,y1,y2,y3,_⟩,A,ly⟩:=sB e1;have g1:=A 1;have g2:=A 2;have g3:=A 3;have ag:=D.B;have ai:=af a2 y.size;obtain⟨a9,aa,ab⟩:=gV e1 D y;clear D y e1 A);all_goals(go_wp2_with fail;go_meet)
  all_goals exact IE (.inl (by rw[ig _ _ _ _ jc];omega)) aa a9 ab iZ
 case rest=>
  obtain⟨HC,HB,Z⟩:=hcut;obtain⟨⟨z0,z1,z2,z3,z4,z5,z6,z7,z8⟩,_,lz⟩:=sB HB;have HQ:=fu (pD wc na nodes.length nc kd c.im (X.iu+1) X.c pl ck cl ca va val.length vc);have ak:=BW.lt;have al:=Z.size;clear q0 q1 q2 q3 q4 q5 q6 q7 q8 f1 f2 f3 d5 d2 HN HX;go_wp2_with fail;refine HQ.L ?_;rintro en w3⟨gm,rfl,am,a3,b3⟩;obtain⟨tag3,F⟩:∃tag3:Nat->Nat,tag3=λb=>if b=gm then t+9+2*c.im else gN aY w.heap.size 5 b:=⟨_,rfl⟩
  have j:∀b,b<w.heap.size->tag3 b=aY b:=λb hb=>by rw[F];show(if b=gm then _ else gN aY w.heap.size 5 b)=_;rw[az C,fz _ _ _ _ hb]
  have H3:iN w3 tag3 t p qb {X with iu:=X.iu+1} V:=((HC.bl b3 (bp:=gN aY w.heap.size 5) gK).J λb hb h1 h2=>by
   rw[F];show(if b=gm then _ else gN aY w.heap.size 5 b)=_
   rw[az]
   intro e
   rw[e,ig _ _ _ _ C]at h1
   omega)
  have a4:tag3 gm=t+9+2*c.im:=nI F;obtain⟨an,P⟩:=H3.r.a c hc;have l3:=P.lt;obtain⟨ap,ar,av,aw⟩:=P.Z 17 18 19 20 rfl;obtain⟨b0,b1,b2,b4⟩:=P.Z 21 22 23 24 rfl;obtain⟨b5,b6,b7,b8⟩:=P.Z 25 26 27 28 rfl;obtain⟨b9,ba,bb,bc⟩:=P.zN 17 18 19 20;obtain⟨bd,be,bg,bi⟩:=P.zN 21 22 23 24;obtain⟨bl,bm,bn,bo⟩:=P.zN 25 26 27 28;have oW:bz (λb=>b=p) w wc:=⟨Z.os.H BW.os,Z.tape.H BW.tape,Z.output.H BW.output,C,λi hi hs=>(Z.block i C C).H (BW.heap hi)⟩;have O3:=fu (oW.H (bz.E b3));have V3:Rd w3 tag3 (t+3) 5 (lI va val vc) (val.map B8):=Hv.only O3 (λb _ e=>by rw[e,H.tp];omega) (λb hb e=>by rw[j b hb];exact e);have N3:Rd w3 tag3 (t+3) 3 (lI na nodes nc) (nodes.map I):=Hn.only O3 (λb _ e=>by rw[e,H.tp];omega) (λb hb e=>by rw[j b hb];exact e);obtain⟨HF,Y⟩:=fl (H3.Vw (c:=c) hc ⟨kd,c.im,X.iu+1,X.c,pl,⟨ck,cl,ca,val⟩⟩ nodes true (lI va val vc) (lI na nodes nc) gm V3 N3 a3 a4) j;clear HQ a3 b3 H3 P HC HB Z oW V3 N3 j a4 F z0 z1 z2 z3 z4 z5 z6 z7 z8;go_wp2;go_end0;exact⟨rfl,tag3,Y,⟨V,HF.1⟩,((O3.L λb _ e=>by rw[e,H.tp];unfold Mc;omega).andThen HF.2 λb hb e=>by rwa[Y.o b hb]at e)⟩
end
structure mD(X:Cx):Prop where
 mI:mI X.n X.m X.vo X.ce=true
 ll:X.lay.length=X.n
 ne:∀ch∈X.lay,1<=ch.length/\ch.length<=3
 a0:0<=X.iu
 a1:X.iu<=1000000000000000
def mD.B{X:Cx}(h:mD X):1<=X.n/\X.n<=3/\1<=X.m/\X.m<=3/\1<=X.vo/\X.vo<=5/\1<=X.ce/\X.ce<=16:=by have:=h.mI;simp[Go.Proofs.YtbghhbpacijmmaaGreat.mI]at this;omega
def Cx.F(X:Cx)(a:Int):Prop:=0<=a/\a<X.n*X.ce
def mD.n9{X:Cx}(h:mD X)(i:X.F a):n9 X.n X.m X.vo X.ce a=(a%X.n,a/X.n,0):=by unfold Go.Proofs.YtbghhbpacijmmaaGreat.n9;rw[aE h.mI,az (by have:=i.1;have:=i.2;omega)]
def mD.chain{X:Cx}(h:mD X)(a):∃j ch:_,(a%X.n=((j:Nat):Int))/\X.lay[j]?=some ch/\X.chain a=ch/\1<=ch.length/\ch.length<=3/\j<X.n:=by
 obtain⟨b1,_⟩:=h.B;have y:=dq a (show(X.n:Int)≠0 by omega);have A:=de a (show(0:Int)<X.n by omega);have i:(a%X.n).toNat<X.lay.length:=by rw[h.ll];omega
 refine⟨(a%X.n).toNat,X.lay[(a%X.n).toNat],C,ah i,?_,(h.ne _ (aL i)).1,(h.ne _ (aL i)).2,C⟩;unfold Cx.chain;simp_all
section
variable{X X':Cx}{V V':CV}{c c':jf}{cv cv':j7}
theorem yk(h:iN w aY t p qb X V)(hx:mD X)(hc:c∈X.dd)(hA:X.F c.iS):ib 189 #[O p,O (qb c.gH)] w λen w'=>∃L M,en=gG (dk L (X.chain c.iS).length M)/\Bl w w'/\Rd w' aY (t+3) 3 (dk L (X.chain c.iS).length M) ((X.chain c.iS).map I):=by
 obtain⟨cv,k⟩:=h.r.a c hc;obtain⟨j,ch,hj,P,e,_,_,a5⟩:=hx.chain c.iS;have HL:=fu λw=>kM X.n X.m X.vo X.ce c.iS w;rw[hx.n9 hA,hj]at HL;rw[e];obtain⟨g,a2,cap,f,Y,a4,a6,tg,hg,A⟩:=h.r.lay;obtain⟨x,Z,D⟩:=A j ch P;obtain⟨L,M,a0⟩:=D.E;rw[ay]at a0;subst a0;have cg:w.cell? (U g j)=some (lI L ch M):=by rw[ax w g j a2 24 f hg];exact Z
 have lg:=(ae.1 hg).1;obtain⟨c0,c1,c2⟩:=h.Iq 0 1 2 rfl;obtain⟨c3,c6⟩:=h.M 3 6 rfl;rw[Y,hx.ll]at c6;have e3:=k.cellAt 3 rfl;have lp:=h.B;have lq:=k.lt;have HX:=fu D;have a7:(0:Int)<=(j:Int):=C;have a8:(j:Int)<(X.n:Int):=C;generalize qb c.gH=q at*;clear h k hx Z D A hg hj P e Y;unfold I4 at HL;go_enter func189,ntmps189;go_upto_region 1 with fail;go_cut[5,6,7] λy y2 y3 wx=>y=I j/\(∃i:Int,y2=I i)/\(∃i:Int,y3=I i)/\Hid (Bl w wx)
 case first=>
  go_region_held3(λW=>W.cell? (U p 0)=some (I X.n)/\W.cell? (U p 1)=some (I X.m)/\W.cell? (U p 2)=some (I X.vo)/\W.cell? (U p 3)=some (I X.ce)/\W.cell? (U q 3)=some (I c.iS)) (go_keep) (first|(go_at_call 88;refine gF (HL _) λw2 a1=>?_;have hB:Bl w w2:=Bl.H iZ a1;obtain⟨z0,z1,z2,z3⟩:=hB.J lp c0 c1 c2 c3;have z4:=(hB.cell lq).H e3;have a3:=fu hB;clear a1 hB));all_goals(go_wp2_with fail;go_meet)
  all_goals exact⟨rfl,⟨_,rfl⟩,⟨_,rfl⟩,a3⟩
 case rest=>obtain⟨rfl,⟨i2,rfl⟩,⟨i3,rfl⟩,F⟩:=hcut;have d6:=(F.cell lp).H c6;have dg:=(F.cell lg).H cg;have a9:=af lp F.lt;have aa:=af lg F.lt;clear c0 c1 c2 c3 c6 e3 cg;go_wp2;go_ret;exact⟨L,M,rfl,F,HX.bl F λ_ _ e=>e⟩
def CS.RZ{i:List Int}{j y:Int}{A:Ct}(D:CS w aY t p qb (X.qF c i j y A) w')(F:c∈X.dd):w'.cell? (U (qb c.gH) 3)=some (I c.iS):=by
 obtain⟨bp,_,⟨V,h⟩,_⟩:=D;obtain⟨cv,k⟩:=h.r.a {c with q:=Qn.new i ⟨j,c.im,X.iu+1,X.c,y,A⟩} (by exact aD.2 ⟨c,F,aq⟩)
 exact k.cellAt 3 rfl
theorem PF(h:iN w aY t p qb X V)(y:100<=t)(Y:mD X)(Z:c∈X.dd)(hA:X.F c.iS):ib 150 #[O p,O (qb c.gH)] w λen w'=>en=gS/\CS w aY t p qb (X.oH c) w':=by
 obtain⟨cv,k⟩:=h.r.a c Z;have HC:Hid (∀W,Bl w W->_):=λW hW=>yk (h.bl hW (bp:=aY) gK) Y Z hA;have HA:Hid (∀W,Bl w W->∀A D,Rd W aY (t+3) 3 (dk A (X.chain c.iS).length D) ((X.chain c.iS).map I)->_):=λW hW A D hr=>FY (h.bl hW (bp:=aY) gK) y Z Y.a0 Y.a1 3 c.iS 0 0 0 [] (X.chain c.iS) none A 0 D Rd.nil hr;have e3:=k.cellAt 3 rfl;have lq:=k.lt;have hX:Hid (X.oH c=X.qF c (X.chain c.iS) 3 c.iS ⟨0,0,0,[]⟩):=rfl;simp only[dA]at HA;have HZ:Hid (∀W {w0:World},CS w0 aY t p qb (X.qF c (X.chain c.iS) 3 c.iS ⟨0,0,0,[]⟩) W->W.cell? (U (qb c.gH) 3)=some (I c.iS)):=λW w0 F=>F.RZ Z;generalize qb c.gH=q at*;generalize X.chain c.iS=ch at*;clear h k Y;go_enter func150,ntmps150;go_region_held3(λW=>W.cell? (U q 3)=some (I c.iS)) (go_keep) (first|(go_at_call 189;refine(HC _ ?hb).L ?_;(case hb=>exact iZ);rintro en w2⟨A,D,rfl,M,P⟩;have hB:Bl w w2:=Bl.H iZ M;have z4:=(hB.cell lq).H e3;obtain⟨i,j⟩:=fl hB P;clear M hB P)|(go_at_call 190;refine(HA _ ?hb A D ?hr).L ?_;(case hb=>first|exact i.o|exact i.drew|exact i.drewN _);(case hr=>first|exact j.o|exact j.bl (jo.drew) (λ_ _ e=>e)|exact j.bl (jo.drewN _) λ_ _ e=>e);rintro en w3⟨rfl,F⟩;have z5:=HZ _ F;have HS:=fu F;clear F));all_goals go_wp2
 all_goals go_end0
 all_goals(refine⟨rfl,?_⟩;rw[hX.o];exact CS.F (by first|exact i.o|exact i.drew|exact i.drewN _) HS)
end
section
variable{X X':Cx}{V V':CV}{c c':jf}{cv cv':j7}
def CS.xG(y:Bl w w1)(A:∀b,b<w.heap.size->bp b=aY b)(h:CS w1 bp t p qb X w'):CS w aY t p qb X w':=by obtain⟨j,D,F,L⟩:=h;exact⟨j,λb i=>(D b (af i y.lt)).H (A b i),F, ((bz.E y).andThen L λb i e=>by rwa[A b i]at e)⟩
def Lh(h:iN w aY t p qb X V)(A:mD X)(D:c∈X.dd)(F:X.F c.iS)(k)(H:k<(X.chain c.iS).length):ib 189 #[O p,O (qb c.gH)] w λj w'=>∃b o y,j=gG (dk (some (U b o)) (X.chain c.iS).length y)/\Bl w w'/\b<w'.heap.size/\w'.cell? (U b (o+k))=some (I ((X.chain c.iS).getD k 0)):=by
 refine(yk h A D F).L ?_;rintro j w'⟨Z,y,rfl,M,P⟩;obtain⟨b,o,cc,e,Y,_,_,i⟩:=P.cell (by rw[ay];omega);rw[ay]at e;obtain⟨rfl,rfl⟩:=e;exact⟨b,o,_,rfl,M,Y,i k _ (by rw[aK,aS,ah H];rfl)⟩
theorem uT(h:iN w aY t p qb X V)(P:100<=t)(hx:mD X)(hc:c∈X.dd)(hA:X.F c.iS)(a3:c.iA<(X.chain c.iS).length):ib 149 #[O p,O (qb c.gH)] w λen w'=>en=gS/\CS w aY t p qb (X.ku c) w':=by
 obtain⟨cv,F⟩:=h.r.a c hc;obtain⟨va,vc,A⟩:=F.iR.E;rw[ay]at A;have i:=F.iR;rw[A]at i;have HC:Hid (∀W,Bl w W->_):=λW hW=>Lh (h.bl hW (bp:=aY) gK) hx hc hA c.iA a3;have HK:Hid (∀W,Bl w W->∀g,w.heap.size<=g->W.heap[g]?=some (gO #[I ((X.chain c.iS).getD c.iA 0)] 3 (0,0))->_):=λW hW g hg a4=>FY (h.bl hW (bp:=gN aY w.heap.size (t+3)) λb hb=>fz _ _ _ _ hb) P hc hx.a0 hx.a1 2 c.iS c.iR.kd c.iR.cl c.iR.ca c.iR.val [(X.chain c.iS).getD c.iA 0] va (G g) vc 1 (i.bl hW λb hb e=>by rw[fz _ _ _ _ hb];exact e) (.inr ⟨g,0,1,_,_,rfl,ig _ _ _ _ hg,a4,aq,au,λj x hj=>iG hj⟩);simp only[dD]at HK;obtain⟨Y,e3,e9⟩:=F.Iq 13 3 9 rfl;obtain⟨Z,a0,D⟩:=F.Iq 10 11 12 rfl;rw[A]at D;have lq:=F.lt;have hX:Hid (X.ku c=X.qF c [(X.chain c.iS).getD c.iA 0] 2 c.iS ⟨c.iR.kd,c.iR.cl,c.iR.ca,c.iR.val⟩):=rfl;have a8:(0:Int)<=(c.iA:Int):=C;have a9:(c.iA:Int)<((X.chain c.iS).length:Int):=C;generalize qb c.gH=q at*;generalize a5:X.chain c.iS=ch at*;generalize ch.getD c.iA 0=u at*;clear h F i a5 hx;go_enter func149,ntmps149;go_upto_region 0 with fail;go_cut[4] λy wx=>y=I u/\Hid (Bl w wx)
 case first=>
  go_region_with(first|(go_at_call 189;refine(HC _ ?hb).L ?_;(case hb=>exact iZ);rintro en w2⟨b2,o2,aa,rfl,a1,ab,z5⟩;have hB:Bl w w2:=Bl.H iZ a1;have z4:=(hB.cell lq).H Y;have a6:=fu hB;clear a1 hB));all_goals(go_wp2_with fail;go_meet)
  all_goals exact⟨rfl,a6⟩
 case rest=>
  obtain⟨rfl,M⟩:=hcut;obtain⟨d3,d9,ac⟩:=M.F lq e3 e9 Z;obtain⟨ad,ag⟩:=M.E lq a0 D;have ai:=af lq M.lt;have lw:=M.lt;clear e3 e9 Z a0 D Y HC;go_upto_region 1 with fail;go_region_with(first|(go_at_call 190;refine(HK _ (M.H ?hb) _ ?hl ?hg).L ?_;(case hb=>exact mG);(case hg=>first|exact ao _ _|exact ao wc.drew _|exact ao (wc.drewN _) _);(case hl=>first|omega|(simp;omega));rintro en w3⟨rfl,a2⟩;have a7:=fu (CS.xG (aY:=aY) (M.H (by exact mG)) (λb hb=>fz _ _ _ _ hb) a2);clear a2));all_goals
   go_wp2;go_end0;refine⟨rfl,?_⟩;rw[hX.o];exact a7
end
def Tryz.Bo:Go.Shelf.Ren:=⟨fun|7=>237|10=>267|n=>n,fun|23=>98|26=>3|3=>163|28=>326|0=>0|27=>325|33=>131|4=>4|n=>n,fun|n=>n⟩
def Tryz.Su:Go.Proofs.SlLaysZI.n7 prog Tryz.Bo:={
 mixed:=by kernel_rfl
 f7:=⟨Tryz.f237.name,by decide,func237.trans (congrArg some (by kernel_rfl))⟩
 f10:=⟨Tryz.f267.name,by decide,func267.trans (congrArg some (by kernel_rfl))⟩
 t0:=underlying0
 a0:=Tryz.isAgg0
 z0:=Tryz.sizeOf0
 v0:=Tryz.zeroValue0
 t4:=underlying4
 a4:=Tryz.isAgg4
 z4:=Tryz.sizeOf4
 v4:=Tryz.zeroValue4
 t23:=underlying98
 a23:=Tryz.isAgg98
 z23:=Tryz.sizeOf98
 v23:=Tryz.zeroValue98
 t26:=underlying3
 a26:=Tryz.isAgg3
 z26:=Tryz.sizeOf3
 v26:=Tryz.zeroValue3
 t27:=underlying325
 a27:=Tryz.isAgg325
 z27:=Tryz.sizeOf325
 v27:=Tryz.zeroValue325
 t28:=underlying326
 a28:=Tryz.isAgg326
 z28:=Tryz.sizeOf326
 v28:=Tryz.zeroValue326
 t33:=underlying131
 a33:=Tryz.isAgg131
 z33:=Tryz.sizeOf131
 v33:=Tryz.zeroValue131}
def Tryz.wM:Go.Shelf.Ren:=⟨fun|6=>236|8=>266|9=>95|11=>286|13=>157|12=>156|23=>205|24=>206|14=>196|15=>197|16=>198|17=>199|18=>200|19=>201|20=>202|21=>203|22=>204|25=>238|26=>239|27=>240|28=>241|29=>242|30=>243|31=>268|n=>n,fun|26=>3|28=>326|24=>24|0=>0|3=>3|37=>144|48=>283|50=>285|4=>4|40=>277|39=>276|45=>140|5=>5|9=>9|51=>328|55=>332|57=>356|58=>357|33=>131|n=>n,fun|n=>n⟩
def Tryz.Pm:Go.Proofs.SlLaysZI.n6 prog Tryz.wM:={
 mixed:=by kernel_rfl
 f6:=⟨Tryz.f236.name,by decide,func236.trans (congrArg some (by kernel_rfl))⟩
 f8:=⟨Tryz.f266.name,by decide,func266.trans (congrArg some (by kernel_rfl))⟩
 f11:=⟨Tryz.f286.name,by decide,func286.trans (congrArg some (by kernel_rfl))⟩
 t0:=underlying0
 a0:=Tryz.isAgg0
 z0:=Tryz.sizeOf0
 v0:=Tryz.zeroValue0
 t24:=underlying24
 a24:=Tryz.isAgg24
 z24:=Tryz.sizeOf24
 v24:=Tryz.zeroValue24
 t26:=underlying3
 a26:=Tryz.isAgg3
 z26:=Tryz.sizeOf3
 v26:=Tryz.zeroValue3
 t28:=underlying326
 a28:=Tryz.isAgg326
 z28:=Tryz.sizeOf326
 v28:=Tryz.zeroValue326
 i26:=by kernel_rfl}
def Tryz.Kc:Go.Shelf.Ren:=⟨fun|4=>265|n=>n,fun|22=>24|25=>3|3=>3|4=>4|9=>9|20=>20|0=>0|n=>n,fun|n=>n⟩
def Tryz.Uq:Go.Proofs.Lays8.n4 prog Tryz.Kc:={
 mixed:=by kernel_rfl
 f4:=⟨Tryz.f265.name,by decide,func265.trans (congrArg some (by kernel_rfl))⟩
 t0:=underlying0
 a0:=Tryz.isAgg0
 z0:=Tryz.sizeOf0
 v0:=Tryz.zeroValue0
 t3:=underlying3
 a3:=Tryz.isAgg3
 z3:=Tryz.sizeOf3
 v3:=Tryz.zeroValue3
 t4:=underlying4
 a4:=Tryz.isAgg4
 z4:=Tryz.sizeOf4
 v4:=Tryz.zeroValue4
 t9:=underlying9
 a9:=Tryz.isAgg9
 z9:=Tryz.sizeOf9
 v9:=Tryz.zeroValue9
 t20:=underlying20
 a20:=Tryz.isAgg20
 z20:=Tryz.sizeOf20
 v20:=Tryz.zeroValue20
 t22:=underlying24
 a22:=Tryz.isAgg24
 z22:=Tryz.sizeOf24
 v22:=Tryz.zeroValue24}
def OI(k:Nat)(w)(V:0<k)(Y:k<=100):ib 265 #[OO,I k] w λe w'=>∃g cap,e=gG (dk (G g) 0 cap)/\w'.ownsRow w.heap.size 3 1 (dk (G g) 0 cap) 0 []/\Bl w w':=by
 obtain⟨M,P,i,y,A⟩:=fx Tryz.sU;refine(Any8.slices_Grow_grow Tryz.Uq M (I 0) P i (T2 y) none 0 0 k [] w C C (qj A) C aq (λ_=>rfl) λa e=>lY e).L ?_;rintro e w'⟨rfl,rfl⟩;refine⟨_,_,rfl,?_,(jo.drew).alloc _⟩;have D:=grownCap_ge w (0+k) 0 3;have F:=grownCap_le_maxLen w (0+k) 0 3 (by unfold maxLen;omega);refine⟨rfl,.inr ⟨w.heap.size,_,_,rfl,jc,ao w.drew _,jd,F,?_,aq⟩⟩;have H:∀j,(Builtin.zeroCells (I 0).cells j).size=j:=λj=>by rw[size_zeroCells];exact Nat.mul_one j
 change (#[]++Builtin.zeroCells (I 0).cells (0+k-0)++Builtin.zeroCells (I 0).cells (grownCap w (0+k) 0 3-(0+k))).size=grownCap w (0+k) 0 3*1;rw[Array.size_append,Array.size_append,H,H];simp;simp at D;omega
def tk(lay:List (List Int))(j:Nat):List Int:=(lay.take j).flatten
def xZ{lay:List (List Int)}{j:Nat}{ch:List Int}(h:lay[j]?=some ch):tk lay (j+1)=tk lay j++ch:=by unfold tk;rw[cW,h];simp
theorem FZ{lay:List (List Int)}(i:∀ch∈lay,ch.length<=3)(j):(tk lay j).length<=3*j:=by
 induction j with
 |zero=>simp[tk]
 |succ j y=>
  cases e:lay[j]? with
  |none=>
   have:tk lay (j+1)=tk lay j:=by unfold tk;rw[cW,e];simp
   rw[this];omega
  |some ch=>have:=i ch (aR e);rw[xZ e,aO];omega
def Nk(lay):tk lay lay.length=kz lay:=by unfold tk kz;rw[bZ]
theorem Ie{lay:List (List Int)}(h:pj w aY tc v lay)(n1:1<=lay.length)(n3:lay.length<=3)(P:∀ch∈lay,1<=ch.length/\ch.length<=3):ib 235 #[v] w λe w'=>∃g cap,e=gG (dk (G g) (kz lay).length cap)/\w'.ownsRow w.heap.size 3 1 (dk (G g) (kz lay).length cap) (kz lay).length ((kz lay).map I)/\Bl w w':=by
 obtain⟨i3,ji,ab,ac,ad⟩:=fx Tryz.sU;obtain⟨g,ag,cap,f,rfl,_,_,tg,hg,hx⟩:=h;have lg:=(ae.1 hg).1;have F:Hid (∀j:Nat,j<lay.length->∃b o c ch,lay[j]?=some ch/\1<=ch.length/\ch.length<=3/\w.cell? (U g j)=some (dk (some (U b o)) ch.length c)/\b<w.heap.size/\∀k u,(ch.map I)[k]?=some u->w.cell? (U b (o+k))=some u):=λj hj=>by have hc:=P _ (aL hj);obtain⟨x,h1,h2⟩:=hx j lay[j] (ah hj);obtain⟨b,o,c,rfl,lb,_,_,a0⟩:=h2.cell gM;rw[ay]at h1;exact⟨b,o,c,lay[j],ah hj,hc.1,hc.2,by rw[ax w g j ag 24 f hg];exact h1,lb,λk u hk=>a0 k u hk⟩
 have a3:=FZ (λch hc=>(P ch hc).2) lay.length;rw[Nk]at a3;have a4:0<(kz lay).length:=by
  obtain⟨b,o,c,ch,y,a1,_⟩:=F 0 n1;unfold kz;rw[List.length_flatten]
  cases lay with
  |nil=>simp at n1
  |cons x l=>simp at y;subst y;simp;omega
 obtain⟨HG,HT⟩:=fl (λw=>OI (kz lay).length w a4 C) (FZ (lay:=lay) λch hc=>(P ch hc).2);generalize hn:lay.length=n at*;have HN:=fu hn;clear hx hg hn P;go_enter func235,ntmps235;go_wp2;go_loop[3,11] (λs i=>∃j:Nat,j<=n/\i=I j/\s=I ((tk lay j).length:Nat)) λ_ i=>n-(Go.RowKit.intOf i).toNat
 case atStart=>exact⟨0,jd,rfl,by simp[tk]⟩
 obtain⟨j,hj,rfl,rfl⟩:=hrel;by_cases iV:j<n
 .obtain⟨b,o,c,ch,y,a1,ai,h1,lb,h2⟩:=F j iV;have b3:=HT j;have hs:(tk lay (j+1)).length=(tk lay j).length+ch.length:=by rw[xZ y,aO]
  have a5:(j:Int)<(n:Int):=C;generalize (tk lay j).length=jm at*;have Hs:=fu hs;clear hs h2 y;go_wp2;go_round
  case rel=>exact⟨j+1,C,gX,by rw[Hs.o];go_num⟩
  exact gW
 have ak:j=n:=C;subst ak;have a6:tk lay j=kz lay:=by rw[<-HN.o];exact Nk lay
 rw[a6];go_wp2_with fail;refine(HG _).L ?_;rintro e w1⟨g1,a7,rfl,a8,a9⟩;obtain⟨al,am⟩:=fl a8 a9;clear a8 a9 HG;go_wp2;go_loopw[6,27](λd i wr=>∃k:Nat,k<=j/\i=I k/\(∃g2 A,d=dk (G g2) (tk lay k).length A/\Hid (wr.ownsRow w.heap.size 3 1 (dk (G g2) (tk lay k).length A) (tk lay k).length ((tk lay k).map I)))/\Hid (Bl w wr)) λ_ i _=>j-(Go.RowKit.intOf i).toNat
 case atStart=>exact⟨0,jd,rfl,⟨g1,a7,by simp[tk],by unfold Hid;simpa [tk]using al.o⟩,am⟩
 obtain⟨k,hk,rfl,⟨g2,A,rfl,V⟩,D⟩:=hrel;by_cases iV:k<j
 .obtain⟨b,o,c,ch,y,a1,ai,h1,lb,h2⟩:=F k iV;have b4:=HT k;have Hs:Hid ((tk lay (k+1)).length=(tk lay k).length+ch.length):=by unfold Hid;rw[xZ y,aO]
  have Hr:Hid ((tk lay k).map I++ch.map I=(tk lay (k+1)).map I):=by unfold Hid;rw[xZ y,aZ]
  have a5:(k:Int)<(j:Int):=C;have d1:=(D.cell lg).H h1;have b5:=af lg D.lt;have an:=D.lt;have a2:Hid (∀i u,(ch.map I)[i]?=some u->wr.cell? (((U b o):Addr).add i)=some u):=λi u hu=>by rw[mU,D.cell lb];exact h2 i u hu
  have aa:Hid (∀u∈(ch.map I),u.oneCell'=true):=λu hu=>by obtain⟨i,_,rfl⟩:=aD.1 hu;rfl
  have ap:Hid ((tk lay k).length+ch.length<=maxLen):=mQ;have ar:Hid (((tk lay k).length+ch.length)*8<=140737488355328):=lQ;clear h2 h1 y;go_wp2_with(at_builtin;refine fm _ rfl _ _ 24 rfl w.heap.size 3 i3 (I 0) 1 8 underlying24 ji ab ac ad rfl au _ (tk lay k).length _ rfl V (U b o) ch.length c _ rfl aq a2 aa a1 ap ar an wr.heap.size rfl ?_);intro g' Y w3 Z M av b2;have aw:Hid (Bl w w3):=D.B (bz.B M) λb e=>(V.lt b e.symm).1;have b0:Hid (w3.ownsRow w.heap.size 3 1 (dk (G g') (tk lay (k+1)).length Y) (tk lay (k+1)).length ((tk lay (k+1)).map I)):=by unfold Hid;rw[<-Hr.o,Hs.o];exact Z
  clear Z M av;go_wp2;go_roundw
  case rel=>exact⟨k+1,C,gX,⟨g',Y,qz Hs.o,b0⟩,aw⟩
  exact gW
 have b1:k=j:=C;subst b1;rw[a6]at V|-;go_wp2;go_ret;exact⟨g2,A,rfl,V,D⟩
theorem xW{lay:List (List Int)}(h:pj w aY tc v lay)(j:1<=lay.length)(y:lay.length<=3)(i:∀ch∈lay,1<=ch.length/\ch.length<=3):ib 191 #[v] w λe w'=>∃g cap,e=gG (dk (G g) (kz lay).length cap)/\w'.ownsRow w.heap.size 3 1 (dk (G g) (kz lay).length cap) (kz lay).length ((kz lay).map I)/\Bl w w':=by
 have H:=fu (Ie h j y i);go_enter func191,ntmps191;go_wp2_with(refine H.L ?_;rintro e w2⟨g,cap,rfl,A,D⟩;have F:=fu D);go_ret;exact⟨g,_,rfl,(fu A).o,F⟩
def Cx.xN(X:Cx){c1 c2:jf}(h:c1.gH=c2.gH):(X.put c1).put c2=X.put c2:=by
 unfold Cx.put;simp only[br];congr 1;refine bf λx _=>?_;show(if(if x.gH=c1.gH then c1 else x).gH=c2.gH then c2 else(if x.gH=c1.gH then c1 else x))=if x.gH=c2.gH then c2 else x
 by_cases e:x.gH=c1.gH;all_goals simp_all
def Cx.CM(X:Cx)(c)(nodes)(kd pl)(ct):(X.put c).qF c nodes kd pl ct=X.qF c nodes kd pl ct:=by show(({X with iu:=X.iu+1}:Cx).put c).put _=({X with iu:=X.iu+1}:Cx).put _;exact Cx.xN _ rfl
def mD.put{X:Cx}(h:mD X)(c):mD (X.put c):=⟨h.mI,h.ll,h.ne,h.a0,h.a1⟩
section
variable{X X':Cx}{V V':CV}{c c':jf}{cv cv':j7}
def iN.Vn(h:iN w aY t p qb X V)(i:c∈X.dd)(wh ad):iN (jX w (qb c.gH) 14 [I wh,I ad,OO]) aY t p qb (X.put {c with e:=⟨wh,ad,[]⟩}) V/\bz (λb=>Mc t (aY b)) w (jX w (qb c.gH) 14 [I wh,I ad,OO]):=by obtain⟨cv,k⟩:=h.r.a c i;have j:bz _ w (jX w _ 14 [I wh,I ad,OO]):=jw (S:=λb=>b=qb c.gH) (.inl rfl) _ 14 w (bz.refl _ w);have y:j9 _ aY t (qb c.gH) {c with e:=⟨wh,ad,[]⟩} {cv with ev:= OO}:=k.B j (jY _ 14 w _ k.hq) rfl k.gZ k.iR Rd.nil k.q;exact⟨h.call i (k.wJ j) y rfl rfl,h.CL i (k.wJ j)⟩
theorem Ft(h:iN w aY t p qb X V)(L:100<=t)(M:mD X)(hc:c∈X.dd)(mark wh ad):ib 151 #[O p,O (qb c.gH),I mark,.agg #[I wh,I ad,OO]] w λP w'=>P=gS/\CS w aY t p qb (X.oO c mark ⟨wh,ad,[]⟩) w':=by
 obtain⟨cv,hk⟩:=h.r.a c hc;obtain⟨b1,b2,_⟩:=M.B;obtain⟨W,hW⟩:=dS (w.alloc (gO #[I wh,I ad,OO] 43));have F:=(Bl.refl w).alloc (gO #[I wh,I ad,OO] 43);have hX:=ao w (gO #[I wh,I ad,OO] 43);rw[hW]at F hX;obtain⟨r0,r1,r2,lr⟩:=Ao hX;have D:=h.bl F (bp:=aY) gK;obtain⟨ag,y⟩:=D.r.a c hc;obtain⟨A,Y⟩:=D.Vn hc wh ad;obtain⟨a4,a5,a6⟩:=y.Iq 14 15 16 rfl;obtain⟨a7,a8,a9⟩:=y.VJ 14 15 16;have lq:=y.lt;have nq:qb c.gH≠w.heap.size:=by have:=hk.lt;omega
 obtain⟨W1,j⟩:=dS (jX W (qb c.gH) 14 [I wh,I ad,OO]);rw[j]at A Y;have d6:=A.cellAt 6 rfl;have ai:=A.B;have Z:1<=X.lay.length/\X.lay.length<=3:=by rw[M.ll];omega
 have HL:=fu (xW A.r.lay Z.1 Z.2 M.ne);have S1:CS w aY t p qb (X.put {c with e:=⟨wh,ad,[]⟩}) W1:=CS.F F (CS.mk A Y);have HA:Hid (∀W2,Bl W1 W2->∀g cap,W2.ownsRow W1.heap.size 3 1 (dk (G g) (kz X.lay).length cap) (kz X.lay).length ((kz X.lay).map I)->ib 190 #[O p,O (qb c.gH),dk (G g) (kz X.lay).length cap,EJ 4 0 0 0 mark 0 0 0 OO] W2 λP w'=>P=gS/\CS w aY t p qb (X.oO c mark ⟨wh,ad,[]⟩) w'):=λW2 i g cap ho=>by have l1:=Y.size;have l2:=F.lt;have ht:∀b,b<W1.heap.size->gN aY W1.heap.size (t+3) b=aY b:=λb hb=>fz _ _ _ _ hb;have aa:({c with e:=⟨wh,ad,[]⟩}:jf)∈(X.put {c with e:=⟨wh,ad,[]⟩}).dd:=Cx.nE hc rfl;have:=FY (A.bl i ht) L aa M.a0 M.a1 4 mark 0 0 0 [] (kz X.lay) none (G g) 0 cap Rd.nil (Rd.pB ho λb ab=>ig _ _ _ _ (ho.lt b ab).1);refine this.L λP w'⟨e1,e2⟩=>⟨e1,?_⟩;rw[Cx.CM]at e2;obtain⟨a0,k1,k2,k3⟩:=e2;have l3:=i.lt;refine⟨a0,λb hb=>(k1 b C).H (ht b C),k2,?_⟩;exact(((bz.E (S:=λb=>Mc t (aY b)) F).H Y).H (bz.E i)).andThen k3 λb hb e=>by rwa[ht b C]at e
 obtain⟨a1,HE,a2⟩:=gV A.r.lay j hW;generalize hq:qb c.gH=q at*;clear h hk D y A Y hW F hX j S1;go_enter func151,ntmps151;go_upto_region 1 with fail;rw[a2.o];clear a2;go_upto_region 2 with fail;have a3:((W.setCell (U q 14) (I wh)).setCell (U q 15) (I ad)).setCell (U q 16) OO=W1:=HE.o;rw[a3];clear HE a3 a4 a5 a6 a7 a8 a9 r0 r1 r2;obtain⟨gl,cl0,ac⟩:∃gl cl0,V.lv=dk (G gl) X.lay.length cl0:=by obtain⟨g,ak,cap,f,e,_⟩:=a1.o;exact⟨g,cap,e⟩
 rw[ac]at d6 HL;go_wp2_with(first|(go_at_call 191;refine HL.L ?_;rintro P w2⟨g,cap,rfl,ho,i⟩;obtain⟨HO,HB⟩:=fl ho i;clear ho i HL)|(go_at_call 190;refine ix (HA _ HB _ _ HO) λw3 HS=>?_));go_end0;exact⟨rfl,HS⟩
end
def qx(l):∀x∈(gR l).toList,MapKept.IsKey (.int .i64) x.key:=by intro x i;simp[gR]at i;obtain⟨e,_,rfl⟩:=i;exact rfl
def kZ{l:List Ae}(h:x∈(gR l).toList):∃e∈l,x=e.B:=by simp[gR]at h;obtain⟨e,i,rfl⟩:=h;exact⟨e,i,rfl⟩
def R9{l1 l2:List Ae}{e:Ae}(L:∀x∈l1,x.k≠e.k)(A:∀x∈l2,x.k≠e.k):Instr.findNow (.int .i64) (.int .i64 e.k) (gR (l1++e::l2)).toList 0=some (some (l1.length,e.v)):=by
 have F:(gR (l1++e::l2)).toList=l1.map Ae.B++e.B::l2.map Ae.B:=by simp[gR]
 obtain⟨_,i⟩|⟨j,x,M,i,H⟩:=ZR (d:= .int .i64) (k:= .int .i64 e.k) rfl (gR (l1++e::l2)).toList 0 (qx _)
 .exact absurd rfl (i e.B (nI F))
 rw[F]at i;have hj:j=l1.length:=by
  obtain hj|hj|hj:=fh j l1.length
  .exfalso;rw[aB (iG hj),aK]at i;obtain⟨y,D,rfl⟩:=bN.1 i;exact L y (aR D) (by simpa [Ae.B]using H)
  .exact hj
  exfalso;rw[aC gM,ay,show j-l1.length=(j-l1.length-1)+1 by omega,dx,aK]at i;obtain⟨y,D,rfl⟩:=bN.1 i;exact A y (aR D) (by simpa [Ae.B]using H)
 subst hj;rw[aC aq]at i;simp at i;subst i;rw[M];simp[Ae.B]
def Ox(l1 l2)(e):(gR (l1++e::l2)).eraseIdxIfInBounds l1.length=gR (l1++l2):=by simp[gR,List.eraseIdx_append_of_length_le]
def L8{bm clk:Nat}{l1 l2:List Ae}{e:Ae}(ty)(j:w.heap[bm]?=some (.map (gR (l1++e::l2)) clk))(y:∀x∈l1,x.k≠e.k)(i:∀x∈l2,x.k≠e.k):(Builtin.delete_ #[98,3] ty #[.map (some bm),.int .i64 e.k]).run prog w=.ok (.tuple #[]) (setBlock w bm (.map (gR (l1++l2)) clk)):=by
 have A:=fa (w:=w) underlying3 (R9 y i);have D:=eW (P:=prog) (w:=w) (k:= .int .i64 e.k) underlying3 sj (gR (l1++e::l2)).isEmpty 9999;simp[Builtin.delete_,Sem.run_bind,aI j,D,A,Z7 _ j,setBlock,Ox]
end Go.Proofs.YtbghhbpacijmmaaGreat
