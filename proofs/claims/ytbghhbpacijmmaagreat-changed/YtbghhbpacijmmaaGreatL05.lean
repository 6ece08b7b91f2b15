import Derived.Shelf.SlIterI.Nil
import Derived.Shelf.SlIterI.Sorted
import Derived.Shelf.Spec.SlicesGrow
import Derived.Test.YtbghhbpacijmmaaGreatProg
import Derived.Test.YtbghhbpacijmmaaGreatL04
open Go.Proofs.Tryz
namespace Go.Proofs.YtbghhbpacijmmaaGreat
set_option maxRecDepth 99999
set_option maxHeartbeats 0
set_option linter.defProp false
set_option linter.unusedVariables false
open Go.RowKit Go.Maps Go.Shelf
attribute [local go_sem ↓] Go.wp_at_zero Go.wp_at_succ
open Go.ChangeMaps (setBlock)
variable {w w' w1 W:World} {gH gI qb Q:Nat->Nat} {t p g tg q tn tb gm tc r n:Nat} {rs:List Rc} {v iv ov:Value} {S:Nat->Int->Ep} {a b c d ch:Int} {N:Pn} {cs xs:List Value} {l:List Qv} {e:TypeId} {ds:List Int} {q':List Qz} {x:MapEntry}
def Oh(w)(p):(method 512 233 (Value.agg #[Value.pointer (some {block:=p,off:=0})]) "furrow/nodes.answer").run prog w=.ok (333,Value.agg #[Value.pointer (some {block:=p,off:=0})]) w:=rfl
def Q7(w)(p):(method 512 238 (Value.agg #[Value.pointer (some {block:=p,off:=0})]) "furrow/nodes.answer").run prog w=.ok (340,Value.agg #[Value.pointer (some {block:=p,off:=0})]) w:=rfl
theorem mI.Y(h:mI w gH tg a b c d iv N)(i:∀g,g<w.heap.size->gH g=tg->gI g=tg):mI w gI tg a b c d iv N:=by
 cases N with
 |unit ch rs S=>let⟨p,e,K,y,A,F,H⟩:=h;exact⟨p,e,K,y,A,i p y.jU.lt F,λg hF=>i g (y.IJ hF).2 (H g hF)⟩
 |voter rs S=>let⟨p,e,bm,M,L,j,A,F,P,H⟩:=h;exact⟨p,e,bm,M,L,j,A,i p j.lt F,i bm j.mp.lt P,λg hF=>i g (j.wT hF).2 (H g hF)⟩
def F4{wc:World}{clk:Nat}{L:Value}{q:List Qz}{F:Value}(h:Qm w gH tn tb g gm clk iv ov l q)(y:Bl w W)(ho:wc.ownsRow W.heap.size 5 1 F n xs)(V:∀b,F.ownBlock=some b->gI b=4)(M:∀b,b<W.heap.size->gI b=iq gH w.heap.size 5 b)(P:gL (λg=>iq gH w.heap.size 5 g=tg) W wc)(a0:10<=tg)(Y:tg≠tn)(T:tg≠tb)(hp:mI wc gI tg a b c d L N):∃j,(∀b,b<w.heap.size->j b=gH b)/\Qm wc j tn tb g gm clk iv ov l q/\(∀b,F.ownBlock=some b->j b=tb)/\(∀x∈l,∀b,x.xU=some b->F.ownBlock≠some b)/\mI wc j tg a b c d L N/\gL (λb=>gH b=tg) w wc:=by
 have hs:∀b,F.ownBlock=some b->W.heap.size<=b:=λb A=>(ho.lt b A).1;have o1:gL (λb=>gH b=tg) w wc:=⟨P.os.H y.os,P.tape.H y.tape,P.output.H y.output,aF y.lt P.size,λi H hn=>by rw[P.block i (af H y.lt) λe=>hn (by rwa[gV _ _ _ _ H]at e),y.heap H]⟩
 have t2:∀b,b<w.heap.size->(λb=>if F.ownBlock=some b then tb else gI b) b=gH b:=λb A=>by simp only;rw[az λe=>by have:=hs b e;have:=y.lt;omega,M b (af A y.lt),gV _ _ _ _ A]
 refine⟨λb=>if F.ownBlock=some b then tb else gI b,t2,h.only o1 (λb _ e=>by rw[e];exact⟨Y,T⟩) t2,λb A=>by simp only;rw[aE A],λx hx b A e=>?_,hp.Y λb A e=>?_,o1⟩
 .obtain⟨i,H,rfl⟩:=aV.1 hx;have Z:i<q.length:=by rw[<-h.len];exact H
  have:=((h.vs i l[i] q[i] (ah H) (ah Z)).xU A).1;have:=hs b e;have:=y.lt;omega
 show(if F.ownBlock=some b then tb else gI b)=tg;rw[az λe'=>by have:=V b e';omega];exact e
def Cm{wc y w5:World}{h i:Nat->Nat}{j:Pn}{r:Rq}(V:∀b,b<w.heap.size->h b=gH b)(s1:W.heap.size<=wc.heap.size)(s0:w.heap.size<=W.heap.size)(Y:mI wc h tg a b c d iv j)(Z:gL (λb=>gH b=tg) w wc)(A:Bl wc y)(M:∀b,b<y.heap.size->i b=h b)(q5:Q0 w5 i tn tb g iv q')(P:gL (λb=>h b=tn) y w5)(F:tn≠tg)(L:Pn.step a b c d r ds N j):(∀b,b<w.heap.size->i b=gH b)/\Pn.step a b c d r ds N j/\Nd w5 i tg tn tb g a b c d j q'/\gL (λb=>gH b=tg\/gH b=tn) w w5:=by
 have sx:=A.lt;refine⟨λb T=>by rw[M b C,V b T],L,⟨iv,((Y.only (iT A) (λ_ _ e=>e.elim) hU).only P (λb _ e=>jk e F) M),q5⟩,?_⟩;refine((Z.L λ_ _ e=>.inl e).H (gL.B A)).andThen P λb T e=>.inr ?_;simp_all
section
variable{clk:Nat}{q:List Qz}
theorem VZ{S:Nat->St}(hk:Kt w gH tg p a b c d ch rs S)(hq:Qm w gH tn tb g gm clk (.iface 233 (.agg #[.pointer (some ⟨p,0,none⟩)])) ov l q)(b0:10<=tg)(Y:tn≠tg)(aa:tb≠tg)(b1:tb≠tn)(b2:q.length<=1000)(v)(fr)(r)(h0:1000<=fr)(h1:fr<=1099)(hv:sP w v (iV r.kd [r.ln,r.nr,r.ep,r.pl,r.ct.kd,r.ct.cl,r.ct.ca] r.ct.val))(ok:SY r (.unit ch rs S))(hl:(iE rs).length<=1000000000000):iB 161 #[.pointer (some ⟨g,0,none⟩),.int .i64 fr,v] w λen w'=>en=iw/\∃N' ds gI,(∀b,b<w.heap.size->gI b=gH b)/\Pn.step a b c d r ds (.unit ch rs S) N'/\Nd w' gI tg tn tb g a b c d N' (Br q ⟨fr,r.ln,r.nr,ds⟩)/\gL (λb=>gH b=tg\/gH b=tn) w w':=by
 obtain⟨kd,ln,i,e,x,⟨Z,cl,ca,val⟩⟩:=r;let⟨ab,a3,F,a4⟩:=ok;simp only at ab a3 F a4 hv;have wf:=F.wf;let⟨HR,HQ,Hk⟩:=iz (td v kd ln i e x Z cl ca val w hv ab F) hq hk;let⟨ac,a5,j⟩:=iz a4 a3 wf;have be:Hid (val.length<=255):=F.v1;have hg:=hq.hp;have HG:=gP hg;have ad:=hq.tg;clear hv F hk hq a4 wf a3 hg;go_enter func161,ntmps161;go_wp2_with fail;refine HR.L ?_;rintro en w1⟨va,vc,rfl,a0,a6⟩;have a7:=(a0.heap (ae.1 HG).1).H HG;let⟨W,hW⟩:=gJ (w1.alloc (AM kd ln i e x Z cl ca va val vc));have bX:=(Bl.refl w1).alloc (AM kd ln i e x Z cl ca va val vc);have M:=(bX.heap (ae.1 a7).1).H a7;have a1:=ao w1 (AM kd ln i e x Z cl ca va val vc);rw[hW]at bX M a1;have bW:=a0.H bX;have c0:W.cell? ⟨g,0,none⟩=some (.iface 233 (.agg #[.pointer (some ⟨p,0,none⟩)])):=ax W g 0 _ 127 (0,0) M;obtain⟨⟨q0,q1,q2,q3,q4,q5,q6,q7,q8⟩,_,lq⟩:=uf a1;have lg:=(ae.1 M).1;have HV:=gP (gZ (base':=w.heap.size) ((iT bX).iX a6 λ_ _ e=>e) λb hb=>(a6.lt b hb).1);obtain⟨R,hR⟩:∃R,R=uT a b c d ch (S rs.length) kd e x Z cl ca val:=⟨_,rfl⟩;have b3:R.1.ct.val.length<=255:=by rw[hR];exact OI Hk.V7 kd e x Z cl ca val
 have HA:Hid (∀W',Bl W W'->_):=λW' A=>Jl (w:=W') (gH:=iq gH w.heap.size 5) (tg:=tg) (p:=p) (Hk.only (iT (bW.H A)) (λ_ _ e=>e.elim) λg hg=>gV _ _ _ _ hg) C kd ln i e x Z cl ca a5.1 va vc val (j e gG) (j x gG) (j Z gG) (j cl gG) (j ca gG) ((Az HV).bl A) (λb hb=>⟨af (HV.lt b hb).2 A.lt,by rw[iJ _ _ _ _ (HV.lt b hb).1];omega⟩) ac a5.2 hl R hR b3;let⟨b4,ag,a8⟩:=iz hR hW M;let⟨a9,ai⟩:=gO a1 bW;have ak:w.heap.size<=w1.heap.size:=a0.lt;have al:g<w.heap.size:=(ae.1 HG).1;clear HR hW a1 M a7 a0 a6 bX bW ac a5 j hR;go_upto_region 2 with fail;rw[ag.o];clear ag;generalize w1.heap.size=P at*;have b5:=λW=>Oh W p;go_cut[8,9]from 25 to 33 λy z wx=>∃ba bc h S' gI,y=gN ba (iV 101 [i,R.1.wh,R.1.ep,R.1.mark,R.1.ct.kd,R.1.ct.cl,R.1.ct.ca] R.1.ct.val).length bc/\z=.bool true/\Hid (wx.ownsRow W.heap.size 5 1 (gN ba (iV 101 [i,R.1.wh,R.1.ep,R.1.mark,R.1.ct.kd,R.1.ct.cl,R.1.ct.ca] R.1.ct.val).length bc) (iV 101 [i,R.1.wh,R.1.ep,R.1.mark,R.1.ct.kd,R.1.ct.cl,R.1.ct.ca] R.1.ct.val).length ((iV 101 [i,R.1.wh,R.1.ep,R.1.mark,R.1.ct.kd,R.1.ct.cl,R.1.ct.ca] R.1.ct.val).map B8))/\Hid (∀b,(gN ba (iV 101 [i,R.1.wh,R.1.ep,R.1.mark,R.1.ct.kd,R.1.ct.cl,R.1.ct.ca] R.1.ct.val).length bc).ownBlock=some b->gI b=4)/\Hid (∀b,b<W.heap.size->gI b=iq gH w.heap.size 5 b)/\Hid (qo rs S h S'/\S' h.length=R.2/\(iE h).length<=(iE rs).length+60)/\Hid (Kt wx gI tg p a b c d ch h S')/\Hid (gL (λg=>iq gH w.heap.size 5 g=tg) W wx)
 case first=>
  go_region_held3(λW=>W.cell? ⟨g,0,none⟩=some (.iface 233 (.agg #[.pointer (some ⟨p,0,none⟩)]))/\W.cell? ⟨P,0,none⟩=some (.int .i64 kd)/\W.cell? ⟨P,1,none⟩=some (.int .i64 ln)/\W.cell? ⟨P,2,none⟩=some (.int .i64 i)/\W.cell? ⟨P,3,none⟩=some (.int .i64 e)/\W.cell? ⟨P,4,none⟩=some (.int .i64 x)/\W.cell? ⟨P,5,none⟩=some (.int .i64 Z)/\W.cell? ⟨P,6,none⟩=some (.int .i64 cl)/\W.cell? ⟨P,7,none⟩=some (.int .i64 ca)/\W.cell? ⟨P,8,none⟩=some (lF va val vc)) (go_keep)
   (first|(go_at_call 333;refine(HA _ ?hb).L ?_;(case hb=>exact jg);rintro en w2⟨ba,bc,h,S',gI,rfl,ho,am,a2,hM,hE,an,ap,oQ⟩;have e1:=(oQ.block g lg (by rw[gV _ _ _ _ al,ad];exact Y)).H a8;have T:=(oQ.block P lq (by rw[iJ _ _ _ _ ak];omega)).H a9;have zg:=(ax w2 _ 0 _ 127 (0,0) e1);simp at zg;have z0:=(ax w2 _ 0 _ 100 (0,0) T);simp at z0;have z1:=(ax w2 _ 1 _ 100 (0,0) T);simp at z1;have z2:=(ax w2 _ 2 _ 100 (0,0) T);simp at z2;have z3:=(ax w2 _ 3 _ 100 (0,0) T);simp at z3;have z4:=(ax w2 _ 4 _ 100 (0,0) T);simp at z4;have z5:=(ax w2 _ 5 _ 100 (0,0) T);simp at z5;have z6:=(ax w2 _ 6 _ 100 (0,0) T);simp at z6;have z7:=(ax w2 _ 7 _ 100 (0,0) T);simp at z7;have z8:=(ax w2 _ 8 _ 100 (0,0) T);simp at z8;have l1:=(ae.1 e1).1;have l2:=(ae.1 T).1;have V:=gP (And.intro ho (And.intro (And.intro am a2) (And.intro hM (And.intro hE (And.intro an (And.intro ap oQ))))));clear ho am a2 hM hE an ap oQ e1 T))
  all_goals(go_wp2_with fail;go_meet)
  all_goals exact⟨ba,bc,h,S',gI,rfl,rfl,V.1,V.2.1.1,V.2.1.2,⟨V.2.2.1,V.2.2.2.1,V.2.2.2.2.1⟩,V.2.2.2.2.2.1,by first|exact V.2.2.2.2.2.2|exact(gL.B (jC.drew)).H V.2.2.2.2.2.2|exact(gL.B (jC.drewN _)).H V.2.2.2.2.2.2⟩
 case rest=>
  obtain⟨ba,bc,h,S',gI,rfl,rfl,Ho,b6,aq,HM,b7,HO⟩:=hcut;have ar:=(HO.block g lg (by rw[gV _ _ _ _ al,ad];exact Y)).H a8;have au:=(HO.block P lq (by rw[iJ _ _ _ _ ak];omega)).H a9;obtain⟨⟨p0,p1,p2,_⟩,_,bg⟩:=uf au;have bi:=(ae.1 ar).1;obtain⟨av,k1,k2,k3,k4,k5,k6⟩:=F4 (c:=c) (d:=d) HQ ai Ho b6 aq HO b0 (Ne.symm Y) (Ne.symm aa) (a:=a) (b:=b) (N:= .unit ch h S') (show mI _ _ _ _ _ _ _ _ (Pn.unit ch h S')from⟨p,rfl,b7⟩);obtain⟨b8,b9,bb,bd⟩:=jR (λW' (A:Bl wc W')=>JN (k2.bl A (gI:=av) hU) ⟨fr,ln,i,(iV 101 [i,R.1.wh,R.1.ep,R.1.mark,R.1.ct.kd,R.1.ct.cl,R.1.ct.ca] R.1.ct.val)⟩ ba bc b2 b1 ((iT A).iX (gZ Ho λ_ _=>ju) λ_ _ e=>e) k3 k4) k5 k6 k1;clear HA c0 q0 q1 q2 q3 q4 q5 q6 q7 q8 a9 a8 HV k1 k2 k3 k4 k5 k6 ar au;go_upto_region 4 with fail;go_region_with(go_at_call 212;refine(b8 _ ?hb).L ?_;(case hb=>exact jg);rintro en w5⟨rfl,aw,t5,q5,o5⟩;have HF:=my t5 q5 o5;clear t5 q5 o5);all_goals
   go_wp2;go_end0;refine⟨rfl,.unit ch h S',(iV 101 [i,R.1.wh,R.1.ep,R.1.mark,R.1.ct.kd,R.1.ct.cl,R.1.ct.ca] R.1.ct.val),aw,?_⟩;have aY:=b4.o;exact Cm bd HO.size ai.lt b9 bb jg HF.1 HF.2.1 HF.2.2 Y ⟨rfl,HM.1,jJ aY HM.2.1,HM.2.2,by rw[<-aY]⟩
theorem WQ(hk:Vt w gH tg p rs S)(hq:Qm w gH tn tb g gm clk (.iface 238 (.agg #[.pointer (some ⟨p,0,none⟩)])) ov l q)(aY:10<=tg)(V:tn≠tg)(a8:tb≠tg)(b0:tb≠tn)(b1:q.length<=1000)(v)(fr)(r)(h0:1000<=fr)(h1:fr<=1099)(hv:sP w v (iV r.kd [r.ln,r.nr,r.ep,r.pl,r.ct.kd,r.ct.cl,r.ct.ca] r.ct.val))(ok:SY r (.voter rs S))(hl:(iE rs).length<=1000000000000)(hn:rs.length<=1000000000000):iB 161 #[.pointer (some ⟨g,0,none⟩),.int .i64 fr,v] w λen w'=>en=iw/\∃N' ds gI,(∀b,b<w.heap.size->gI b=gH b)/\Pn.step a b c d r ds (.voter rs S) N'/\Nd w' gI tg tn tb g a b c d N' (Br q ⟨fr,r.ln,r.nr,ds⟩)/\gL (λb=>gH b=tg\/gH b=tn) w w':=by
 obtain⟨kd,ln,i,e,x,⟨ck,cl,ca,val⟩⟩:=r;let⟨a9,a1,A,a2⟩:=ok;simp only at a9 a1 A a2 hv;have wf:=A.wf;let⟨HR,HQ,Hk⟩:=iz (td v kd ln i e x ck cl ca val w hv a9 A) hq hk;let⟨aa,ab,a3⟩:=iz a2 a1 wf;have b2:Hid (val.length<=255):=A.v1;have hg:=hq.hp;have HG:=gP hg;have ac:=hq.tg;clear hv A hk hq a2 wf a1 hg;go_enter func161,ntmps161;go_wp2_with fail;refine HR.L ?_;rintro en w1⟨va,vc,rfl,Y,a4⟩;have a5:=(Y.heap (ae.1 HG).1).H HG;let⟨W,hW⟩:=gJ (w1.alloc (AM kd ln i e x ck cl ca va val vc));have bX:=(Bl.refl w1).alloc (AM kd ln i e x ck cl ca va val vc);have F:=(bX.heap (ae.1 a5).1).H a5;have Z:=ao w1 (AM kd ln i e x ck cl ca va val vc);rw[hW]at bX F Z;have bW:=Y.H bX;have c0:W.cell? ⟨g,0,none⟩=some (.iface 238 (.agg #[.pointer (some ⟨p,0,none⟩)])):=ax W g 0 _ 127 (0,0) F;obtain⟨⟨q0,q1,q2,q3,q4,q5,q6,q7,q8⟩,_,lq⟩:=uf Z;have lg:=(ae.1 F).1;have HV:=gP (gZ (base':=w.heap.size) ((iT bX).iX a4 λ_ _ e=>e) λb hb=>(a4.lt b hb).1);obtain⟨R,hR⟩:∃R,R=oD (S rs.length) kd e x val:=⟨_,rfl⟩;have b3:R.1.val.length<=255:=by rw[hR];exact P7 Hk.V7 kd e x val
 have HA:Hid (∀W',Bl W W'->_):=λW' j=>Ft (w:=W') (gH:=iq gH w.heap.size 5) (tg:=tg) (p:=p) (Hk.only (iT (bW.H j)) (λ_ _ e=>e.elim) λg hg=>gV _ _ _ _ hg) C kd ln i e x ck cl ca ab va vc val (a3 e gG) (a3 x gG) hl hn ((Az HV).bl j) (λb hb=>⟨af (HV.lt b hb).2 j.lt,by rw[iJ _ _ _ _ (HV.lt b hb).1];omega⟩) b2 aa R hR b3;let⟨b4,ad,a6⟩:=iz hR hW F;let⟨a7,ag⟩:=gO Z bW;have ai:w.heap.size<=w1.heap.size:=Y.lt;have ak:g<w.heap.size:=(ae.1 HG).1;clear HR hW Z F a5 Y a4 bX bW aa ab a3 hR;go_upto_region 2 with fail;rw[ad.o];clear ad;generalize w1.heap.size=M at*;have b5:=λW=>Q7 W p;go_cut[8,9]from 25 to 33 λy z wx=>∃ba bc h S' gI,y=gN ba (iV 102 [i,pj h,R.1.wh,R.1.pr,R.1.ba] R.1.val).length bc/\z=.bool true/\Hid (wx.ownsRow W.heap.size 5 1 (gN ba (iV 102 [i,pj h,R.1.wh,R.1.pr,R.1.ba] R.1.val).length bc) (iV 102 [i,pj h,R.1.wh,R.1.pr,R.1.ba] R.1.val).length ((iV 102 [i,pj h,R.1.wh,R.1.pr,R.1.ba] R.1.val).map B8))/\Hid (∀b,(gN ba (iV 102 [i,pj h,R.1.wh,R.1.pr,R.1.ba] R.1.val).length bc).ownBlock=some b->gI b=4)/\Hid (∀b,b<W.heap.size->gI b=iq gH w.heap.size 5 b)/\Hid (ve rs S h S'/\S' h.length=R.2/\(iE h).length<=(iE rs).length+300)/\Hid (Vt wx gI tg p h S')/\Hid (gL (λg=>iq gH w.heap.size 5 g=tg) W wx)
 case first=>
  go_region_held3(λW=>W.cell? ⟨g,0,none⟩=some (.iface 238 (.agg #[.pointer (some ⟨p,0,none⟩)]))/\W.cell? ⟨M,0,none⟩=some (.int .i64 kd)/\W.cell? ⟨M,1,none⟩=some (.int .i64 ln)/\W.cell? ⟨M,2,none⟩=some (.int .i64 i)/\W.cell? ⟨M,3,none⟩=some (.int .i64 e)/\W.cell? ⟨M,4,none⟩=some (.int .i64 x)/\W.cell? ⟨M,5,none⟩=some (.int .i64 ck)/\W.cell? ⟨M,6,none⟩=some (.int .i64 cl)/\W.cell? ⟨M,7,none⟩=some (.int .i64 ca)/\W.cell? ⟨M,8,none⟩=some (lF va val vc)) (go_keep)
   (first|(go_at_call 340;refine(HA _ ?hb).L ?_;(case hb=>exact jg);rintro en w2⟨ba,bc,h,S',gI,rfl,ho,al,a0,hM,hE,am,an,oQ⟩;have e1:=(oQ.block g lg (by rw[gV _ _ _ _ ak,ac];exact V)).H a6;have P:=(oQ.block M lq (by rw[iJ _ _ _ _ ai];omega)).H a7;have zg:=(ax w2 _ 0 _ 127 (0,0) e1);simp at zg;have z0:=(ax w2 _ 0 _ 100 (0,0) P);simp at z0;have z1:=(ax w2 _ 1 _ 100 (0,0) P);simp at z1;have z2:=(ax w2 _ 2 _ 100 (0,0) P);simp at z2;have z3:=(ax w2 _ 3 _ 100 (0,0) P);simp at z3;have z4:=(ax w2 _ 4 _ 100 (0,0) P);simp at z4;have z5:=(ax w2 _ 5 _ 100 (0,0) P);simp at z5;have z6:=(ax w2 _ 6 _ 100 (0,0) P);simp at z6;have z7:=(ax w2 _ 7 _ 100 (0,0) P);simp at z7;have z8:=(ax w2 _ 8 _ 100 (0,0) P);simp at z8;have l1:=(ae.1 e1).1;have l2:=(ae.1 P).1;have T:=gP (And.intro ho (And.intro (And.intro al a0) (And.intro hM (And.intro hE (And.intro am (And.intro an oQ))))));clear ho al a0 hM hE am an oQ e1 P))
  all_goals(go_wp2_with fail;go_meet)
  all_goals exact⟨ba,bc,h,S',gI,rfl,rfl,T.1,T.2.1.1,T.2.1.2,⟨T.2.2.1,T.2.2.2.1,T.2.2.2.2.1⟩,T.2.2.2.2.2.1,by first|exact T.2.2.2.2.2.2|exact(gL.B (jC.drew)).H T.2.2.2.2.2.2|exact(gL.B (jC.drewN _)).H T.2.2.2.2.2.2⟩
 case rest=>
  obtain⟨ba,bc,h,S',gI,rfl,rfl,Ho,b6,ap,HM,b7,HO⟩:=hcut;have aq:=(HO.block g lg (by rw[gV _ _ _ _ ak,ac];exact V)).H a6;have ar:=(HO.block M lq (by rw[iJ _ _ _ _ ai];omega)).H a7;obtain⟨⟨p0,p1,p2,_⟩,_,be⟩:=uf ar;have bg:=(ae.1 aq).1;obtain⟨au,k1,k2,k3,k4,k5,k6⟩:=F4 (c:=c) (d:=d) HQ ag Ho b6 ap HO aY (Ne.symm V) (Ne.symm a8) (a:=a) (b:=b) (N:= .voter h S') (show mI _ _ _ _ _ _ _ _ (Pn.voter h S')from⟨p,rfl,b7⟩);obtain⟨b8,b9,bb,bd⟩:=jR (λW' (j:Bl wc W')=>JN (k2.bl j (gI:=au) hU) ⟨fr,ln,i,(iV 102 [i,pj h,R.1.wh,R.1.pr,R.1.ba] R.1.val)⟩ ba bc b1 b0 ((iT j).iX (gZ Ho λ_ _=>ju) λ_ _ e=>e) k3 k4) k5 k6 k1;clear HA c0 q0 q1 q2 q3 q4 q5 q6 q7 q8 a7 a6 HV k1 k2 k3 k4 k5 k6 aq ar;go_upto_region 4 with fail;go_region_with(go_at_call 212;refine(b8 _ ?hb).L ?_;(case hb=>exact jg);rintro en w5⟨rfl,av,t5,q5,o5⟩;have HF:=my t5 q5 o5;clear t5 q5 o5);all_goals
   go_wp2;go_end0;refine⟨rfl,.voter h S',(iV 102 [i,pj h,R.1.wh,R.1.pr,R.1.ba] R.1.val),av,?_⟩;have aw:=b4.o;exact Cm bd HO.size ag.lt b9 bb jg HF.1 HF.2.1 HF.2.2 V ⟨HM.1,jJ aw HM.2.1,HM.2.2,by rw[<-aw]⟩
theorem PK(h:Nd w gH tg tn tb g a b c d N q)(j:10<=tg)(y:tn≠tg)(i:tb≠tg)(A:tb≠tn)(F:q.length<=1000)(v)(fr)(r)(M:1000<=fr)(P:fr<=1099)(T:sP w v (iV r.kd [r.ln,r.nr,r.ep,r.pl,r.ct.kd,r.ct.cl,r.ct.ca] r.ct.val))(V:SY r N)(Y:N.jt.length<=1000000000000)(hn:N.A.length<=1000000000000):iB 161 #[O g,I fr,v] w λen w'=>en=iw/\∃Z ds gI,(∀b,b<w.heap.size->gI b=gH b)/\Pn.step a b c d r ds N Z/\Nd w' gI tg tn tb g a b c d Z (Br q ⟨fr,r.ln,r.nr,ds⟩)/\gL (λb=>gH b=tg\/gH b=tn) w w':=by
 cases N with
 |unit ch rs S=>obtain⟨iv,⟨p,rfl,H⟩,gm,clk,ov,l,L⟩:=h;exact VZ H L j y i A F v fr r M P T V Y
 |voter rs S=>obtain⟨iv,⟨p,rfl,H⟩,gm,clk,ov,l,L⟩:=h;exact WQ H L j y i A F v fr r M P T V Y hn
end
theorem I7(base p bm n)(E)(jt)(M)(vi)(t)(w)(h:Vs base w p bm n E jt M vi t)(A:jt.length<=1000000000000):iB 179 #[O p] w λe w'=>∃i,e=gX i/\Bl w w'/\w'.ownsRow w.heap.size 5 1 i jt.length (jt.map B8):=by
 have F:=h.lt;have H:=gP h;clear h;go_enter func179,ntmps179;go_wp2_with fail;refine(BE base p 1 _ jt _ F H.c1 H.ie A).L ?_;rintro e w'⟨i,rfl,j,y⟩;let⟨P,T⟩:=gO j y;clear j y;go_wp2;go_ret;exact⟨_,rfl,P,T⟩
def Ii(w)(p):(method 512 233 (Value.agg #[Value.pointer (some {block:=p,off:=0})]) "Image").run prog w=.ok (169,Value.pointer (some {block:=p,off:=0})) w:=rfl
def Jp(w)(p):(method 512 238 (Value.agg #[Value.pointer (some {block:=p,off:=0})]) "Image").run prog w=.ok (179,Value.pointer (some {block:=p,off:=0})) w:=rfl
section
variable{q:List Qz}
theorem Is(hN:Nd w gH tg tn tb g a b c d N q)(V:N.jt.length<=1000000000000):iB 103 #[O g] w λj w'=>∃h i,j=gX (gN h N.jt.length i)/\Bl w w'/\w'.ownsRow w.heap.size 5 1 (gN h N.jt.length i) N.jt.length (N.jt.map B8):=by
 let⟨iv,Y,gm,clk,ov,l,H⟩:=hN;have L:=H.hp;have lg:=H.lg
 cases N with
 |unit ch rs S=>
  obtain⟨p,rfl,Z⟩:=Y;have A:=gP (NQ Z V);have c0:w.cell? (U g 0)=some (.iface 233 (.agg #[O p])):=ax w g 0 _ 127 (0,0) L;have hm:=λW=>Ii W p;show iB 103 #[O g] w λj w'=>∃h i,j=gX (gN h (iE rs).length i)/\Bl w w'/\w'.ownsRow w.heap.size 5 1 (gN h (iE rs).length i) (iE rs).length ((iE rs).map B8)
  clear Z L H;go_enter func103,ntmps103;go_wp2_with fail;refine A.L ?_;rintro j w'⟨v,rfl,F,y⟩;obtain⟨h,i,rfl⟩:=qQ y;let⟨P,T⟩:=gO F y;clear A F y;go_wp2;go_ret;exact⟨h,i,rfl,P,T⟩
 |voter rs S=>
  obtain⟨p,rfl,bm,M,vi,hv,hw,_⟩:=Y;have A:=gP (I7 0 p bm rs.length (S rs.length) (iE rs) M vi 253 w hv V);have c0:w.cell? (U g 0)=some (.iface 238 (.agg #[O p])):=ax w g 0 _ 127 (0,0) L;have hm:=λW=>Jp W p;show iB 103 #[O g] w λj w'=>∃h i,j=gX (gN h (iE rs).length i)/\Bl w w'/\w'.ownsRow w.heap.size 5 1 (gN h (iE rs).length i) (iE rs).length ((iE rs).map B8)
  clear hv hw L H;go_enter func103,ntmps103;go_wp2_with fail;refine A.L ?_;rintro j w'⟨v,rfl,F,y⟩;obtain⟨h,i,rfl⟩:=qQ y;let⟨P,T⟩:=gO F y;clear A F y;go_wp2;go_ret;exact⟨h,i,rfl,P,T⟩
theorem yA(j:Nd w gH tg tn tb g a b c d N q)(L:N.jt.length<=1000000000000):iB 70 #[O g] w λy w'=>∃h i,y=gX (gN h N.jt.length i)/\Bl w w'/\w'.ownsRow w.heap.size 5 1 (gN h N.jt.length i) N.jt.length (N.jt.map B8):=by
 have A:=gP (Is j L);have T:=j.lt.1;clear j;go_enter func70,ntmps70;go_wp2_with fail;refine A.L ?_;rintro y w'⟨h,i,rfl,F,H⟩;let⟨M,P⟩:=gO F H;clear A F H;go_wp2;go_ret;exact⟨h,i,rfl,M,P⟩
theorem Pz(V:Nd w gH tg tn tb g a b c d N q)(Y:q.length<=200)(j:tb≠tn)(Z:tn≠tg)(_h2:tb≠tg):iB 159 #[O g] w λF w'=>∃h i xs gI,F=gX (gN h (qn q).length i)/\(∀b,b<w.heap.size->gI b=gH b)/\xF w' (λb=>gI b=tb) (gN h (qn q).length i) (qn q) xs/\Nd w' gI tg tn tb g a b c d N []/\gL (λb=>gH b=tn) w w':=by
 let⟨iv,H,gm,clk,ov,l,y⟩:=V;let⟨L,HP⟩:=gO (QZ y Y j) H;have lg:=y.lg;clear y H;go_enter func159,ntmps159;go_wp2_with fail;refine L.L ?_;rintro F w'⟨v,xs,gI,rfl,M,A,P,T⟩;obtain⟨h,i,rfl⟩:=jw A.ie;have HF:=nK M A P T;clear M A P T L;go_wp2;go_ret;exact⟨h,i,xs,gI,rfl,HF.1,HF.2.1,⟨iv,HP.only HF.2.2.2 (λb _ e=>jk e Z) HF.1,HF.2.2.1⟩,HF.2.2.2⟩
theorem LQ(j:Nd w gH tg tn tb g a b c d N q)(L:q.length<=200)(y:tb≠tn)(M:tn≠tg)(P:tb≠tg):iB 98 #[O g] w λA w'=>∃h i xs gI,A=gX (gN h (qn q).length i)/\(∀b,b<w.heap.size->gI b=gH b)/\xF w' (λb=>gI b=tb) (gN h (qn q).length i) (qn q) xs/\Nd w' gI tg tn tb g a b c d N []/\gL (λb=>gH b=tn) w w':=by
 have F:=gP (Pz j L y M P);have T:=j.lt.1;clear j;go_enter func98,ntmps98;go_wp2_with fail;refine F.L ?_;rintro A w'⟨h,i,xs,gI,rfl,H⟩;have HF:=gP H;clear H F;go_wp2;go_ret;exact⟨h,i,xs,gI,rfl,HF⟩
end
theorem Ox(w)(g)(fr)(v)(Q:World->Prop)(h:iB 161 #[O g,I fr,v] w λi w'=>i=iw/\Q w'):iB 101 #[O g,I fr,v] w λi w'=>i=iw/\Q w':=by
 have H:=gP h;clear h;go_enter func101,ntmps101;go_wp2_with fail;refine gT H λw' j=>?_;have y:=gP j;clear H j;go_wp2;go_end0;exact⟨rfl,y⟩
def Pn.cut(k:Nat):Pn->Pn
 | .unit ch rs S=>.unit ch (rs.take k) S
 | .voter rs S=>.voter (rs.take k) S
def Pn.holds(N:Pn)(n k:Nat):Prop:=k<=N.A.length/\off N.A k<=n/\∀h:k<N.A.length,n<off N.A k+N.A[k].bytes.length
def Pn.of(a b c d u:Int):Pn->Prop
 | .unit ch rs S=>u<100/\Bi a b c d u=(ch,0)/\AS a b c d ch rs S
 | .voter rs S=>100<=u/\u<100+c/\pX rs S
def Nv(gH)(N M i)(h:N<=M)(g):iq gH N i g=iq (iq gH N i) M i g:=by
 unfold iq;split
 .rw[aE C]
 simp
def mI.two{N M:Nat}{P:Pn}(h:mI w (iq (iq gH N tg) M tg) tg a b c d iv P)(i:N<=M):mI w (iq gH N tg) tg a b c d iv P:=
 h.Y λg _ e=>by rw[Nv gH N M tg i];exact e
theorem wt(w):iB 85 #[] w λF w'=>∃gm,F=gX (.agg #[.map (some gm),OO])/\w.heap.size<=gm/\w'.heap[gm]?=some (.map #[] 0)/\Bl w w':=by
 have H:∀W:World,(Instr.makeMap 120 none).run prog W=.ok (.map (some W.heap.size)) (W.alloc (.map #[] 0)):=λW=>ix;have h:=ao w (im #[.map none,OO] 123);let⟨W,i⟩:=gJ (w.alloc (im #[.map none,OO] 123));have A:Bl w W:=by rw[<-i];exact jC.alloc _
 rw[i]at h;have Y:=(ae.1 h).1;let⟨L,M,ln⟩:=Pb h;let⟨f0,f1⟩:=WI h 0 1;have P:Hid (W.heap.size=w.heap.size+1):=by unfold Hid;rw[<-i];simp
 let⟨T,V⟩:=gO i A;clear i A h;go_enter func85,ntmps85;go_upto_region 1 with fail;rw[T.o];go_wp2;have Z:=((gL.refl (λb=>b=w.heap.size) W).setCell (U w.heap.size 0) (.inl rfl) (.map (some W.heap.size))).setCell (U w.heap.size 1) (.inl rfl) OO;have y:((W.setCell (U w.heap.size 0) (.map (some W.heap.size))).setCell (U w.heap.size 1) OO).heap.size=W.heap.size:=by simp[World.setCell]
 have j:=ao ((W.setCell (U w.heap.size 0) (.map (some W.heap.size))).setCell (U w.heap.size 1) OO) (.map #[] 0);rw[y]at j;exact aG (v:= .agg #[.map (some W.heap.size),OO]) (by simp[results,results85,go_sem,L,M,ln]) rfl ⟨_,rfl,gS P.o,j,(V.A Z λn e=>C).alloc _⟩
section
variable{u:Int}
theorem Lt{S:Nat->St}(j:AS a b c d ch rs S)(h:Bi a b c d u=(ch,0))(ad)(n cc)(V:(iE rs).length<=1000000000000)(y:El w ad n cc rs)(gH)(tg):iB 82 #[.agg #[I a,I b,I c,I d],I u,gN ad n cc] w λe w'=>∃k p,e=gX (.tuple #[.iface 233 (.agg #[O p]),I 0])/\(Pn.unit ch rs S).holds n k/\Bl w w'/\mI w' (iq gH w.heap.size tg) tg a b c d (.iface 233 (.agg #[O p])) ((Pn.unit ch rs S).cut k):=by
 have i:=(Bl.refl w).alloc (rz a b c d);let⟨A,Y⟩:=gO (RD (w:=w.alloc (rz a b c d)) j u h ad n cc V (y.bl i) (iq gH w.heap.size tg) tg) i;clear i y j;go_enter func82,ntmps82;go_wp2_with fail;refine A.L ?_;rintro e w1⟨k,p,rfl,F,H,L,Z,P,T⟩;let⟨HB,HK⟩:=gO (Y.H P) T;have HH:Hid ((Pn.unit ch rs S).holds n k):=⟨F,H,L⟩;clear A P T F H L Z;go_wp2;go_ret2;exact⟨k,p,rfl,HH,HB,mI.two (M:=(w.alloc (rz a b c d)).heap.size) (show mI _ _ _ _ _ _ _ _ ((Pn.unit ch rs S).cut k)from⟨p,rfl,HK⟩) gG⟩
def SK(h:pX rs S)(ad)(n cc)(H:(iE rs).length<=1000000000000)(P:El w ad n cc rs)(gH)(tg):iB 147 #[gN ad n cc] w λy w'=>∃k p,y=gX (.tuple #[O p,I 0])/\(Pn.voter rs S).holds n k/\Bl w w'/\Vt w' (iq gH w.heap.size tg) tg p (rs.take k) S:=by
 refine(Lg ad n cc rs S w h H P).L ?_;rintro y w'⟨k,p,bm,M,T,rfl,V,Y,Z,h4,h5,A,h7⟩;have F:(rs.take k).length=k:=by rw[bH];omega
 have i:pX (rs.take k) S:=⟨h.zero,λj hj=>by
  rw[F]at hj
  have:=h.step j C
  simpa  using this,λr hr=>h.ok r (cQ hr)⟩
 refine⟨k,p,rfl,⟨V,Y,Z⟩,h7,bm,M,T,?_,i,iJ _ _ _ _ h4,iJ _ _ _ _ h5,λg hF=>iJ _ _ _ _ (A.wT hF).1⟩;rw[F];exact A.WE
theorem Lj(i:pX rs S)(ad)(n cc)(L:(iE rs).length<=1000000000000)(j:El w ad n cc rs)(gH)(tg):iB 84 #[.agg #[I a,I b,I c,I d],I u,gN ad n cc] w λe w'=>∃k p,e=gX (.tuple #[.iface 238 (.agg #[O p]),I 0])/\(Pn.voter rs S).holds n k/\Bl w w'/\mI w' (iq gH w.heap.size tg) tg a b c d (.iface 238 (.agg #[O p])) ((Pn.voter rs S).cut k):=by
 have h:=(Bl.refl w).alloc (rz a b c d);let⟨y,P⟩:=gO (SK (w:=w.alloc (rz a b c d)) i ad n cc L (j.bl h) (iq gH w.heap.size tg) tg) h;clear h j i;go_enter func84,ntmps84;go_wp2_with fail;refine y.L ?_;rintro e w1⟨k,p,rfl,A,F,H⟩;let⟨T,V,Y⟩:=iz (P.H F) H A;clear y F H A;go_wp2;go_ret2;exact⟨k,p,rfl,Y,T,mI.two (M:=(w.alloc (rz a b c d)).heap.size) (show mI _ _ _ _ _ _ _ _ ((Pn.voter rs S).cut k)from⟨p,rfl,V⟩) gG⟩
def F9(w)(h:u<100):Calls prog 83 #[.agg #[I a,I b,I c,I d],I u] w λe w'=>e=gX (.bool false)/\Bl w w':=by
 go_wp2;go_ret;exact⟨rfl,(jC.alloc (rz a b c d))⟩
def Gd(w)(i:100<=u)(j:u<100+c)(h:c<=9):Calls prog 83 #[.agg #[I a,I b,I c,I d],I u] w λe w'=>e=gX (.bool true)/\Bl w w':=by
 go_wp2;go_ret;exact⟨rfl,(jC.alloc (rz a b c d))⟩
def ER{F h:World}(M:Bl w W)(j:Bl W h)(P:Bl W F)(y:Bl F h)(l3:F.heap.size<=gm)(A:h.heap[gm]?=some (.map #[] 0))(V:mI F (iq gH w.heap.size tg) tg a b c d iv N):w.heap.size<=h.heap.size/\(∀b,b<w.heap.size->(λb=>if b=h.heap.size\/b=gm then tn else iq gH w.heap.size tg b) b=gH b)/\Nd (h.alloc (im #[iv,.map (some gm),OO] 127)) (λb=>if b=h.heap.size\/b=gm then tn else iq gH w.heap.size tg b) tg tn tb h.heap.size a b c d N []/\Bl w (h.alloc (im #[iv,.map (some gm),OO] 127)):=by
 have s1:=M.lt;have s3:=P.lt;have T:=(Bl.refl h).alloc (im #[iv,.map (some gm),OO] 127);have Y:=(ae.1 A).1;refine⟨(M.H j).lt,λb L=>by show(if b=h.heap.size\/b=gm then tn else iq gH w.heap.size tg b)=gH b;rw[az C,gV _ _ _ _ L],⟨iv,(V.Y λb L e=>?_).only (iT (y.H T)) (λ_ _ e=>e.elim) hU,gm,0,OO,[],ao h _,gG,(T.heap Y).H A,gG,mT,λb L=>ny L,rfl,λi e z Z=>mi Z,List.Pairwise.nil,List.Pairwise.nil⟩,(M.H j).H T⟩;rw[az C];exact e
theorem Vk{S:Nat->St}(hw:AS a b c d ch rs S)(Z:Bi a b c d u=(ch,0))(ad)(n cc)(hl:(iE rs).length<=1000000000000)(hc:El w ad n cc rs)(gH)(tg)(hf:nB a b c d=true)(hu:u<100):iB 44 #[.agg #[I a,I b,I c,I d],I u,gN ad n cc] w λe w'=>∃k p g gm,e=gX (.tuple #[O g,I 0])/\(Pn.unit ch rs S).holds n k/\w'.heap[g]?=some (im #[.iface 233 (.agg #[O p]),.map (some gm),OO] 125 (0,0))/\w'.heap[gm]?=some (.map #[] 0)/\w.heap.size<=gm/\Bl w w'/\∃F,Bl w F/\Bl F w'/\F.heap.size<=gm/\mI F (iq gH w.heap.size tg) tg a b c d (.iface 233 (.agg #[O p])) ((Pn.unit ch rs S).cut k):=by
 have HV:=gP (mO a b c d);rw[hf]at HV;have hA:=(Bl.refl w).alloc (rz a b c d);have hN:=ao w (rz a b c d);let⟨HA,HN,HC⟩:=iz hA hN hc;let⟨Hw,Hl⟩:=gO hw hl;clear hA hN hc hw hl;go_enter func44,ntmps44;go_wp2_with fail;refine gT (HV _) λw1 L=>?_;have P:=(L.heap gG).H HN;let⟨c0,c1,c2,c3,l1⟩:=rX P;have T:=gP (HA.H L);clear L P HN HA HV;go_wp2_with fail;refine gT (F9 w1 hu) λw2 y=>?_;let⟨d0,d1,d2,d3⟩:=y.M l1 c0 c1 c2 c3;have l2:=af l1 y.lt;have A:=gP (T.H y);have HO:=gP (Lt (w:=w2) Hw Z ad n cc Hl (HC.bl A) (iq gH w.heap.size tg) tg);clear y c0 c1 c2 c3 T;go_wp2_with fail;refine HO.L ?_;rintro e F⟨k,p,rfl,hh,V,Y⟩;let⟨HQ,M,a0,HH⟩:=jR (wt F) (A.H V) (mI.two Y A.lt) hh;clear HO V Y hh d0 d1 d2 d3 A;go_wp2_with(go_at_call 85;refine HQ.L ?_;rintro en w4⟨gm,rfl,h,i,j⟩;have H4:=my h i j;clear h i j);go_ret2;obtain⟨h,i,j⟩:=H4.o;have bX:=(Bl.refl w4).alloc (im #[.iface 233 (.agg #[O p]),.map (some gm),OO] 125);exact⟨k,p,_,gm,rfl,HH,ao w4 _,(bX.heap (ae.1 i).1).H i,aF M.lt h,(M.H j).H bX,F,M,j.H bX,h,a0⟩
theorem RV{S:Nat->St}(T:AS a b c d ch rs S)(M:Bi a b c d u=(ch,0))(ad)(n cc)(hl:(iE rs).length<=1000000000000)(V:El w ad n cc rs)(gH:Nat->Nat)(tg tn tb)(hf:nB a b c d=true)(hu:u<100):iB 17 #[.agg #[I a,I b,I c,I d],I u,gN ad n cc] w λe w'=>∃k g gI,e=gX (.tuple #[O g,I 0])/\(Pn.unit ch rs S).holds n k/\w.heap.size<=g/\(∀b,b<w.heap.size->gI b=gH b)/\Nd w' gI tg tn tb g a b c d ((Pn.unit ch rs S).cut k) []/\Bl w w':=by
 have P:=(Bl.refl w).alloc (rz a b c d);let⟨Y,HA⟩:=gO (Vk (w:=w.alloc (rz a b c d)) T M ad n cc hl (V.bl P) (iq gH w.heap.size tg) tg hf hu) P;clear P V T;go_enter func17,ntmps17;go_wp2_with fail;refine Y.L ?_;rintro e w5⟨k,p,g,gm,rfl,F,Z,i,A,j,w3,y,h,H,L⟩;let⟨c0,c1,c2,lg⟩:=AZ Z;have HF:=gP (And.intro F (And.intro i (And.intro A (And.intro j (And.intro y (And.intro h (And.intro H L)))))));clear Y F Z i A j y h H L;go_wp2;go_ret2;obtain⟨F,i,A,j,y,h,H,L⟩:=HF.o;exact⟨k,_,_,rfl,F,ER HA j y h H i (mI.two L gG)⟩
theorem UI(hw:pX rs S)(Z:100<=u)(a0:u<100+c)(a1:c<=9)(ad)(n cc)(hl:(iE rs).length<=1000000000000)(hc:El w ad n cc rs)(gH)(tg)(hf:nB a b c d=true):iB 44 #[.agg #[I a,I b,I c,I d],I u,gN ad n cc] w λe w'=>∃k p g gm,e=gX (.tuple #[O g,I 0])/\(Pn.voter rs S).holds n k/\w'.heap[g]?=some (im #[.iface 238 (.agg #[O p]),.map (some gm),OO] 125 (0,0))/\w'.heap[gm]?=some (.map #[] 0)/\w.heap.size<=gm/\Bl w w'/\∃F,Bl w F/\Bl F w'/\F.heap.size<=gm/\mI F (iq gH w.heap.size tg) tg a b c d (.iface 238 (.agg #[O p])) ((Pn.voter rs S).cut k):=by
 have HV:=gP (mO a b c d);rw[hf]at HV;have hA:=(Bl.refl w).alloc (rz a b c d);have hN:=ao w (rz a b c d);let⟨HA,HN,HC⟩:=iz hA hN hc;let⟨Hw,Hl⟩:=gO hw hl;clear hA hN hc hw hl;go_enter func44,ntmps44;go_wp2_with fail;refine gT (HV _) λw1 L=>?_;have P:=(L.heap gG).H HN;let⟨c0,c1,c2,c3,l1⟩:=rX P;have T:=gP (HA.H L);clear L P HN HA HV;go_wp2_with fail;refine gT (Gd w1 Z a0 a1) λw2 y=>?_;let⟨d0,d1,d2,d3⟩:=y.M l1 c0 c1 c2 c3;have l2:=af l1 y.lt;have A:=gP (T.H y);have HO:=gP (Lj (w:=w2) (a:=a) (b:=b) (c:=c) (d:=d) (u:=u) Hw ad n cc Hl (HC.bl A) (iq gH w.heap.size tg) tg);clear y c0 c1 c2 c3 T;go_wp2_with fail;refine HO.L ?_;rintro e F⟨k,p,rfl,hh,V,Y⟩;let⟨HQ,M,a2,HH⟩:=jR (wt F) (A.H V) (mI.two Y A.lt) hh;clear HO V Y hh d0 d1 d2 d3 A;go_wp2_with(go_at_call 85;refine HQ.L ?_;rintro en w4⟨gm,rfl,h,i,j⟩;have H4:=my h i j;clear h i j);go_ret2;obtain⟨h,i,j⟩:=H4.o;have bX:=(Bl.refl w4).alloc (im #[.iface 238 (.agg #[O p]),.map (some gm),OO] 125);exact⟨k,p,_,gm,rfl,HH,ao w4 _,(bX.heap (ae.1 i).1).H i,aF M.lt h,(M.H j).H bX,F,M,j.H bX,h,a2⟩
theorem TA(Y:pX rs S)(M:100<=u)(P:u<100+c)(T:c<=9)(ad)(n cc)(hl:(iE rs).length<=1000000000000)(Z:El w ad n cc rs)(gH:Nat->Nat)(tg tn tb)(hf:nB a b c d=true):iB 17 #[.agg #[I a,I b,I c,I d],I u,gN ad n cc] w λe w'=>∃k g gI,e=gX (.tuple #[O g,I 0])/\(Pn.voter rs S).holds n k/\w.heap.size<=g/\(∀b,b<w.heap.size->gI b=gH b)/\Nd w' gI tg tn tb g a b c d ((Pn.voter rs S).cut k) []/\Bl w w':=by
 have V:=(Bl.refl w).alloc (rz a b c d);let⟨HO,HA⟩:=gO (UI (w:=w.alloc (rz a b c d)) Y M P T ad n cc hl (Z.bl V) (iq gH w.heap.size tg) tg hf) V;clear V Z Y;go_enter func17,ntmps17;go_wp2_with fail;refine HO.L ?_;rintro e w5⟨k,p,g,gm,rfl,F,hg,i,A,j,w3,y,h,H,L⟩;let⟨c0,c1,c2,lg⟩:=AZ hg;have HF:=gP (And.intro F (And.intro i (And.intro A (And.intro j (And.intro y (And.intro h (And.intro H L)))))));clear HO F hg i A j y h H L;go_wp2;go_ret2;obtain⟨F,i,A,j,y,h,H,L⟩:=HF.o;exact⟨k,_,_,rfl,F,ER HA j y h H i (mI.two L gG)⟩
theorem wM(h:N.of a b c d u)(ad)(n cc)(y:N.jt.length<=1000000000000)(A:El w ad n cc N.A)(gH:Nat->Nat)(tg tn tb)(i:nB a b c d=true):iB 17 #[.agg #[I a,I b,I c,I d],I u,gN ad n cc] w λe w'=>∃k g gI,e=gX (.tuple #[O g,I 0])/\N.holds n k/\w.heap.size<=g/\(∀b,b<w.heap.size->gI b=gH b)/\Nd w' gI tg tn tb g a b c d (N.cut k) []/\Bl w w':=by
 cases N with
 |unit ch rs S=>exact RV h.2.2 h.2.1 ad n cc y A gH tg tn tb i h.1
 |voter rs S=>
  have j:c<=9:=by simp[nB]at i;omega
  exact TA h.2.2 h.1 h.2.1 j ad n cc y A gH tg tn tb i
end
structure Qn(α:Type) where
 A:Rq
 nodes:List Int
 qU:Bool
 B:List (Int×α)
def Rq.zero:Rq:=⟨0,0,0,0,0,no⟩
def Qn.zero{α:Type}:Qn α:=⟨Rq.zero,[],false,[]⟩
def Qn.new{α:Type}(nodes:List Int)(r:Rq):Qn α:=⟨r,nodes,true,[]⟩
def Qn.T{α:Type}(q:Qn α):Bool:= !q.nodes.isEmpty
def Qn.R{α:Type}(q:Qn α)(fr:Int):Bool:=q.B.any λz=>z.1==fr
def Qn.D{α:Type}(q:Qn α)(nr fr:Int):Bool:=(q.A.nr==nr)&&q.nodes.contains fr&& !q.R fr
def Qn.add{α:Type}(q:Qn α)(fr:Int)(a:α):Qn α:={q with B:=q.B++[(fr,a)]}
def Qn.count{α:Type}(q:Qn α)(such:α->Bool):Nat:=(q.B.filter λz=>such z.2).length
def Qn.jL{α:Type}(q:Qn α):List (Int×Rq):=if q.qU then(q.nodes.filter λnd=> !q.R nd).map λnd=>(nd,q.A)else []
def Qn.mF{α:Type}(q:Qn α):Qn α:={q with qU:=false}
structure Rz where
 wh:Int
 ad:Int
 val:List Int
def Rz.zero:Rz:=⟨0,0,[]⟩
structure jz where
 kind:Int
 gU:Nat
 a:Nat
 ij:Int
 unit:Int
 ie:Ct
 jb:Ct
 c:Nat
 e:Rz
 q:Qn An
structure Mv where
 b:Int
 c:Bool
 D:List (Int×Vo)
 B:Int
 value:List Int
 a:Qn An
 A:Qn Vo
def Mv.zero:Mv:=⟨0,false,[],0,[],Qn.zero,Qn.zero⟩
structure Cx where
 n:Nat
 m:Nat
 vo:Nat
 ce:Nat
 id:Int
 b:Int
 lay:List (List Int)
 c:List Rz
 a:List jz
 ib:Int
 d:Qn An
 e:Int
 B:Int
 mv:Mv
 wb:Bool
 wl:Bool
def jD(n m:Nat):List (List Int):=(List.range n).map λk=>(List.range m).map λi=>((k*m+i:Nat):Int)
def jW(lay:List (List Int)):List Int:=lay.flatten
def iZ:List Int->List Int->List Int×List Int
 |[],d=>([],d)
 |u::us,d=>match d with
  |[]=>iZ us []
  |x::d'=>if x=u then(u::(iZ us d').1,(iZ us d').2)else iZ us (x::d')
def within:List (List Int)->List Int->Option (List (List Int))
 |[],d=>if d=[]then some []else none
 |ch::rest,d=>if(iZ ch d).1=[]then none else(within rest (iZ ch d).2).map ((iZ ch d).1::·)
def wE(lay:List (List Int))(out:Int):Bool:=(lay.any λch=>ch.contains out)&& !(lay.any λch=>ch.contains out&&ch.length==1)
def wQ(lay:List (List Int))(out:Int):List (List Int):=lay.map λch=>ch.filter λu=>out==-1||u !=out
def rF(lay:List (List Int))(mD:List Int):Bool:=lay.all λch=>ch.any λu=>mD.contains u
def rC(lay:List (List Int))(out:Int)(mD:List Int):Option (List (List Int)):=
 if(out==-1||wE lay out)&&rF (wQ lay out) mD then some (wQ lay out)else none
def wW:List Int->List Int->Bool
 |_,[]=>false
 |[],_::_=>true
 |x::xs,y::ys=>if x<y then true else if y<x then false else wW xs ys
def qA(b:Int×List Int)(v:Vo):Int×List Int:=if b.1<v.ba||(v.ba==b.1&&wW b.2 v.val)then(v.ba,v.val)else b
def jP(l:List (Int×Vo)):Int×List Int:=l.foldl (λb z=>qA b z.2) (0,[])
def kC(l:List (Int×Vo)):Int:=l.foldl (λb z=>max b z.2.pr) 0
def sO(l:List (Int×Vo))(nP:Nat):Int×List Int:=jP (l.filter λz=>decide (nP<=(l.filter λy=>y.2.ba==z.2.ba).length))
def nA(l:List (Int×Vo)):List (Int×Vo):=l.filter λz=>z.2.wh==1
def zU(b:Int)(l:List (Int×Vo)):List (Int×Vo):=l.filter λz=>decide (z.2.ba<=b)
namespace Cx
def put(X:Cx)(c:jz):Cx:={X with a:=X.a.map λd=>if d.gU=c.gU then c else d}
def tR(X:Cx)(c:jz)(nodes:List Int)(kd pl:Int)(t:Ct):Cx:=
 ({X with ib:=X.ib+1}).put {c with q:=Qn.new nodes ⟨kd,c.a,X.ib+1,X.b,pl,t⟩}
def chain(X:Cx)(a:Int):List Int:=X.lay.getD (a%X.n).toNat []
def qq(X:Cx)(c:jz):Cx:=X.tR c (X.chain c.ij) 3 c.ij no
def kL(X:Cx)(c:jz):Cx:=X.tR c [(X.chain c.ij).getD c.c 0] 2 c.ij c.jb
def pW(X:Cx)(c:jz)(mark:Int)(e:Rz):Cx:=X.tR {c with e:=e} (jW X.lay) 4 mark no
def fin(X:Cx)(c:jz)(r:Rz):Cx:={X with c:=X.c.set c.gU r,a:=X.a.filter λd=>d.gU !=c.gU}
def py(t:Ct):Rz:=⟨t.kd,0,t.val⟩
def iX(c:jz)(t:Ct):Bool:=t.cl==c.ie.cl&&t.ca==c.ie.ca
def ml(c:jz):Bool:=c.kind==1&& !c.q.T
def dO(X:Cx)(c:jz):Cx:=
 if c.kind=1\/c.kind=3 then X.kL {c with jb:=c.ie,c:=0}
 else if c.kind=2 then X.qq c
 else if c.kind=4 then X.pW c c.ij ⟨1,0,[]⟩else X
def kW(X:Cx)(c:jz):Cx:=
 if c.c+1<(X.chain c.ij).length then X.kL {c with c:=c.c+1}
 else if c.kind=1 then X.fin c ⟨1,c.ij,[]⟩else X.fin c (py c.jb)
def kY(X:Cx)(c:jz)(t:Ct):Cx:=
 if c.kind=1/\iX c t=false then X.put {c with q:=Qn.zero}else X.kW {c with jb:=t}
def kV(X:Cx)(c:jz)(A:An):Cx:=
 if(iX c A.ct||(decide (0<c.c)&&iX c c.jb))then
  (if c.kind=1 then X.pW c A.mark ⟨1,c.ij,[]⟩else X.pW c A.mark ⟨9,0,[]⟩)
 else(if c.kind=1 then X.put {c with q:=Qn.zero}else X.pW c A.mark ⟨4,0,[]⟩)
def ou(X:Cx)(c:jz)(A:An):Cx:=
 if A.wh=1 then X.kW c else if A.wh=2 then X.kY c A.ct else if A.wh=4 then X.kV c A else X.put c
def oe(X:Cx)(c:jz)(A:An):Cx:=
 if A.wh=4 then X.pW c A.mark ⟨4,0,[]⟩
 else if c.q.B.length<c.q.nodes.length then X.put c
 else if c.q.count (λa=>a.wh==2)=c.q.nodes.length then X.fin c (py (((c.q.B.find? λz=>z.1==c.q.nodes.headD 0).map λz=>z.2.ct).getD no))
 else X.fin c ⟨3,0,[]⟩
def rT(X:Cx)(c:jz)(A:An):Cx:=
 if c.q.A.kd=3 then X.oe c A else if c.q.A.kd=2 then X.ou c A
 else if c.q.A.kd=4 then(if c.q.count (λa=>a.wh==1)=c.q.nodes.length then X.fin c c.e else X.put c)else X.put c
def ko(X:Cx):List Int:=(X.a.filter λc=>c.kind==5).map λc=>c.unit
def jn(X:Cx):Bool:= !X.ko.isEmpty
def nP(X:Cx):Nat:=X.vo/2+1
def vP(X:Cx):List Int:=(List.range X.vo).map λ(i:Nat)=>100+(i:Int)
def lH(X:Cx)(kd pl:Int)(val:List Int):Cx:=
 {X with ib:=X.ib+1,mv:={X.mv with A:=Qn.new X.vP ⟨kd,9,X.ib+1,X.mv.b,pl,⟨0,0,0,val⟩⟩}}
def jH(X:Cx):Cx:=
 ({X with mv:={Mv.zero with b:=max (X.b+1) (X.e-1),c:=decide (max (X.b+1) (X.e-1)<X.e)}}).lH 7 0 []
def jM(X:Cx):Cx:=
 {X with ib:=X.ib+1,d:=Qn.new (jW X.lay) ⟨1,8,X.ib+1,X.b,0,no⟩}
def iW(X:Cx)(e:Int):Cx:=
 if e<=X.b\/e<=X.e then X
 else if X.mv.b<e then({X with e:=e}).jH else{X with e:=e}
def qT(X:Cx):Cx:=
 {X with ib:=X.ib+1,mv:={X.mv with a:=Qn.new (jW X.lay) ⟨1,9,X.ib+1,X.mv.b,0,no⟩}}
def jX(X:Cx):List Int:=X.mv.a.B.map λz=>z.1
def Ab(X:Cx)(v:List Int):Bool:=match within X.lay v with
 |none=>false
 |some l=>rF l X.jX
def mW(X:Cx)(l:List (Int×Vo)):List (Int×Vo):=l.filter λz=> !(decide (0<z.2.ba)&& !X.Ab z.2.val)
def next(X:Cx):Option (List (List Int)):=
 (if X.ko.isEmpty then [-1]else X.ko).findSome? λout=>rC X.lay out X.jX
def kF(X:Cx):Option (List Int):=
 if 0<(jP (X.mW X.mv.D)).1 then some (jP (X.mW X.mv.D)).2 else X.next.map jW
def jv(X:Cx)(p:Int):Int:=(max p X.B/100+1)*100+X.id-1000
def lL(X:Cx):Cx:=match X.kF with
 |none=>X
 |some _=>({X with B:=X.jv (kC X.mv.D),mv:={X.mv with B:=X.jv (kC X.mv.D)}}).lH 5 (X.jv (kC X.mv.D)) []
def lj(X:Cx):Cx:=
 if !X.jn&& !X.wl then{X with wb:=true}
 else
  let Y:={X with wb:=true,mv:={X.mv with D:=X.mv.A.B}}
  (if Y.mv.a.T then Y else Y.qT).lL
def kE(X:Cx)(c:jz):Cx:=
 if(X.lay.getD (c.unit/X.m).toNat []).contains c.unit then(if(X.lay.getD (c.unit/X.m).toNat []).length=1 then X.fin c ⟨6,0,[]⟩else X)else X.fin c ⟨1,0,[]⟩
def kP(X:Cx)(c:jz):Cx:=if c.kind=5 then X.kE c else if ml c then X else X.dO c
def oK(X:Cx)(v:List Int):Cx:=match within X.lay v with
 |none=>{X with mv:=Mv.zero}
 |some l=>
  let Y:={X with b:=X.mv.b,lay:=l,mv:=Mv.zero,wb:=false,wl:=false}
  let Z:=Y.a.foldl kP Y
  if Z.jn||decide (Z.b<Z.e)then Z.jH else Z
def kT(X:Cx):Cx:=
 let a:=nA X.mv.A.B
 let v:=jP (X.mW a)
 if(zU v.1 a).length<X.nP then X
 else
  let val:=if v.1=0 then X.kF.getD []else v.2
  ({X with mv:={X.mv with value:=val}}).lH 6 X.mv.B val
def nC(X:Cx):Cx:=if X.nP<=(nA X.mv.A.B).length then X.oK X.mv.value else X
def mM(X:Cx):Cx:=
 let b:=sO X.mv.A.B X.nP
 if 0<b.1 then X.oK b.2
 else if X.mv.A.B.length<X.nP then X
 else if X.mv.c then X.oK (jP X.mv.A.B).2
 else X.lj
def mD(X:Cx):Cx:=
 if X.mv.A.A.kd=7 then X.lL else if X.mv.A.A.kd=5 then X.kT else X
def sg(X:Cx)(fr nr lt:Int)(v:Vo):Cx:=
 if X.mv.A.D nr fr then
  let Y:=X.iW lt
  if Y.mv.A.D nr fr then
   let Z:={Y with mv:={Y.mv with A:=Y.mv.A.add fr v,D:=if Y.mv.A.A.kd=7/\Y.mv.D≠[]then Y.mv.A.B++[(fr,v)]else Y.mv.D}}
   if Z.mv.A.A.kd=7 then Z.mM else if Z.mv.A.A.kd=5 then Z.kT else if Z.mv.A.A.kd=6 then Z.nC else Z
  else Y
 else X
def kI(X:Cx)(fr nr:Int)(A:An):Cx:=
 if X.d.D nr fr then(if A.wh=5 then X.iW A.ep else{X with d:=X.d.add fr A})
 else if X.mv.a.D nr fr then(if A.wh=5 then X.iW A.ep else({X with mv:={X.mv with a:=X.mv.a.add fr A}}).mD)
 else match X.a.find? λc=>c.q.D nr fr with
  |none=>X
  |some c=>if A.wh=5 then X.iW A.ep else(X.put {c with q:=c.q.add fr A}).rT {c with q:=c.q.add fr A} A
def jA(X:Cx):List Nat:=(X.a.filter ml).map λc=>c.gU
def nM(X:Cx):Cx:=
 let Y:={X with wl:=X.wb,e:=0,mv:=Mv.zero,a:=X.a.map λ(c:jz)=>{c with q:={c.q with qU:=true}}}
 let Z:=if Y.jA.length<Y.a.length then Y.jM else Y
 if Z.jn then Z.jH else Z
def jL(X:Cx):List (Int×Rq):=(X.a.flatMap λc=>c.q.jL)++X.d.jL++X.mv.a.jL++X.mv.A.jL
def mF(X:Cx):Cx:={X with a:=X.a.map λ(c:jz)=>{c with q:=c.q.mF},d:=X.d.mF,mv:={X.mv with a:=X.mv.a.mF,A:=X.mv.A.mF}}
def mQ(X:Cx):Nat:=((List.range 8).find? λl=> !(X.a.any λc=>c.a==l)).getD 0
def iP(X:Cx)(kind:Int):jz:=⟨kind,X.c.length,X.mQ,0,0,⟨0,X.id,X.c.length,[]⟩,no,0,Rz.zero,Qn.zero⟩
def je(X:Cx)(c:jz):Cx:={X with c:=X.c++[Rz.zero],a:=X.a++[c]}
def append(X:Cx)(val:List Int):Cx:=let c:=X.iP 1;X.je {c with ie:={c.ie with kd:=8,val:=val}}
def D2(X:Cx)(a:Int):Cx:=let c:={X.iP 2 with ij:=a};(X.je c).dO c
def fill(X:Cx)(a:Int):Cx:=let c:=X.iP 3;let c:={c with ij:=a,ie:={c.ie with kd:=9}};(X.je c).dO c
def uU(X:Cx)(a:Int):Cx:=let c:={X.iP 4 with ij:=a};(X.je c).dO c
def change(X:Cx)(u:Int):Cx:=
 let c:={X.iP 5 with unit:=u}
 let Y:=(X.je c).kE c
 if !X.jn&&Y.jn then Y.jH else Y
def pD(X:Cx)(a:Int):Bool:=decide (0<=a)&&decide (a<X.n*X.ce)
def ld(X:Cx)(k:Nat)(t:Int):Cx:=match X.a.find? λc=>c.gU==k with
 |none=>X
 |some c=>if X.pD t then let c':={c with ij:=t};(X.put c').dO c' else X.fin c ⟨7,0,[]⟩
def new(n m vo ce:Nat)(id:Int):Cx:=⟨n,m,vo,ce,id,0,jD n m,[],[],0,Qn.zero,0,0,Mv.zero,false,false⟩
end Cx
abbrev A6(p0:Rz)(p1)(p2):=#[I p0.wh,I p0.ad,gN p1 p0.val.length p2]
def Rd(w:World)(gH:Nat->Nat)(t:Nat)(e:TypeId)(v:Value)(cs:List Value):Prop:=
 (v= OO/\cs=[])\/∃b o c arr f,v=.slice (some (U b o)) cs.length c/\gH b=t/\w.heap[b]?=some (.cells arr e f)/\cs.length<=c/\c<=maxLen/\∀j x,cs[j]?=some x->arr[o+j]?=some x
def Rd.nil:Rd w gH t e OO []:= .inl ⟨rfl,rfl⟩
def Rd.B(h:Rd w gH t e v cs):∃a c,v=gN a cs.length c:=by obtain⟨rfl,rfl⟩|⟨b,o,c,i,f,rfl,_⟩:=h<;>exact⟨_,_,rfl⟩
def Rd.only(h:Rd w gH t e v cs){T:Nat->Prop}(F:gL T w w')(L:∀b,b<w.heap.size->T b->gH b≠t)(M:∀b,b<w.heap.size->gH b=t->gI b=t):Rd w' gI t e v cs:=by
 obtain h|⟨b,o,c,i,f,P,y,A,V⟩:=h
 .exact .inl h
 have j:=(ae.1 A).1;exact .inr ⟨b,o,c,i,f,P,M b j y,(F.block b j λe=>L b j e y).H A,V⟩
def Rd.bl(h:Rd w gH t e v cs)(i:Bl w w')(j:∀b,b<w.heap.size->gH b=t->gI b=t):Rd w' gI t e v cs:=h.only (iT i) (λ_ _ e=>e.elim) j
def Rd.cell(h:Rd w gH t e v cs)(P:0<cs.length):∃b o c,v=gN (some (U b o)) cs.length c/\b<w.heap.size/\cs.length<=c/\c<=maxLen/\∀j x,cs[j]?=some x->w.cell? (U b (o+j))=some x:=by
 obtain⟨_,rfl⟩|⟨b,o,c,i,f,A,T,y,F,H,L⟩:=h
 .simp_all
 exact⟨b,o,c,A,(ae.1 y).1,F,H,λj x M=>by rw[ax w b _ i e f y];exact L j x M⟩
def Rd.bs(h:Rd w gH t e v cs):Bs w v cs:=by
 obtain h|⟨b,o,c,i,f,y,L,A,M,P,F⟩:=h
 .exact .inl h
 exact .inr ⟨(U b o),c,y,λj x H=>by rw[mK,ax w b _ i e f A];exact F j x H⟩
def Rd.xU(h:Rd w gH t e v cs)(b)(i:v.ownBlock=some b):b<w.heap.size/\gH b=t:=by
 obtain⟨rfl,_⟩|⟨b',o,c,j,f,rfl,y,A,_⟩:=h
 .contradiction
 simp[Value.ownBlock]at i;subst i;exact⟨(ae.1 A).1,y⟩
def Rd.qj{base:Nat}(h:w.ownsRow base e 1 v n cs)(F:∀b,v.ownBlock=some b->gH b=t):Rd w gH t e v cs:=by
 have y:=jh h;obtain⟨rfl,rfl⟩|⟨g,cap,i,rfl,P,A,T,H,V,Y⟩:=h.2
 .exact .inl ⟨rfl,aW.1 y⟩
 refine .inr ⟨g,0,cap,i,_,mf y,F g rfl,A,C,H,λj x L=>?_⟩;have M:=(aj.1 L).1;have:=h.cellAt j C;rw[ax w g j i e (0,0) A]at this;simp_all
class nY(α:Type) where
 ev:World->(Nat->Nat)->Nat->α->Value->Prop
 only:∀{w w':World} {gH gI:Nat->Nat} {t:Nat} {A:α} {v:Value} {T:Nat->Prop},ev w gH t A v->gL T w w'->(∀b,b<w.heap.size->T b->gH b≠t)->(∀b,b<w.heap.size->gH b=t->gI b=t)->ev w' gI t A v
instance:nY An where
 ev w gH t A v:=∃s,v=.agg #[I A.wh,I A.ep,I A.mark,I A.ct.kd,I A.ct.cl,I A.ct.ca,s]/\Rd w gH t 5 s (A.ct.val.map B8)
 only:=λ⟨s,h1,h2⟩ ho hT ht=>⟨s,h1,h2.only ho hT ht⟩
instance:nY Vo where
 ev w gH t A v:=∃s,v=.agg #[I A.wh,I A.pr,I A.ba,s]/\Rd w gH t 5 s (A.val.map B8)
 only:=λ⟨s,h1,h2⟩ ho hT ht=>⟨s,h1,h2.only ho hT ht⟩
structure Ae where
 k:Int
 v:Value
 bo:Nat
def Ae.A(e:Ae):MapEntry:=⟨I e.k,e.v,e.bo⟩
def iu(l:List Ae):Array MapEntry:=(l.map Ae.A).toArray
structure Mm{α:Type}(w:World)(gm clk:Nat)(l:List Ae)(zz:List (Int×α))(R:α->Value->Prop):Prop where
 mp:w.heap[gm]?=some (.map (iu l) clk)
 len:l.length=zz.length
 jU:∀(i:Nat) e z,l[i]?=some e->zz[i]?=some z->e.k=z.1/\R z.2 e.v
 bo:∀e∈l,e.bo<clk
 nd:(l.map (·.bo)).Nodup
 ky:(zz.map (·.1)).Nodup
def oI{α:Type}[nY α](w:World)(gH:Nat->Nat)(g t:Nat)(v:Value)(zz:List (Int×α)):Prop:=
 (v=.map none/\zz=[])\/∃gm clk l,v=.map (some gm)/\gH gm=g/\Mm w gm clk l zz (nY.ev w gH t)
section
variable{α:Type}[nY α]{zz:List (Int×α)}
def oI.map(h:oI w gH g t v zz){b:Nat}(i:v=.map (some b)):b<w.heap.size/\gH b=g:=by
 obtain⟨e,_⟩|⟨gm,clk,l,e,j,h⟩:=h
 .simp_all
 rw[e]at i;simp at i;subst i;exact⟨(ae.1 h.mp).1,j⟩
def oI.only(h:oI w gH g t v zz){T:Nat->Prop}(A:gL T w w')(F:∀b,b<w.heap.size->T b->gH b≠t)(L:∀b,v=.map (some b)->¬T b)(M:∀b,b<w.heap.size->gH b=t->gI b=t)(P:∀b,v=.map (some b)->gI b=gH b):oI w' gI g t v zz:=by
 obtain h|⟨gm,clk,l,y,V,j⟩:=h
 .exact .inl h
 refine .inr ⟨gm,clk,l,y,by rw[P gm y,V],(A.block gm ((ae.1 j.mp).1) (L gm y)).H j.mp,j.len,λi e z Y Z=>?_,j.bo,j.nd,j.ky⟩;obtain⟨k1,k2⟩:=j.jU i e z Y Z;exact⟨k1,nY.only k2 A F M⟩
end
structure QV where
 vv:Value
 nv:Value
 av:Value
def QV.zero:QV:=⟨OO,OO,.map none⟩
structure QR{α:Type}[nY α](w:World)(gH:Nat->Nat)(g t:Nat)(q:Qn α)(V:QV):Prop where
 val:Rd w gH t 5 V.vv (q.A.ct.val.map B8)
 nodes:Rd w gH t 3 V.nv (q.nodes.map I)
 B:oI w gH g t V.av q.B
 nil:V.av=.map none->q.nodes=[]
section
variable{α:Type}[nY α]{q:Qn α}{V:QV}
def QR.only(h:QR w gH g t q V){T:Nat->Prop}(y:gL T w w')(A:∀b,b<w.heap.size->T b->gH b≠t)(F:∀b,b<w.heap.size->T b->gH b≠g)(j:∀b,b<w.heap.size->gI b=gH b):QR w' gI g t q V:=
 ⟨h.val.only y A λb i e=>by rw[j b i];exact e,h.nodes.only y A λb i e=>by rw[j b i];exact e,h.B.only y A (λb i e=>F b (h.B.map i).1 e (h.B.map i).2) (λb i e=>by rw[j b i];exact e) λb i=>j b (h.B.map i).1,h.nil⟩
def QR.zero:QR w gH g t (Qn.zero:Qn α) QV.zero:=⟨Rd.nil,Rd.nil,.inl ⟨rfl,rfl⟩,λ_=>rfl⟩
end
def tV(w:World)(gH:Nat->Nat)(g t:Nat)(v:Value)(rs:List Rz):Prop:=
 ∃xs,w.ownsRow 0 43 3 v rs.length xs/\(∀b,v.ownBlock=some b->gH b=g)/\∀i r,rs[i]?=some r->xs[3*i]?=some (I r.wh)/\xs[3*i+1]?=some (I r.ad)/\∃s,xs[3*i+2]?=some s/\Rd w gH t 5 s (r.val.map B8)
def tV.only{rs:List Rz}(h:tV w gH g t v rs){T:Nat->Prop}(A:gL T w w')(L:∀b,b<w.heap.size->T b->gH b≠t)(M:∀b,b<w.heap.size->T b->gH b≠g)(F:∀b,b<w.heap.size->gI b=gH b):tV w' gI g t v rs:=by let⟨xs,y,H,P⟩:=h;refine⟨xs,A.iX y λb j e=>M b (y.lt b j).2 e (H b j),λb j=>by rw[F b (y.lt b j).2];exact H b j,λi r Y=>?_⟩;let⟨Z,k2,s,k3,k4⟩:=P i r Y;exact⟨Z,k2,s,k3,k4.only A L λb j e=>by rw[F b j];exact e⟩
def pV(w:World)(gH:Nat->Nat)(t:Nat)(v:Value)(lay:List (List Int)):Prop:=
 ∃g arr cap f,v=.slice (G g) lay.length cap/\lay.length<=cap/\cap<=maxLen/\gH g=t/\w.heap[g]?=some (.cells arr 24 f)/\∀(k:Nat) (ch:List Int),lay[k]?=some ch->∃x,arr[k]?=some x/\Rd w gH t 3 x (ch.map I)
def pV.only{lay:List (List Int)}(h:pV w gH t v lay){T:Nat->Prop}(y:gL T w w')(A:∀b,b<w.heap.size->T b->gH b≠t)(F:∀b,b<w.heap.size->gH b=t->gI b=t):pV w' gI t v lay:=by let⟨g,i,cap,f,P,c1,c2,L,M,Y⟩:=h;have j:=(ae.1 M).1;refine⟨g,i,cap,f,P,c1,c2,F g j L,(y.block g j λe=>A g j e L).H M,λk ch Z=>?_⟩;let⟨x,k1,k2⟩:=Y k ch Z;exact⟨x,k1,k2.only y A F⟩
structure kM where
 ov:Value
 cv:Value
 ev:Value
 q:QV
def qE(c:jz)(V:kM):List Value:=
 [I c.kind,I c.gU,I c.a,I c.ij,I c.unit,I c.ie.kd,I c.ie.cl,I c.ie.ca,V.ov,I c.jb.kd,I c.jb.cl,I c.jb.ca,V.cv,I c.c,I c.e.wh,I c.e.ad,V.ev,
  I c.q.A.kd,I c.q.A.ln,I c.q.A.nr,I c.q.A.ep,I c.q.A.pl,I c.q.A.ct.kd,I c.q.A.ct.cl,I c.q.A.ct.ca,V.q.vv,V.q.nv,.bool c.q.qU,V.q.av]
structure kN(w:World)(gH:Nat->Nat)(t q:Nat)(c:jz)(V:kM):Prop where
 hq:w.heap[q]?=some (.cells (qE c V).toArray 168 (0,0))
 tq:gH q=t+8+2*c.a
 ie:Rd w gH (t+3) 5 V.ov (c.ie.val.map B8)
 jb:Rd w gH (t+3) 5 V.cv (c.jb.val.map B8)
 e:Rd w gH (t+3) 5 V.ev (c.e.val.map B8)
 q:QR w gH (t+9+2*c.a) (t+3) c.q V.q
section
variable{c:jz}{V:kM}
def kN.lt(h:kN w gH t q c V):q<w.heap.size:=(ae.1 h.hq).1
def kN.only(h:kN w gH t q c V){T:Nat->Prop}(j:gL T w w')(F:∀b,b<w.heap.size->T b->gH b≠t+3/\gH b≠t+8+2*c.a/\gH b≠t+9+2*c.a)(L:∀b,b<w.heap.size->gI b=gH b):kN w' gI t q c V:=by
 have A:∀b,b<w.heap.size->T b->gH b≠t+3:=λb y e=>(F b y e).1;have i:∀b,b<w.heap.size->gH b=t+3->gI b=t+3:=λb y e=>by rw[L b y];exact e
 exact⟨(j.block q h.lt λe=>(F q h.lt e).2.1 h.tq).H h.hq,(L q h.lt).H h.tq,h.ie.only j A i,h.jb.only j A i,h.e.only j A i,h.q.only j A (λb y e=>(F b y e).2.2) L⟩
def kN.cellAt(h:kN w gH t q c V)(i)(e:(qE c V)[i]?=some v):w.cell? (U q i)=some v:=by rw[ax w q i _ 168 _ h.hq];simpa using e
def kN.M(h:kN w gH t q c V)(i):w.frozen? (U q i)=false:=aP w q i _ 168 h.hq
end
def kN.R{T:Nat->Nat}{X:jz}{Y:kM}(h:kN w T t p X Y)(i j:Nat){a b:Value}(e:((qE X Y)[i]?,(qE X Y)[j]?)=(some a,some b)):w.cell? (U p i)=some a/\w.cell? (U p j)=some b:=by simp at e;exact⟨h.cellAt i e.1,h.cellAt j e.2⟩
def kN.Km{T:Nat->Nat}{X:jz}{Y:kM}(h:kN w T t p X Y)(i j k:Nat){a b c:Value}(e:((qE X Y)[i]?,(qE X Y)[j]?,(qE X Y)[k]?)=(some a,some b,some c)):w.cell? (U p i)=some a/\w.cell? (U p j)=some b/\w.cell? (U p k)=some c:=by simp at e;exact⟨h.cellAt i e.1,h.cellAt j e.2.1,h.cellAt k e.2.2⟩
def kN.T{T:Nat->Nat}{X:jz}{Y:kM}(h:kN w T t p X Y)(i j k m:Nat){a b c d:Value}(e:((qE X Y)[i]?,(qE X Y)[j]?,(qE X Y)[k]?,(qE X Y)[m]?)=(some a,some b,some c,some d)):w.cell? (U p i)=some a/\w.cell? (U p j)=some b/\w.cell? (U p k)=some c/\w.cell? (U p m)=some d:=by simp at e;exact⟨h.cellAt i e.1,h.cellAt j e.2.1,h.cellAt k e.2.2.1,h.cellAt m e.2.2.2⟩
def kN.X8{T:Nat->Nat}{X:jz}{Y:kM}(h:kN w T t p X Y)(i j:Nat):w.frozen? (U p i)=false/\w.frozen? (U p j)=false:=⟨h.M i,h.M j⟩
def kN.Xl{T:Nat->Nat}{X:jz}{Y:kM}(h:kN w T t p X Y)(i j k:Nat):w.frozen? (U p i)=false/\w.frozen? (U p j)=false/\w.frozen? (U p k)=false:=⟨h.M i,h.M j,h.M k⟩
def kN.Z{T:Nat->Nat}{X:jz}{Y:kM}(h:kN w T t p X Y)(i j k m:Nat):w.frozen? (U p i)=false/\w.frozen? (U p j)=false/\w.frozen? (U p k)=false/\w.frozen? (U p m)=false:=⟨h.M i,h.M j,h.M k,h.M m⟩
structure CV where
 lv:Value
 rv:Value
 bm:Nat
 clk:Nat
 bo:Nat->Nat
 pr:QV
 bg:Value
 b:Value
 sl:QV
 vt:QV
def qW(X:Cx)(V:CV):List Value:=
 [I X.n,I X.m,I X.vo,I X.ce,I X.id,I X.b,V.lv,V.rv,.map (some V.bm),I X.ib,
  I X.d.A.kd,I X.d.A.ln,I X.d.A.nr,I X.d.A.ep,I X.d.A.pl,I X.d.A.ct.kd,I X.d.A.ct.cl,I X.d.A.ct.ca,V.pr.vv,V.pr.nv,.bool X.d.qU,V.pr.av,
  I X.e,I X.B,I X.mv.b,.bool X.mv.c,V.bg,I X.mv.B,V.b,
  I X.mv.a.A.kd,I X.mv.a.A.ln,I X.mv.a.A.nr,I X.mv.a.A.ep,I X.mv.a.A.pl,I X.mv.a.A.ct.kd,I X.mv.a.A.ct.cl,I X.mv.a.A.ct.ca,V.sl.vv,V.sl.nv,.bool X.mv.a.qU,V.sl.av,
  I X.mv.A.A.kd,I X.mv.A.A.ln,I X.mv.A.A.nr,I X.mv.A.A.ep,I X.mv.A.A.pl,I X.mv.A.A.ct.kd,I X.mv.A.A.ct.cl,I X.mv.A.A.ct.ca,V.vt.vv,V.vt.nv,.bool X.mv.A.qU,V.vt.av,
  .bool X.wb,.bool X.wl]
def kt(qb bo:Nat->Nat)(c:jz):Ae:=⟨c.gU,O (qb c.gU),bo c.gU⟩
structure tP(X:Cx):Prop where
 gU:X.a.Pairwise λc d=>c.gU<d.gU
 lt:∀c∈X.a,c.gU<X.c.length
 a:X.a.Pairwise λc d=>c.a≠d.a
 b:∀c∈X.a,c.a<8
def L5(w:World)(gH:Nat->Nat)(t:Nat)(M:Mv)(bg av:Value):Prop:=
 (bg=.map none/\M.D=[])\/(M.A.A.kd=7/\bg=av/\M.D=M.A.B/\M.D≠[])\/(M.A.A.kd≠7/\bg≠av/\oI w gH (t+6) (t+3) bg M.D)
structure RU(w:World)(gH:Nat->Nat)(t:Nat)(qb:Nat->Nat)(X:Cx)(V:CV):Prop where
 lay:pV w gH (t+3) V.lv X.lay
 c:tV w gH (t+2) (t+3) V.rv X.c
 tb:gH V.bm=t+1
 mp:w.heap[V.bm]?=some (.map (iu (X.a.map (kt qb V.bo))) V.clk)
 bo:∀c∈X.a,V.bo c.gU<V.clk
 bn:(X.a.map λc=>V.bo c.gU).Nodup
 pr:QR w gH (t+4) (t+3) X.d V.pr
 sl:QR w gH (t+5) (t+3) X.mv.a V.sl
 vt:QR w gH (t+6) (t+3) X.mv.A V.vt
 bg:L5 w gH t X.mv V.bg V.vt.av
 b:Rd w gH (t+3) 5 V.b (X.mv.value.map B8)
 d:∀c∈X.a,∃cv,kN w gH t (qb c.gU) c cv
 a:tP X
structure jf(w:World)(gH:Nat->Nat)(t p:Nat)(qb:Nat->Nat)(X:Cx)(V:CV):Prop where
 hp:w.heap[p]?=some (.cells (qW X V).toArray 114 (0,0))
 tp:gH p=t
 r:RU w gH t qb X V
def Cl(w:World)(gH:Nat->Nat)(t p:Nat)(qb:Nat->Nat)(X:Cx):Prop:=∃V,jf w gH t p qb X V
def Mc(t g:Nat):Prop:=t<=g/\g<t+32/\g≠t+3
section
variable{X:Cx}{V:CV}
def RU.lb(h:RU w gH t qb X V):V.bm<w.heap.size:=(ae.1 h.mp).1
def L5.only{M:Mv}{y av:Value}(h:L5 w gH t M y av){T:Nat->Prop}(H:gL T w w')(A:∀b,b<w.heap.size->T b->gH b≠t+3/\gH b≠t+6)(F:∀b,b<w.heap.size->gI b=gH b):L5 w' gI t M y av:=by
 obtain h|h|⟨L,P,j⟩:=h
 .exact .inl h
 .exact .inr (.inl h)
 exact .inr (.inr ⟨L,P,j.only H (λb i e=>(A b i e).1) (λb i e=>(A b (j.map i).1 e).2 (j.map i).2) (λb i e=>by rw[F b i];exact e) λb i=>F b (j.map i).1⟩)
def RU.only(h:RU w gH t qb X V){T:Nat->Prop}(j:gL T w w')(y:∀b,b<w.heap.size->T b->gH b<=t\/t+32<=gH b)(A:∀b,b<w.heap.size->gI b=gH b):RU w' gI t qb X V:=by
 have F:∀b,b<w.heap.size->T b->gH b≠t+3:=λb i e=>by have:=y b i e;omega
 have L:∀b,b<w.heap.size->gH b=t+3->gI b=t+3:=λb i e=>by rw[A b i];exact e
 exact⟨h.lay.only j F L,h.c.only j F (λb i e=>by have:=y b i e;omega) A,(A _ h.lb).H h.tb,(j.block _ h.lb λe=>by have:=y _ h.lb e;have:=h.tb;omega).H h.mp,h.bo,h.bn,h.pr.only j F (λb i e=>by have:=y b i e;omega) A,h.sl.only j F (λb i e=>by have:=y b i e;omega) A,h.vt.only j F (λb i e=>by have:=y b i e;omega) A,h.bg.only j (λb i e=>by have:=y b i e;omega) A,h.b.only j F L,λc M=>by
  obtain⟨P,Y⟩:=h.d c M
  have:=h.a.b c M
  exact⟨P,Y.only j (λb i e=>by have:=y b i e;omega) A⟩,h.a⟩
def jf.A(h:jf w gH t p qb X V):p<w.heap.size:=(ae.1 h.hp).1
def jf.only(h:jf w gH t p qb X V){T:Nat->Prop}(i:gL T w w')(j:∀b,b<w.heap.size->T b->gH b<t\/t+32<=gH b)(y:∀b,b<w.heap.size->gI b=gH b):jf w' gI t p qb X V:=
 ⟨(i.block p h.A λe=>by have:=j p h.A e;have:=h.tp;omega).H h.hp,(y p h.A).H h.tp,h.r.only i (λb A e=>by have:=j b A e;omega) y⟩
def jf.bl(h:jf w gH t p qb X V)(i:Bl w w')(j:∀b,b<w.heap.size->gI b=gH b):jf w' gI t p qb X V:=h.only (iT i) (λ_ _ e=>e.elim) j
def Cl.only(h:Cl w gH t p qb X){T:Nat->Prop}(i:gL T w w')(j:∀b,b<w.heap.size->T b->gH b<t\/t+32<=gH b)(y:∀b,b<w.heap.size->gI b=gH b):Cl w' gI t p qb X:=by let⟨V,h⟩:=h;exact⟨V,h.only i j y⟩
def Cl.bl(h:Cl w gH t p qb X)(i:Bl w w')(j:∀b,b<w.heap.size->gI b=gH b):Cl w' gI t p qb X:=h.only (iT i) (λ_ _ e=>e.elim) j
def jf.cellAt(h:jf w gH t p qb X V)(i)(e:(qW X V)[i]?=some v):w.cell? (U p i)=some v:=by rw[ax w p i _ 114 _ h.hp];simpa using e
def jf.M(h:jf w gH t p qb X V)(i):w.frozen? (U p i)=false:=aP w p i _ 114 h.hp
end
def CS(w:World)(gH:Nat->Nat)(t p:Nat)(qb:Nat->Nat)(X':Cx)(w':World):Prop:=
 ∃gI,(∀b,b<w.heap.size->gI b=gH b)/\Cl w' gI t p qb X'/\gL (λb=>Mc t (gH b)) w w'
section
variable{X X' X'':Cx}{V:CV}
def CS.B(h:Cl w gH t p qb X)(i:Bl w w'):CS w gH t p qb X w':=⟨gH,λ_ _=>rfl,h.bl i hU,gL.B i⟩
def CS.post(h:CS w gH t p qb X w1)(i:Bl w1 w'):CS w gH t p qb X w':=by let⟨gI,j,y,A⟩:=h;exact⟨gI,j,y.bl i hU,A.H (gL.B i)⟩
def CS.D(j:Bl w w1)(h:CS w1 gH t p qb X w'):CS w gH t p qb X w':=by let⟨gI,y,A,F⟩:=h;exact⟨gI,λb i=>y b (af i j.lt),A,(gL.B j).H F⟩
end
def jf.R{T:Nat->Nat}{X:Cx}{Y:CV}(h:jf w T t p Q X Y)(i j:Nat){a b:Value}(e:((qW X Y)[i]?,(qW X Y)[j]?)=(some a,some b)):w.cell? (U p i)=some a/\w.cell? (U p j)=some b:=by simp at e;exact⟨h.cellAt i e.1,h.cellAt j e.2⟩
def jf.Km{T:Nat->Nat}{X:Cx}{Y:CV}(h:jf w T t p Q X Y)(i j k:Nat){a b c:Value}(e:((qW X Y)[i]?,(qW X Y)[j]?,(qW X Y)[k]?)=(some a,some b,some c)):w.cell? (U p i)=some a/\w.cell? (U p j)=some b/\w.cell? (U p k)=some c:=by simp at e;exact⟨h.cellAt i e.1,h.cellAt j e.2.1,h.cellAt k e.2.2⟩
def jf.T{T:Nat->Nat}{X:Cx}{Y:CV}(h:jf w T t p Q X Y)(i j k m:Nat){a b c d:Value}(e:((qW X Y)[i]?,(qW X Y)[j]?,(qW X Y)[k]?,(qW X Y)[m]?)=(some a,some b,some c,some d)):w.cell? (U p i)=some a/\w.cell? (U p j)=some b/\w.cell? (U p k)=some c/\w.cell? (U p m)=some d:=by simp at e;exact⟨h.cellAt i e.1,h.cellAt j e.2.1,h.cellAt k e.2.2.1,h.cellAt m e.2.2.2⟩
def jf.X8{T:Nat->Nat}{X:Cx}{Y:CV}(h:jf w T t p Q X Y)(i j:Nat):w.frozen? (U p i)=false/\w.frozen? (U p j)=false:=⟨h.M i,h.M j⟩
def jf.Xl{T:Nat->Nat}{X:Cx}{Y:CV}(h:jf w T t p Q X Y)(i j k:Nat):w.frozen? (U p i)=false/\w.frozen? (U p j)=false/\w.frozen? (U p k)=false:=⟨h.M i,h.M j,h.M k⟩
def jf.Z{T:Nat->Nat}{X:Cx}{Y:CV}(h:jf w T t p Q X Y)(i j k m:Nat):w.frozen? (U p i)=false/\w.frozen? (U p j)=false/\w.frozen? (U p k)=false/\w.frozen? (U p m)=false:=⟨h.M i,h.M j,h.M k,h.M m⟩
abbrev MO(p0:Cx)(p1)(p2:CV):=iu (p0.a.map (kt p1 p2.bo))
theorem jO{S:Nat->Prop}{a:World}(j:S p\/a.heap.size<=p):∀(i:List Value) (o:Nat) (w:World),gL S a w->gL S a (ku w p o i)
 |[],_,_,h=>h
 |v::i,o,_,h=>jO j i (o+1) _ (h.setCell (U p o) j v)
section
variable{X X':Cx}{V V':CV}{c c' d:jz}{cv cv':kM}
def jf.uR(h:jf w gH t p qb X V)(j:gL (λb=>b=p) w w')(i:w'.heap[p]?=some (im (qW X' V').toArray 114 (0,0)))(r:RU w gH t qb X' V'):jf w' gH t p qb X' V':=
 ⟨i,h.tp,r.only j (λb _ e=>by rw[e,h.tp];exact .inl jl) hU⟩
def jf.mZ(h:jf w gH t p qb X V)(i:gL (λb=>b=p) w w'):gL (λb=>Mc t (gH b)) w w':=i.L λb _ e=>by rw[e,h.tp];unfold Mc;omega
def Cx.yX{X:Cx}{c' d:jz}(h:d∈(X.put c').a):d=c'\/(d∈X.a/\d.gU≠c'.gU):=by unfold Cx.put at h;simp at h;let⟨x,i,e⟩:=h;by_cases j:x.gU=c'.gU;all_goals simp_all
def Cx.jV{X:Cx}{c c':jz}(h:c∈X.a)(i:c'.gU=c.gU):c'∈(X.put c').a:=aD.2 ⟨c,h,by rw[aE i.symm]⟩
theorem rI{l:List jz}(h:l.Pairwise λc d=>c.gU<d.gU){c d:jz}(i:c∈l)(j:d∈l)(e:c.gU=d.gU):c=d:=by
 induction l with
 |nil=>simp at i
 |cons x l y=>
  rw[cI]at h;obtain rfl|hc':=bh.1 i<;>obtain rfl|hd':=bh.1 j
  .rfl
  .have:=h.1 d hd';omega
  .have:=h.1 c hc';omega
  simp_all
theorem Sn{l:List jz}(h:l.Pairwise λc d=>c.a≠d.a){c d:jz}(i:c∈l)(j:d∈l)(e:c≠d):c.a≠d.a:=by
 induction l with
 |nil=>simp at i
 |cons x l y=>
  rw[cI]at h;obtain rfl|hc':=bh.1 i<;>obtain rfl|hd':=bh.1 j
  .simp_all
  .simp_all
  .exact(h.1 c hc').symm
  simp_all
def tP.put(h:tP X)(F:c∈X.a)(H:c'.gU=c.gU)(L:c'.a=c.a):tP (X.put c'):=by
 have M:∀x∈X.a,∃y,y=(if x.gU=c'.gU then c' else x)/\y.gU=x.gU/\y.a=x.a:=λx P=>by
  by_cases e:x.gU=c'.gU
  .rw[aE e];have:x=c:=rI h.gU P F (jS e H);exact⟨c',rfl,e.symm,by rw[this,L]⟩
  rw[az e];exact⟨x,rfl,rfl,rfl⟩
 have j:(X.put c').a.map (·.gU)=X.a.map (·.gU):=by unfold Cx.put;simp_all
 have A:(X.put c').a.map (·.a)=X.a.map (·.a):=by unfold Cx.put;simp_all
 refine⟨?_,λd i=>?_,?_,λd i=>?_⟩
 .have:=cj.2 h.gU;rw[<-j]at this;exact cj.1 this
 .obtain rfl|⟨i,_⟩:=Cx.yX i
  .rw[H];exact h.lt c F
  exact h.lt d i
 .have:=(cj (f:=λc:jz=>c.a) (R:=λa b=>a≠b) (l:=X.a)).2 h.a;rw[<-A]at this;exact cj.1 this
 obtain rfl|⟨i,_⟩:=Cx.yX i
 .rw[L];exact h.b c F
 exact h.b d i
def EF(X:Cx)(c')(qb bo):(X.put c').a.map (kt qb bo)=X.a.map (kt qb bo):=by
 unfold Cx.put;simp only[br];refine bf λx _=>?_;simp;by_cases e:x.gU=c'.gU
 .rw[aE e];simp[kt,e]
 simp_all
def jf.call(h:jf w gH t p qb X V)(F:c∈X.a)(i:gL (λb=>gH b=t+8+2*c.a\/gH b=t+9+2*c.a) w w')(M:kN w' gH t (qb c.gU) c' cv')(L:c'.gU=c.gU)(Y:c'.a=c.a):jf w' gH t p qb (X.put c') V:=by
 have h8:=h.r.a.b c F;have y:∀b,b<w.heap.size->gH b=gH b:=λ_ _=>rfl;have A:∀b,b<w.heap.size->(gH b=t+8+2*c.a\/gH b=t+9+2*c.a)->gH b≠t+3:=λb _ e=>C;have P:(X.put c').a.map (λc=>V.bo c.gU)=X.a.map (λc=>V.bo c.gU):=by have:=Z5 (List.map Ae.bo) (EF X c' qb V.bo);rwa[br,br]at this
 refine⟨(i.block p h.A λe=>by have:=h.tp;omega).H h.hp,h.tp,h.r.lay.only i A λ_ _ e=>e,h.r.c.only i A (λb _ e=>C) y,h.r.tb,?_,?_,by rw[P];exact h.r.bn,h.r.pr.only i A (λb _ e=>C) y,h.r.sl.only i A (λb _ e=>C) y,h.r.vt.only i A (λb _ e=>C) y,h.r.bg.only i (λb _ e=>C) y,h.r.b.only i A λ_ _ e=>e,λd j=>?_,h.r.a.put F L Y⟩
 .rw[EF];exact(i.block _ h.r.lb λe=>by have:=h.r.tb;omega).H h.r.mp
 .intro d j;obtain rfl|⟨j,_⟩:=Cx.yX j
  .rw[L];exact h.r.bo c F
  exact h.r.bo d j
 obtain rfl|⟨j,T⟩:=Cx.yX j
 .rw[L];exact⟨_,M⟩
 obtain⟨Z,M⟩:=h.r.d d j;have:=Sn h.r.a.a j F λe=>T (jS e L);exact⟨Z,M.only i (λb _ e=>C) y⟩
def jf.DI(h:jf w gH t p qb X V)(i:c∈X.a)(j:gL (λb=>gH b=t+8+2*c.a\/gH b=t+9+2*c.a) w w'):gL (λb=>Mc t (gH b)) w w':=j.L λb _ e=>by have:=h.r.a.b c i;unfold Mc;omega
def kN.A(h:kN w gH t q c cv)(i:gL (λb=>b=q) w w')(y:w'.heap[q]?=some (im (qE c' cv').toArray 168 (0,0)))(A:c'.a=c.a)(F:Rd w gH (t+3) 5 cv'.ov (c'.ie.val.map B8))(H:Rd w gH (t+3) 5 cv'.cv (c'.jb.val.map B8))(L:Rd w gH (t+3) 5 cv'.ev (c'.e.val.map B8))(M:QR w gH (t+9+2*c'.a) (t+3) c'.q cv'.q):kN w' gH t q c' cv':=by
 have j:∀b,b<w.heap.size->b=q->gH b≠t+3:=λb _ e=>by rw[e,h.tq];omega
 exact⟨y,by rw[A];exact h.tq,F.only i j λ_ _ e=>e,H.only i j λ_ _ e=>e,L.only i j λ_ _ e=>e,M.only i j (λb _ e=>by rw[e,h.tq];omega) hU⟩
def kN.xg(h:kN w gH t q c cv)(i:gL (λb=>b=q) w w'):gL (λb=>gH b=t+8+2*c.a\/gH b=t+9+2*c.a) w w':=i.L λb _ e=>.inl (by rw[e];exact h.tq)
def CS.mk(h:jf w' gH t p qb X V)(i:gL (λb=>Mc t (gH b)) w w'):CS w gH t p qb X w':=⟨gH,λ_ _=>rfl,⟨V,h⟩,i⟩
def jf.ib(h:jf w gH t p qb X V)(a):jf (w.setCell (U p 9) (I a)) gH t p qb {X with ib:=a} V:=
 h.uR ((gL.refl (λb=>b=p) w).setCell (U p 9) (.inl rfl) _) (jx 9 _ w _ h.hp) ⟨h.r.lay,h.r.c,h.r.tb,h.r.mp,h.r.bo,h.r.bn,h.r.pr,h.r.sl,h.r.vt,h.r.bg,h.r.b,h.r.d,h.r.a.gU,h.r.a.lt,h.r.a.a,h.r.a.b⟩
def uF(h:jf w gH t p qb X V)(y:0<=X.ib)(A:X.ib<=1000000000000000):Calls prog 194 #[O p] w λi w'=>i=gX (I (X.ib+1))/\jf w' gH t p qb {X with ib:=X.ib+1} V/\gL (λb=>b=p) w w':=by
 have H:=gP (h.ib (X.ib+1));have F:=h.cellAt 9 rfl;have L:=h.M 9;have M:=h.A;have j:Hid (gL (λb=>b=p) w (w.setCell (U p 9) (I (X.ib+1)))):=(gL.refl (λb=>b=p) w).setCell (U p 9) (.inl rfl) _;clear h;go_wp2;go_ret;exact⟨rfl,H,j⟩
end
section
variable{X X':Cx}{V V':CV}{c c':jz}{cv cv':kM}
def Rd.Y(h:Rd w gH g e v cs)(i:∀b,b<w.heap.size->gH b=g->gI b=g):Rd w gI g e v cs:=h.bl (Bl.refl w) i
def oI.Y{α:Type}[nY α]{zz:List (Int×α)}(h:oI w gH g r v zz)(j:∀b,b<w.heap.size->gH b=r->gI b=r)(y:∀b,b<w.heap.size->gH b=g->gI b=g):oI w gI g r v zz:=
 h.only (gL.refl _ w) (λ_ _ e=>e.elim) (λ_ _ e=>e) j (λb i=>by rw[y b (h.map i).1 (h.map i).2,(h.map i).2])
def QR.Y{α:Type}[nY α]{q:Qn α}{V:QV}(h:QR w gH g r q V)(i:∀b,b<w.heap.size->gH b=r->gI b=r)(j:∀b,b<w.heap.size->gH b=g->gI b=g):QR w gI g r q V:=
 ⟨h.val.Y i,h.nodes.Y i,h.B.Y i j,h.nil⟩
def jf.Y(h:jf w gH t p qb X V)(A:∀b,b<w.heap.size->t<=gH b->gH b<t+32->gI b=gH b):jf w gI t p qb X V:=by
 have j:∀k,k<32->∀b,b<w.heap.size->gH b=t+k->gI b=t+k:=λk hk b y e=>by rw[A b y C C];exact e
 refine⟨h.hp,by rw[A p h.A (by rw[h.tp];omega) (by rw[h.tp];omega)];exact h.tp,h.r.lay.only (gL.refl (λ_=>False) w) (λ_ _ e=>e.elim) (j 3 C),?_,j 1 C _ h.r.lb h.r.tb,h.r.mp,h.r.bo,h.r.bn,h.r.pr.Y (j 3 C) (j 4 C),h.r.sl.Y (j 3 C) (j 5 C),h.r.vt.Y (j 3 C) (j 6 C),?_,h.r.b.Y (j 3 C),λc F=>?_,h.r.a⟩
 .obtain⟨xs,H,L,M⟩:=h.r.c;refine⟨xs,H,λb y=>j 2 C b (H.lt b y).2 (L b y),λi r P=>?_⟩;let⟨T,Y,s,Z,k4⟩:=M i r P;exact⟨T,Y,s,Z,k4.Y (j 3 C)⟩
 .obtain e|e|⟨e1,e2,e3⟩:=h.r.bg
  .exact .inl e
  .exact .inr (.inl e)
  exact .inr (.inr ⟨e1,e2,e3.Y (j 3 C) (j 6 C)⟩)
 obtain⟨cv,k⟩:=h.r.d c F;have h8:=h.r.a.b c F;exact⟨cv,k.hq,by rw[cG];exact j (8+2*c.a) C _ k.lt (by rw[<-cG];exact k.tq),k.ie.Y (j 3 C),k.jb.Y (j 3 C),k.e.Y (j 3 C),k.q.Y (j 3 C) λb y e=>by rw[cG];exact j (9+2*c.a) C b y (by rw[<-cG];exact e)⟩
end
def Ty(w):(Instr.makeMap 101 none).run prog w=.ok (.map (some w.heap.size)) (w.alloc (.map #[] 0)):=rfl
def RO(w):(Instr.makeMap 104 none).run prog w=.ok (.map (some w.heap.size)) (w.alloc (.map #[] 0)):=rfl
abbrev SE(kd ln nr ep pl ck cl ca:Int)(v n:Value)(gm:Nat):Value:= .agg #[I kd,I ln,I nr,I ep,I pl,I ck,I cl,I ca,v,n,.bool true,.map (some gm)]
theorem qf(w)(na)(nn nc)(kd ln nr ep pl ck cl ca)(va)(vn vc):iB 207 #[gN na nn nc,Fg kd ln nr ep pl ck cl ca (gN va vn vc)] w λh w'=>∃gm,h=gX (SE kd ln nr ep pl ck cl ca (gN va vn vc) (gN na nn nc) gm)/\w.heap.size<=gm/\w'.heap[gm]?=some (.map #[] 0)/\Bl w w':=by
 have i:=Ty;go_enter func207,ntmps207;go_wp2;refine aG (v:=SE kd ln nr ep pl ck cl ca (gN va vn vc) (gN na nn nc) (w.heap.size+1+1)) (by simp[results,results207,go_sem]) rfl ⟨_,rfl,C,?_,(((Bl.refl w).alloc _).alloc _).alloc _⟩;have:=ao ((w.alloc (im #[I kd,I ln,I nr,I ep,I pl,I ck,I cl,I ca,gN va vn vc] 100)).alloc (im #[I kd,I ln,I nr,I ep,I pl,I ck,I cl,I ca,gN va vn vc,gN na nn nc,.bool true,.map (some (w.heap.size+1+1))] 103)) (.map #[] 0);simpa using this
theorem xJ(w)(na)(nn nc)(kd ln nr ep pl ck cl ca)(va)(vn vc):iB 195 #[gN na nn nc,Fg kd ln nr ep pl ck cl ca (gN va vn vc)] w λh w'=>∃gm,h=gX (SE kd ln nr ep pl ck cl ca (gN va vn vc) (gN na nn nc) gm)/\w.heap.size<=gm/\w'.heap[gm]?=some (.map #[] 0)/\Bl w w':=by
 have i:=RO;go_enter func195,ntmps195;go_wp2;refine aG (v:=SE kd ln nr ep pl ck cl ca (gN va vn vc) (gN na nn nc) (w.heap.size+1+1)) (by simp[results,results195,go_sem]) rfl ⟨_,rfl,C,?_,(((Bl.refl w).alloc _).alloc _).alloc _⟩;have:=ao ((w.alloc (im #[I kd,I ln,I nr,I ep,I pl,I ck,I cl,I ca,gN va vn vc] 100)).alloc (im #[I kd,I ln,I nr,I ep,I pl,I ck,I cl,I ca,gN va vn vc,gN na nn nc,.bool true,.map (some (w.heap.size+1+1))] 106)) (.map #[] 0);simpa using this
def oI.new{α:Type}[nY α](j:w.heap[gm]?=some (.map #[] 0))(tg:gH gm=g):oI w gH g r (.map (some gm)) ([]:List (Int×α)):=
 .inr ⟨gm,0,[],rfl,tg,j,rfl,λi e z h=>mi h,λe h=>mi h,fH,fH⟩
section
variable{X X':Cx}{V V':CV}{c c':jz}{cv cv':kM}
def jf.XR(h:jf w gH t p qb X V)(i:c∈X.a)(r)(nodes)(qU)(v2 n2)(gm)(y:Rd w gH (t+3) 5 v2 (r.ct.val.map B8))(A:Rd w gH (t+3) 3 n2 (nodes.map I))(F:w.heap[gm]?=some (.map #[] 0))(tg:gH gm=t+9+2*c.a):jf (ku w (qb c.gU) 17 [I r.kd,I r.ln,I r.nr,I r.ep,I r.pl,I r.ct.kd,I r.ct.cl,I r.ct.ca,v2,n2,.bool qU,.map (some gm)]) gH t p qb (X.put {c with q:=⟨r,nodes,qU,[]⟩}) V
 /\gL (λb=>Mc t (gH b)) w (ku w (qb c.gU) 17 [I r.kd,I r.ln,I r.nr,I r.ep,I r.pl,I r.ct.kd,I r.ct.cl,I r.ct.ca,v2,n2,.bool qU,.map (some gm)]):=by
 obtain⟨cv,k⟩:=h.r.d c i;have j:gL (λb=>b=qb c.gU) w (ku w (qb c.gU) 17 [I r.kd,I r.ln,I r.nr,I r.ep,I r.pl,I r.ct.kd,I r.ct.cl,I r.ct.ca,v2,n2,.bool qU,.map (some gm)]):=jO (S:=λb=>b=qb c.gU) (.inl rfl) _ 17 w (gL.refl _ w);have H:kN _ gH t (qb c.gU) {c with q:=⟨r,nodes,qU,[]⟩} {cv with q:=⟨v2,n2,.map (some gm)⟩}:=k.A j (kA _ 17 w _ k.hq) rfl k.ie k.jb k.e ⟨y,A,oI.new F tg,λe=>mi e⟩;exact⟨h.call i (k.xg j) H rfl rfl,h.DI i (k.xg j)⟩
def J5{W' w2:World}{kd pl j y A ln h i:Int}(L:gH g<t\/t+32<=gH g)(M:jf w2 gH t p qb X V)(P:w2.heap[g]?=some (im #[I kd,I 0,I 0,I 0,I pl,I j,I y,I A,v] 100 (0,0)))(T:gL (λb=>b=p) W' w2)(Y:Bl W W'):Hid (jf (((w2.setCell (U g 1) (I ln)).setCell (U g 2) (I h)).setCell (U g 3) (I i)) gH t p qb X V)/\Hid ((((w2.setCell (U g 1) (I ln)).setCell (U g 2) (I h)).setCell (U g 3) (I i)).heap[g]?=some (im #[I kd,I ln,I h,I i,I pl,I j,I y,I A,v] 100 (0,0)))/\Hid (gL (λb=>b=p\/b=g) W (((w2.setCell (U g 1) (I ln)).setCell (U g 2) (I h)).setCell (U g 3) (I i))):=by
 have F:gL _ w2 (((w2.setCell (U g 1) (I ln)).setCell (U g 2) (I h)).setCell (U g 3) (I i)):=(((gL.refl (λb=>b=g) w2).setCell (U g 1) (.inl rfl) _).setCell (U g 2) (.inl rfl) _).setCell (U g 3) (.inl rfl) _;exact⟨M.only F (λb _ e=>jk e L) hU,kA [I ln,I h,I i] 1 w2 [I kd,I 0,I 0,I 0,I pl,I j,I y,I A,v] P,((gL.B Y).H (T.L λ_ _ e=>.inl e)).H (F.L λ_ _ e=>.inr e)⟩
theorem Iv(h:jf w gH t p qb X V)(ac:100<=t)(hc:c∈X.a)(ha:0<=X.ib)(hb:X.ib<=1000000000000000)(kd pl ck cl ca)(val nodes)(va na)(vc nc)(hv:Rd w gH (t+3) 5 (gN va val.length vc) (val.map B8))(hn:Rd w gH (t+3) 3 (gN na nodes.length nc) (nodes.map I)):iB 190 #[O p,O (qb c.gU),gN na nodes.length nc,Fg kd 0 0 0 pl ck cl ca (gN va val.length vc)] w λen w'=>en=iw/\CS w gH t p qb (X.tR c nodes kd pl ⟨ck,cl,ca,val⟩) w':=by
 obtain⟨cv,k⟩:=h.r.d c hc;let⟨W,hW⟩:=gJ (w.alloc (im #[I kd,I 0,I 0,I 0,I pl,I ck,I cl,I ca,gN va val.length vc] 100));have P:=(Bl.refl w).alloc (im #[I kd,I 0,I 0,I 0,I pl,I ck,I cl,I ca,gN va val.length vc] 100);have hX:=ao w (im #[I kd,I 0,I 0,I 0,I pl,I ck,I cl,I ca,gN va val.length vc] 100);rw[hW]at P hX;have HN:Hid (∀W',Bl W W'->_):=λW' a5=>uF (h.bl (gI:=iq gH w.heap.size 5) (P.H a5) λb hb=>gV _ _ _ _ hb) ha hb;let⟨H,Hk,Hv,Hn⟩:=jR h k hv hn;have a6:=h.A;have a0:=k.lt;let⟨a1,BW,HX⟩:=iz hW P hX;have lg:w.heap.size<W.heap.size:=(ae.1 hX).1;have a7:Hid (p≠w.heap.size):=lT;have a8:Hid (qb c.gU≠p):=λe=>by have:=k.hq;rw[e,h.hp]at this;simp at this
 have d5:=(h.bl (gI:=gH) P hU).cellAt 5 rfl;have d2:=(P.cell a0).H (k.cellAt 2 rfl);obtain⟨⟨q0,q1,q2,q3,q4,q5,q6,q7,q8⟩,A,_⟩:=uf hX;have f1:=A 1;have f2:=A 2;have f3:=A 3;have ad:=af a6 P.lt;have a2:=af a0 P.lt;clear h k hv hn hW P hX A;go_enter func190,ntmps190;go_upto_region 1 with fail;rw[a1.o];clear a1;go_cut[] λwx=>Hid (jf wx (iq gH w.heap.size 5) t p qb {X with ib:=X.ib+1} V)/\Hid (wx.heap[w.heap.size]?=some (im #[I kd,I c.a,I (X.ib+1),I X.b,I pl,I ck,I cl,I ca,gN va val.length vc] 100 (0,0)))/\Hid (gL (λb=>b=p\/b=w.heap.size) W wx)
 case first=>
  go_region_with(go_at_call 194;refine(HN _ ?hb).L ?_;(case hb=>exact jg);rintro en w2⟨rfl,F,y⟩;have e1:=(y.block w.heap.size lg (gS a7.o)).H HX;have z5:=F.cellAt 5 rfl;have z2:=(y.cell a2 a8).H d2;obtain⟨⟨y0,y1,y2,y3,_⟩,A,ly⟩:=uf e1;have g1:=A 1;have g2:=A 2;have g3:=A 3;have ag:=F.A;have ai:=af a2 y.size;let⟨a9,aa,ab⟩:=iz e1 F y;clear F y e1 A);all_goals(go_wp2_with fail;go_meet)
  all_goals exact J5 (.inl (by rw[iJ _ _ _ _ jl];omega)) aa a9 ab jg
 case rest=>
  let⟨HC,HB,HO⟩:=hcut;obtain⟨⟨z0,z1,z2,z3,z4,z5,z6,z7,z8⟩,_,lz⟩:=uf HB;have HQ:=gP (qf wc na nodes.length nc kd c.a (X.ib+1) X.b pl ck cl ca va val.length vc);have ak:=BW.lt;have al:=HO.size;clear q0 q1 q2 q3 q4 q5 q6 q7 q8 f1 f2 f3 d5 d2 HN HX;go_wp2_with fail;refine HQ.L ?_;rintro en w3⟨gm,rfl,am,a3,b3⟩;obtain⟨tag3,M⟩:∃tag3:Nat->Nat,tag3=λb=>if b=gm then t+9+2*c.a else iq gH w.heap.size 5 b:=⟨_,rfl⟩
  have j:∀b,b<w.heap.size->tag3 b=gH b:=λb hb=>by rw[M];show(if b=gm then _ else iq gH w.heap.size 5 b)=_;rw[az C,gV _ _ _ _ hb]
  have H3:jf w3 tag3 t p qb {X with ib:=X.ib+1} V:=((HC.bl b3 (gI:=iq gH w.heap.size 5) hU).Y λb hb h1 h2=>by
   rw[M];show(if b=gm then _ else iq gH w.heap.size 5 b)=_
   rw[az]
   intro e
   rw[e,iJ _ _ _ _ C]at h1
   omega)
  have a4:tag3 gm=t+9+2*c.a:=nG M;obtain⟨an,T⟩:=H3.r.d c hc;have l3:=T.lt;let⟨ap,aq,ar,au⟩:=T.T 17 18 19 20 rfl;let⟨av,aw,aY,b0⟩:=T.T 21 22 23 24 rfl;let⟨b1,b2,b4,b5⟩:=T.T 25 26 27 28 rfl;let⟨b6,b7,b8,b9⟩:=T.Z 17 18 19 20;let⟨ba,bb,bc,bd⟩:=T.Z 21 22 23 24;let⟨be,bg,bi,bl⟩:=T.Z 25 26 27 28;have oW:gL (λb=>b=p) w wc:=⟨HO.os.H BW.os,HO.tape.H BW.tape,HO.output.H BW.output,C,λi hi hs=>(HO.block i C C).H (BW.heap hi)⟩;have O3:=gP (oW.H (gL.B b3));have V3:Rd w3 tag3 (t+3) 5 (lF va val vc) (val.map B8):=Hv.only O3 (λb _ e=>by rw[e,H.tp];omega) (λb hb e=>by rw[j b hb];exact e);have N3:Rd w3 tag3 (t+3) 3 (lF na nodes nc) (nodes.map I):=Hn.only O3 (λb _ e=>by rw[e,H.tp];omega) (λb hb e=>by rw[j b hb];exact e);let⟨HF,Z⟩:=gO (H3.XR (c:=c) hc ⟨kd,c.a,X.ib+1,X.b,pl,⟨ck,cl,ca,val⟩⟩ nodes true (lF va val vc) (lF na nodes nc) gm V3 N3 a3 a4) j;clear HQ a3 b3 H3 T HC HB HO oW V3 N3 j a4 M z0 z1 z2 z3 z4 z5 z6 z7 z8;go_wp2;go_end0;exact⟨rfl,tag3,Z,⟨V,HF.1⟩,((O3.L λb _ e=>by rw[e,H.tp];unfold Mc;omega).andThen HF.2 λb hb e=>by rwa[Z.o b hb]at e)⟩
end
structure nf(X:Cx):Prop where
 nB:nB X.n X.m X.vo X.ce=true
 ll:X.lay.length=X.n
 ne:∀ch∈X.lay,1<=ch.length/\ch.length<=3
 a0:0<=X.ib
 a1:X.ib<=1000000000000000
def nf.A{X:Cx}(h:nf X):1<=X.n/\X.n<=3/\1<=X.m/\X.m<=3/\1<=X.vo/\X.vo<=5/\1<=X.ce/\X.ce<=16:=by have:=h.nB;simp[Go.Proofs.YtbghhbpacijmmaaGreat.nB]at this;omega
def Cx.D(X:Cx)(a:Int):Prop:=0<=a/\a<X.n*X.ce
def nf.oT{X:Cx}(h:nf X)(i:X.D a):oT X.n X.m X.vo X.ce a=(a%X.n,a/X.n,0):=by unfold Go.Proofs.YtbghhbpacijmmaaGreat.oT;rw[aE h.nB,az (by have:=i.1;have:=i.2;omega)]
def nf.chain{X:Cx}(h:nf X)(a):∃j ch:_,(a%X.n=((j:Nat):Int))/\X.lay[j]?=some ch/\X.chain a=ch/\1<=ch.length/\ch.length<=3/\j<X.n:=by
 let⟨b1,_⟩:=h.A;have y:=dq a (show(X.n:Int)≠0 by omega);have A:=de a (show(0:Int)<X.n by omega);have i:(a%X.n).toNat<X.lay.length:=by rw[h.ll];omega
 refine⟨(a%X.n).toNat,X.lay[(a%X.n).toNat],C,ah i,?_,(h.ne _ (aL i)).1,(h.ne _ (aL i)).2,C⟩;unfold Cx.chain;simp_all
section
variable{X X':Cx}{V V':CV}{c c':jz}{cv cv':kM}
theorem zA(h:jf w gH t p qb X V)(hx:nf X)(hc:c∈X.a)(hA:X.D c.ij):iB 189 #[O p,O (qb c.gU)] w λen w'=>∃M P,en=gX (gN M (X.chain c.ij).length P)/\Bl w w'/\Rd w' gH (t+3) 3 (gN M (X.chain c.ij).length P) ((X.chain c.ij).map I):=by
 obtain⟨cv,k⟩:=h.r.d c hc;obtain⟨j,ch,hj,T,e,_,_,a5⟩:=hx.chain c.ij;have HL:=gP λw=>lI X.n X.m X.vo X.ce c.ij w;rw[hx.oT hA,hj]at HL;rw[e];obtain⟨g,a2,cap,f,Y,a4,a6,tg,hg,A⟩:=h.r.lay;let⟨x,Z,F⟩:=A j ch T;obtain⟨M,P,a0⟩:=F.B;rw[ay]at a0;subst a0;have cg:w.cell? (U g j)=some (lF M ch P):=by rw[ax w g j a2 24 f hg];exact Z
 have lg:=(ae.1 hg).1;let⟨c0,c1,c2⟩:=h.Km 0 1 2 rfl;let⟨c3,c6⟩:=h.R 3 6 rfl;rw[Y,hx.ll]at c6;have e3:=k.cellAt 3 rfl;have lp:=h.A;have lq:=k.lt;have HX:=gP F;have a7:(0:Int)<=(j:Int):=C;have a8:(j:Int)<(X.n:Int):=C;generalize qb c.gU=q at*;clear h k hx Z F A hg hj T e Y;unfold KL at HL;go_enter func189,ntmps189;go_upto_region 1 with fail;go_cut[5,6,7] λy y2 y3 wx=>y=I j/\(∃i:Int,y2=I i)/\(∃i:Int,y3=I i)/\Hid (Bl w wx)
 case first=>
  go_region_held3(λW=>W.cell? (U p 0)=some (I X.n)/\W.cell? (U p 1)=some (I X.m)/\W.cell? (U p 2)=some (I X.vo)/\W.cell? (U p 3)=some (I X.ce)/\W.cell? (U q 3)=some (I c.ij)) (go_keep) (first|(go_at_call 88;refine gT (HL _) λw2 a1=>?_;have hB:Bl w w2:=Bl.H jg a1;let⟨z0,z1,z2,z3⟩:=hB.M lp c0 c1 c2 c3;have z4:=(hB.cell lq).H e3;have a3:=gP hB;clear a1 hB));all_goals(go_wp2_with fail;go_meet)
  all_goals exact⟨rfl,⟨_,rfl⟩,⟨_,rfl⟩,a3⟩
 case rest=>obtain⟨rfl,⟨i2,rfl⟩,⟨i3,rfl⟩,L⟩:=hcut;have d6:=(L.cell lp).H c6;have dg:=(L.cell lg).H cg;have a9:=af lp L.lt;have aa:=af lg L.lt;clear c0 c1 c2 c3 c6 e3 cg;go_wp2;go_ret;exact⟨M,P,rfl,L,HX.bl L λ_ _ e=>e⟩
def CS.RQ{nodes:List Int}{kd pl:Int}{ct:Ct}(i:CS w gH t p qb (X.tR c nodes kd pl ct) w')(j:c∈X.a):w'.cell? (U (qb c.gU) 3)=some (I c.ij):=by
 obtain⟨gI,_,⟨V,h⟩,_⟩:=i;obtain⟨cv,k⟩:=h.r.d {c with q:=Qn.new nodes ⟨kd,c.a,X.ib+1,X.b,pl,ct⟩} (by exact aD.2 ⟨c,j,gG⟩)
 exact k.cellAt 3 rfl
theorem Tk(h:jf w gH t p qb X V)(y:100<=t)(Y:nf X)(Z:c∈X.a)(hA:X.D c.ij):iB 150 #[O p,O (qb c.gU)] w λen w'=>en=iw/\CS w gH t p qb (X.qq c) w':=by
 obtain⟨cv,k⟩:=h.r.d c Z;have HC:Hid (∀W,Bl w W->_):=λW hW=>zA (h.bl hW (gI:=gH) hU) Y Z hA;have HA:Hid (∀W,Bl w W->∀A F,Rd W gH (t+3) 3 (gN A (X.chain c.ij).length F) ((X.chain c.ij).map I)->_):=λW hW A F hr=>Iv (h.bl hW (gI:=gH) hU) y Z Y.a0 Y.a1 3 c.ij 0 0 0 [] (X.chain c.ij) none A 0 F Rd.nil hr;have e3:=k.cellAt 3 rfl;have lq:=k.lt;have hX:Hid (X.qq c=X.tR c (X.chain c.ij) 3 c.ij ⟨0,0,0,[]⟩):=rfl;simp only[dA]at HA;have HZ:Hid (∀W {w0:World},CS w0 gH t p qb (X.tR c (X.chain c.ij) 3 c.ij ⟨0,0,0,[]⟩) W->W.cell? (U (qb c.gU) 3)=some (I c.ij)):=λW w0 M=>M.RQ Z;generalize qb c.gU=q at*;generalize X.chain c.ij=ch at*;clear h k Y;go_enter func150,ntmps150;go_region_held3(λW=>W.cell? (U q 3)=some (I c.ij)) (go_keep) (first|(go_at_call 189;refine(HC _ ?hb).L ?_;(case hb=>exact jg);rintro en w2⟨A,F,rfl,P,T⟩;have hB:Bl w w2:=Bl.H jg P;have z4:=(hB.cell lq).H e3;let⟨i,j⟩:=gO hB T;clear P hB T)|(go_at_call 190;refine(HA _ ?hb A F ?hr).L ?_;(case hb=>first|exact i.o|exact i.drew|exact i.drewN _);(case hr=>first|exact j.o|exact j.bl (jC.drew) (λ_ _ e=>e)|exact j.bl (jC.drewN _) λ_ _ e=>e);rintro en w3⟨rfl,M⟩;have z5:=HZ _ M;have HS:=gP M;clear M));all_goals go_wp2
 all_goals go_end0
 all_goals(refine⟨rfl,?_⟩;rw[hX.o];exact CS.D (by first|exact i.o|exact i.drew|exact i.drewN _) HS)
end
section
variable{X X':Cx}{V V':CV}{c c':jz}{cv cv':kM}
def CS.yK(y:Bl w w1)(A:∀b,b<w.heap.size->gI b=gH b)(h:CS w1 gI t p qb X w'):CS w gH t p qb X w':=by let⟨j,F,L,M⟩:=h;exact⟨j,λb i=>(F b (af i y.lt)).H (A b i),L, ((gL.B y).andThen M λb i e=>by rwa[A b i]at e)⟩
def Lp(h:jf w gH t p qb X V)(A:nf X)(F:c∈X.a)(H:X.D c.ij)(k)(M:k<(X.chain c.ij).length):iB 189 #[O p,O (qb c.gU)] w λj w'=>∃b o y,j=gX (gN (some (U b o)) (X.chain c.ij).length y)/\Bl w w'/\b<w'.heap.size/\w'.cell? (U b (o+k))=some (I ((X.chain c.ij).getD k 0)):=by
 refine(zA h A F H).L ?_;rintro j w'⟨Z,y,rfl,P,T⟩;obtain⟨b,o,cc,e,Y,_,_,i⟩:=T.cell (by rw[ay];omega);rw[ay]at e;obtain⟨rfl,rfl⟩:=e;exact⟨b,o,_,rfl,P,Y,i k _ (by rw[aK,aS,ah M];rfl)⟩
theorem wq(h:jf w gH t p qb X V)(T:100<=t)(hx:nf X)(hc:c∈X.a)(hA:X.D c.ij)(a3:c.c<(X.chain c.ij).length):iB 149 #[O p,O (qb c.gU)] w λen w'=>en=iw/\CS w gH t p qb (X.kL c) w':=by
 obtain⟨cv,M⟩:=h.r.d c hc;obtain⟨va,vc,A⟩:=M.jb.B;rw[ay]at A;have i:=M.jb;rw[A]at i;have HC:Hid (∀W,Bl w W->_):=λW hW=>Lp (h.bl hW (gI:=gH) hU) hx hc hA c.c a3;have HK:Hid (∀W,Bl w W->∀g,w.heap.size<=g->W.heap[g]?=some (im #[I ((X.chain c.ij).getD c.c 0)] 3 (0,0))->_):=λW hW g hg a4=>Iv (h.bl hW (gI:=iq gH w.heap.size (t+3)) λb hb=>gV _ _ _ _ hb) T hc hx.a0 hx.a1 2 c.ij c.jb.kd c.jb.cl c.jb.ca c.jb.val [(X.chain c.ij).getD c.c 0] va (G g) vc 1 (i.bl hW λb hb e=>by rw[gV _ _ _ _ hb];exact e) (.inr ⟨g,0,1,_,_,rfl,iJ _ _ _ _ hg,a4,gG,gF,λj x hj=>iU hj⟩);simp only[dD]at HK;let⟨Y,e3,e9⟩:=M.Km 13 3 9 rfl;let⟨Z,a0,F⟩:=M.Km 10 11 12 rfl;rw[A]at F;have lq:=M.lt;have hX:Hid (X.kL c=X.tR c [(X.chain c.ij).getD c.c 0] 2 c.ij ⟨c.jb.kd,c.jb.cl,c.jb.ca,c.jb.val⟩):=rfl;have a8:(0:Int)<=(c.c:Int):=C;have a9:(c.c:Int)<((X.chain c.ij).length:Int):=C;generalize qb c.gU=q at*;generalize a5:X.chain c.ij=ch at*;generalize ch.getD c.c 0=u at*;clear h M i a5 hx;go_enter func149,ntmps149;go_upto_region 0 with fail;go_cut[4] λy wx=>y=I u/\Hid (Bl w wx)
 case first=>
  go_region_with(first|(go_at_call 189;refine(HC _ ?hb).L ?_;(case hb=>exact jg);rintro en w2⟨b2,o2,aa,rfl,a1,ab,z5⟩;have hB:Bl w w2:=Bl.H jg a1;have z4:=(hB.cell lq).H Y;have a6:=gP hB;clear a1 hB));all_goals(go_wp2_with fail;go_meet)
  all_goals exact⟨rfl,a6⟩
 case rest=>
  obtain⟨rfl,P⟩:=hcut;let⟨d3,d9,ac⟩:=P.D lq e3 e9 Z;let⟨ad,ag⟩:=P.B lq a0 F;have ai:=af lq P.lt;have lw:=P.lt;clear e3 e9 Z a0 F Y HC;go_upto_region 1 with fail;go_region_with(first|(go_at_call 190;refine(HK _ (P.H ?hb) _ ?hl ?hg).L ?_;(case hb=>exact m8);(case hg=>first|exact ao _ _|exact ao wc.drew _|exact ao (wc.drewN _) _);(case hl=>first|omega|(simp;omega));rintro en w3⟨rfl,a2⟩;have a7:=gP (CS.yK (gH:=gH) (P.H (by exact m8)) (λb hb=>gV _ _ _ _ hb) a2);clear a2));all_goals
   go_wp2;go_end0;refine⟨rfl,?_⟩;rw[hX.o];exact a7
end
def il.CK:Go.Shelf.Ren:=⟨fun|7=>237|10=>267|n=>n,fun|23=>98|26=>3|3=>163|28=>326|0=>0|27=>325|33=>131|4=>4|n=>n,fun|n=>n⟩
def il.Ud:Go.Proofs.SlLaysZI.n7 prog il.CK:={
 mixed:=by kernel_rfl
 f7:=⟨Tryz.f237.name,by decide,func237.trans (congrArg some (by kernel_rfl))⟩
 f10:=⟨Tryz.f267.name,by decide,func267.trans (congrArg some (by kernel_rfl))⟩
 t0:=underlying0
 a0:=Tryz.isAgg0
 z0:=Tryz.sizeOf0
 v0:=Tryz.zeroValue0
 t4:=underlying4
 a4:=Tryz.isAgg4
 z4:=Tryz.sizeOf4
 v4:=Tryz.zeroValue4
 t23:=underlying98
 a23:=Tryz.isAgg98
 z23:=Tryz.sizeOf98
 v23:=Tryz.zeroValue98
 t26:=underlying3
 a26:=Tryz.isAgg3
 z26:=Tryz.sizeOf3
 v26:=Tryz.zeroValue3
 t27:=underlying325
 a27:=Tryz.isAgg325
 z27:=Tryz.sizeOf325
 v27:=Tryz.zeroValue325
 t28:=underlying326
 a28:=Tryz.isAgg326
 z28:=Tryz.sizeOf326
 v28:=Tryz.zeroValue326
 t33:=underlying131
 a33:=Tryz.isAgg131
 z33:=Tryz.sizeOf131
 v33:=Tryz.zeroValue131}
def il.yw:Go.Shelf.Ren:=⟨fun|6=>236|8=>266|9=>95|11=>286|13=>157|12=>156|23=>205|24=>206|14=>196|15=>197|16=>198|17=>199|18=>200|19=>201|20=>202|21=>203|22=>204|25=>238|26=>239|27=>240|28=>241|29=>242|30=>243|31=>268|n=>n,fun|26=>3|28=>326|24=>24|0=>0|3=>3|37=>144|48=>283|50=>285|4=>4|40=>277|39=>276|45=>140|5=>5|9=>9|51=>328|55=>332|57=>356|58=>357|33=>131|n=>n,fun|n=>n⟩
def il.Ry:Go.Proofs.SlLaysZI.n6 prog il.yw:={
 mixed:=by kernel_rfl
 f6:=⟨Tryz.f236.name,by decide,func236.trans (congrArg some (by kernel_rfl))⟩
 f8:=⟨Tryz.f266.name,by decide,func266.trans (congrArg some (by kernel_rfl))⟩
 f11:=⟨Tryz.f286.name,by decide,func286.trans (congrArg some (by kernel_rfl))⟩
 t0:=underlying0
 a0:=Tryz.isAgg0
 z0:=Tryz.sizeOf0
 v0:=Tryz.zeroValue0
 t24:=underlying24
 a24:=Tryz.isAgg24
 z24:=Tryz.sizeOf24
 v24:=Tryz.zeroValue24
 t26:=underlying3
 a26:=Tryz.isAgg3
 z26:=Tryz.sizeOf3
 v26:=Tryz.zeroValue3
 t28:=underlying326
 a28:=Tryz.isAgg326
 z28:=Tryz.sizeOf326
 v28:=Tryz.zeroValue326
 i26:=by kernel_rfl}
def il.MU:Go.Shelf.Ren:=⟨fun|4=>265|n=>n,fun|22=>24|25=>3|3=>3|4=>4|9=>9|20=>20|0=>0|n=>n,fun|n=>n⟩
def il.Wg:Go.Proofs.Lays8.n4 prog il.MU:={
 mixed:=by kernel_rfl
 f4:=⟨Tryz.f265.name,by decide,func265.trans (congrArg some (by kernel_rfl))⟩
 t0:=underlying0
 a0:=Tryz.isAgg0
 z0:=Tryz.sizeOf0
 v0:=Tryz.zeroValue0
 t3:=underlying3
 a3:=Tryz.isAgg3
 z3:=Tryz.sizeOf3
 v3:=Tryz.zeroValue3
 t4:=underlying4
 a4:=Tryz.isAgg4
 z4:=Tryz.sizeOf4
 v4:=Tryz.zeroValue4
 t9:=underlying9
 a9:=Tryz.isAgg9
 z9:=Tryz.sizeOf9
 v9:=Tryz.zeroValue9
 t20:=underlying20
 a20:=Tryz.isAgg20
 z20:=Tryz.sizeOf20
 v20:=Tryz.zeroValue20
 t22:=underlying24
 a22:=Tryz.isAgg24
 z22:=Tryz.sizeOf24
 v22:=Tryz.zeroValue24}
def Ps(k:Nat)(w)(T:0<k)(V:k<=100):iB 265 #[OO,I k] w λe w'=>∃g cap,e=gX (gN (G g) 0 cap)/\w'.ownsRow w.heap.size 3 1 (gN (G g) 0 cap) 0 []/\Bl w w':=by
 obtain⟨M,P,h,i,y⟩:=fx il.tY;refine(Any8.slices_Grow_grow il.Wg M (I 0) P h (mG i) none 0 0 k [] w C C (pI y) C gG (λ_=>rfl) λa e=>mi e).L ?_;rintro e w'⟨rfl,rfl⟩;refine⟨_,_,rfl,?_,(jC.drew).alloc _⟩;have A:=grownCap_ge w (0+k) 0 3;have F:=grownCap_le_maxLen w (0+k) 0 3 (by unfold maxLen;omega);refine⟨rfl,.inr ⟨w.heap.size,_,_,rfl,jl,ao w.drew _,ju,F,?_,gG⟩⟩;have H:∀j,(Builtin.zeroCells (I 0).cells j).size=j:=λj=>by rw[size_zeroCells];exact Nat.mul_one j
 change (#[]++Builtin.zeroCells (I 0).cells (0+k-0)++Builtin.zeroCells (I 0).cells (grownCap w (0+k) 0 3-(0+k))).size=grownCap w (0+k) 0 3*1;rw[Array.size_append,Array.size_append,H,H];simp;simp at A;omega
def tk(lay:List (List Int))(j:Nat):List Int:=(lay.take j).flatten
def yY{lay:List (List Int)}{j:Nat}{ch:List Int}(h:lay[j]?=some ch):tk lay (j+1)=tk lay j++ch:=by unfold tk;rw[cW,h];simp
theorem ID{lay:List (List Int)}(h:∀ch∈lay,ch.length<=3)(j):(tk lay j).length<=3*j:=by
 induction j with
 |zero=>simp[tk]
 |succ j i=>
  cases e:lay[j]? with
  |none=>
   have:tk lay (j+1)=tk lay j:=by unfold tk;rw[cW,e];simp
   rw[this];omega
  |some ch=>have:=h ch (aR e);rw[yY e,aO];omega
def Qf(lay):tk lay lay.length=jW lay:=by unfold tk jW;rw[bZ]
theorem JE{lay:List (List Int)}(h:pV w gH tc v lay)(n1:1<=lay.length)(n3:lay.length<=3)(T:∀ch∈lay,1<=ch.length/\ch.length<=3):iB 235 #[v] w λe w'=>∃g cap,e=gX (gN (G g) (jW lay).length cap)/\w'.ownsRow w.heap.size 3 1 (gN (G g) (jW lay).length cap) (jW lay).length ((jW lay).map I)/\Bl w w':=by
 obtain⟨i3,ji,ab,ac,ad⟩:=fx il.tY;obtain⟨g,ag,cap,f,rfl,_,_,tg,hg,hx⟩:=h;have lg:=(ae.1 hg).1;have M:Hid (∀j:Nat,j<lay.length->∃b o c ch,lay[j]?=some ch/\1<=ch.length/\ch.length<=3/\w.cell? (U g j)=some (gN (some (U b o)) ch.length c)/\b<w.heap.size/\∀k u,(ch.map I)[k]?=some u->w.cell? (U b (o+k))=some u):=λj hj=>by have hc:=T _ (aL hj);let⟨x,h1,h2⟩:=hx j lay[j] (ah hj);obtain⟨b,o,c,rfl,lb,_,_,a0⟩:=h2.cell ig;rw[ay]at h1;exact⟨b,o,c,lay[j],ah hj,hc.1,hc.2,by rw[ax w g j ag 24 f hg];exact h1,lb,λk u hk=>a0 k u hk⟩
 have a3:=ID (λch hc=>(T ch hc).2) lay.length;rw[Qf]at a3;have a4:0<(jW lay).length:=by
  let⟨b,o,c,ch,y,a1,_⟩:=M 0 n1;unfold jW;rw[List.length_flatten]
  cases lay with
  |nil=>simp at n1
  |cons x l=>simp at y;subst y;simp;omega
 let⟨HG,HT⟩:=gO (λw=>Ps (jW lay).length w a4 C) (ID (lay:=lay) λch hc=>(T ch hc).2);generalize hn:lay.length=n at*;have HN:=gP hn;clear hx hg hn T;go_enter func235,ntmps235;go_wp2;go_loop[3,11] (λs i=>∃j:Nat,j<=n/\i=I j/\s=I ((tk lay j).length:Nat)) λ_ i=>n-(Go.RowKit.intOf i).toNat
 case atStart=>exact⟨0,ju,rfl,by simp[tk]⟩
 obtain⟨j,hj,rfl,rfl⟩:=hrel;by_cases ja:j<n
 .let⟨b,o,c,ch,y,a1,ai,h1,lb,h2⟩:=M j ja;have b0:=HT j;have hs:(tk lay (j+1)).length=(tk lay j).length+ch.length:=by rw[yY y,aO]
  have a5:(j:Int)<(n:Int):=C;generalize (tk lay j).length=jm at*;have Hs:=gP hs;clear hs h2 y;go_wp2;go_round
  case rel=>exact⟨j+1,C,iD,by rw[Hs.o];go_num⟩
  exact iC
 have ak:j=n:=C;subst ak;have a6:tk lay j=jW lay:=by rw[<-HN.o];exact Qf lay
 rw[a6];go_wp2_with fail;refine(HG _).L ?_;rintro e w1⟨g1,a7,rfl,a8,a9⟩;let⟨al,am⟩:=gO a8 a9;clear a8 a9 HG;go_wp2;go_loopw[6,27](λd i wr=>∃k:Nat,k<=j/\i=I k/\(∃g2 A,d=gN (G g2) (tk lay k).length A/\Hid (wr.ownsRow w.heap.size 3 1 (gN (G g2) (tk lay k).length A) (tk lay k).length ((tk lay k).map I)))/\Hid (Bl w wr)) λ_ i _=>j-(Go.RowKit.intOf i).toNat
 case atStart=>exact⟨0,ju,rfl,⟨g1,a7,by simp[tk],by unfold Hid;simpa [tk]using al.o⟩,am⟩
 obtain⟨k,hk,rfl,⟨g2,A,rfl,V⟩,F⟩:=hrel;by_cases ja:k<j
 .let⟨b,o,c,ch,y,a1,ai,h1,lb,h2⟩:=M k ja;have b1:=HT k;have Hs:Hid ((tk lay (k+1)).length=(tk lay k).length+ch.length):=by unfold Hid;rw[yY y,aO]
  have Hr:Hid ((tk lay k).map I++ch.map I=(tk lay (k+1)).map I):=by unfold Hid;rw[yY y,aZ]
  have a5:(k:Int)<(j:Int):=C;have d1:=(F.cell lg).H h1;have b2:=af lg F.lt;have an:=F.lt;have a2:Hid (∀i u,(ch.map I)[i]?=some u->wr.cell? (((U b o):Addr).add i)=some u):=λi u hu=>by rw[mK,F.cell lb];exact h2 i u hu
  have aa:Hid (∀u∈(ch.map I),u.oneCell'=true):=λu hu=>by obtain⟨i,_,rfl⟩:=aD.1 hu;rfl
  have ap:Hid ((tk lay k).length+ch.length<=maxLen):=mV;have aq:Hid (((tk lay k).length+ch.length)*8<=140737488355328):=lT;clear h2 h1 y;go_wp2_with(at_builtin;refine fm _ rfl _ _ 24 rfl w.heap.size 3 i3 (I 0) 1 8 underlying24 ji ab ac ad rfl gF _ (tk lay k).length _ rfl V (U b o) ch.length c _ rfl gG a2 aa a1 ap aq an wr.heap.size rfl ?_);intro g' Y w3 Z P ar aY;have au:Hid (Bl w w3):=F.A (gL.A P) λb e=>(V.lt b e.symm).1;have av:Hid (w3.ownsRow w.heap.size 3 1 (gN (G g') (tk lay (k+1)).length Y) (tk lay (k+1)).length ((tk lay (k+1)).map I)):=by unfold Hid;rw[<-Hr.o,Hs.o];exact Z
  clear Z P ar;go_wp2;go_roundw
  case rel=>exact⟨k+1,C,iD,⟨g',Y,mf Hs.o,av⟩,au⟩
  exact iC
 have aw:k=j:=C;subst aw;rw[a6]at V|-;go_wp2;go_ret;exact⟨g2,A,rfl,V,F⟩
theorem yQ{lay:List (List Int)}(h:pV w gH tc v lay)(j:1<=lay.length)(y:lay.length<=3)(i:∀ch∈lay,1<=ch.length/\ch.length<=3):iB 191 #[v] w λe w'=>∃g cap,e=gX (gN (G g) (jW lay).length cap)/\w'.ownsRow w.heap.size 3 1 (gN (G g) (jW lay).length cap) (jW lay).length ((jW lay).map I)/\Bl w w':=by
 have H:=gP (JE h j y i);go_enter func191,ntmps191;go_wp2_with(refine H.L ?_;rintro e w2⟨g,cap,rfl,A,F⟩;have L:=gP F);go_ret;exact⟨g,_,rfl,(gP A).o,L⟩
def Cx.DK(X:Cx){c1 c2:jz}(h:c1.gU=c2.gU):(X.put c1).put c2=X.put c2:=by
 unfold Cx.put;simp only[br];congr 1;refine bf λx _=>?_;show(if(if x.gU=c1.gU then c1 else x).gU=c2.gU then c2 else(if x.gU=c1.gU then c1 else x))=if x.gU=c2.gU then c2 else x
 by_cases e:x.gU=c1.gU;all_goals simp_all
def Cx.JW(X:Cx)(c)(nodes)(kd pl)(ct):(X.put c).tR c nodes kd pl ct=X.tR c nodes kd pl ct:=by show(({X with ib:=X.ib+1}:Cx).put c).put _=({X with ib:=X.ib+1}:Cx).put _;exact Cx.DK _ rfl
def nf.put{X:Cx}(h:nf X)(c):nf (X.put c):=⟨h.nB,h.ll,h.ne,h.a0,h.a1⟩
section
variable{X X':Cx}{V V':CV}{c c':jz}{cv cv':kM}
def jf.XK(h:jf w gH t p qb X V)(i:c∈X.a)(wh ad):jf (ku w (qb c.gU) 14 [I wh,I ad,OO]) gH t p qb (X.put {c with e:=⟨wh,ad,[]⟩}) V/\gL (λb=>Mc t (gH b)) w (ku w (qb c.gU) 14 [I wh,I ad,OO]):=by obtain⟨cv,k⟩:=h.r.d c i;have j:gL _ w (ku w _ 14 [I wh,I ad,OO]):=jO (S:=λb=>b=qb c.gU) (.inl rfl) _ 14 w (gL.refl _ w);have y:kN _ gH t (qb c.gU) {c with e:=⟨wh,ad,[]⟩} {cv with ev:= OO}:=k.A j (kA _ 14 w _ k.hq) rfl k.ie k.jb Rd.nil k.q;exact⟨h.call i (k.xg j) y rfl rfl,h.DI i (k.xg j)⟩
theorem JG(h:jf w gH t p qb X V)(M:100<=t)(P:nf X)(hc:c∈X.a)(mark wh ad):iB 151 #[O p,O (qb c.gU),I mark,.agg #[I wh,I ad,OO]] w λT w'=>T=iw/\CS w gH t p qb (X.pW c mark ⟨wh,ad,[]⟩) w':=by
 obtain⟨cv,hk⟩:=h.r.d c hc;let⟨b1,b2,_⟩:=P.A;let⟨W,hW⟩:=gJ (w.alloc (im #[I wh,I ad,OO] 43));have L:=(Bl.refl w).alloc (im #[I wh,I ad,OO] 43);have hX:=ao w (im #[I wh,I ad,OO] 43);rw[hW]at L hX;let⟨r0,r1,r2,lr⟩:=AZ hX;have F:=h.bl L (gI:=gH) hU;obtain⟨ag,y⟩:=F.r.d c hc;let⟨A,Y⟩:=F.XK hc wh ad;let⟨a4,a5,a6⟩:=y.Km 14 15 16 rfl;let⟨a7,a8,a9⟩:=y.Xl 14 15 16;have lq:=y.lt;have nq:qb c.gU≠w.heap.size:=by have:=hk.lt;omega
 let⟨W1,j⟩:=gJ (ku W (qb c.gU) 14 [I wh,I ad,OO]);rw[j]at A Y;have d6:=A.cellAt 6 rfl;have ai:=A.A;have Z:1<=X.lay.length/\X.lay.length<=3:=by rw[P.ll];omega
 have HL:=gP (yQ A.r.lay Z.1 Z.2 P.ne);have S1:CS w gH t p qb (X.put {c with e:=⟨wh,ad,[]⟩}) W1:=CS.D L (CS.mk A Y);have HA:Hid (∀W2,Bl W1 W2->∀g cap,W2.ownsRow W1.heap.size 3 1 (gN (G g) (jW X.lay).length cap) (jW X.lay).length ((jW X.lay).map I)->iB 190 #[O p,O (qb c.gU),gN (G g) (jW X.lay).length cap,Fg 4 0 0 0 mark 0 0 0 OO] W2 λT w'=>T=iw/\CS w gH t p qb (X.pW c mark ⟨wh,ad,[]⟩) w'):=λW2 i g cap ho=>by have l1:=Y.size;have l2:=L.lt;have ht:∀b,b<W1.heap.size->iq gH W1.heap.size (t+3) b=gH b:=λb hb=>gV _ _ _ _ hb;have aa:({c with e:=⟨wh,ad,[]⟩}:jz)∈(X.put {c with e:=⟨wh,ad,[]⟩}).a:=Cx.jV hc rfl;have:=Iv (A.bl i ht) M aa P.a0 P.a1 4 mark 0 0 0 [] (jW X.lay) none (G g) 0 cap Rd.nil (Rd.qj ho λb ab=>iJ _ _ _ _ (ho.lt b ab).1);refine this.L λT w'⟨e1,e2⟩=>⟨e1,?_⟩;rw[Cx.JW]at e2;let⟨a0,k1,k2,k3⟩:=e2;have l3:=i.lt;refine⟨a0,λb hb=>(k1 b C).H (ht b C),k2,?_⟩;exact(((gL.B (S:=λb=>Mc t (gH b)) L).H Y).H (gL.B i)).andThen k3 λb hb e=>by rwa[ht b C]at e
 let⟨a1,HE,a2⟩:=iz A.r.lay j hW;generalize hq:qb c.gU=q at*;clear h hk F y A Y hW L hX j S1;go_enter func151,ntmps151;go_upto_region 1 with fail;rw[a2.o];clear a2;go_upto_region 2 with fail;have a3:((W.setCell (U q 14) (I wh)).setCell (U q 15) (I ad)).setCell (U q 16) OO=W1:=HE.o;rw[a3];clear HE a3 a4 a5 a6 a7 a8 a9 r0 r1 r2;obtain⟨gl,cl0,ac⟩:∃gl cl0,V.lv=gN (G gl) X.lay.length cl0:=by obtain⟨g,ak,cap,f,e,_⟩:=a1.o;exact⟨g,cap,e⟩
 rw[ac]at d6 HL;go_wp2_with(first|(go_at_call 191;refine HL.L ?_;rintro T w2⟨g,cap,rfl,ho,i⟩;let⟨HO,HB⟩:=gO ho i;clear ho i HL)|(go_at_call 190;refine iO (HA _ HB _ _ HO) λw3 HS=>?_));go_end0;exact⟨rfl,HS⟩
end
def rM(l):∀x∈(iu l).toList,MapKept.IsKey (.int .i64) x.key:=by intro x h;simp[iu]at h;obtain⟨e,_,rfl⟩:=h;exact rfl
def lQ{l:List Ae}(h:x∈(iu l).toList):∃e∈l,x=e.A:=by simp[iu]at h;obtain⟨e,i,rfl⟩:=h;exact⟨e,i,rfl⟩
def Ul{l1 l2:List Ae}{e:Ae}(L:∀x∈l1,x.k≠e.k)(i:∀x∈l2,x.k≠e.k):Instr.findNow (.int .i64) (.int .i64 e.k) (iu (l1++e::l2)).toList 0=some (some (l1.length,e.v)):=by
 have F:(iu (l1++e::l2)).toList=l1.map Ae.A++e.A::l2.map Ae.A:=by simp[iu]
 obtain⟨_,h⟩|⟨j,x,M,h,H⟩:=ZR (d:= .int .i64) (k:= .int .i64 e.k) rfl (iu (l1++e::l2)).toList 0 (rM _)
 .exact absurd rfl (h e.A (nG F))
 rw[F]at h;have hj:j=l1.length:=by
  obtain hj|hj|hj:=fh j l1.length
  .exfalso;rw[aB (iU hj),aK]at h;obtain⟨y,A,rfl⟩:=bN.1 h;exact L y (aR A) (by simpa [Ae.A]using H)
  .exact hj
  exfalso;rw[aC ig,ay,show j-l1.length=(j-l1.length-1)+1 by omega,dx,aK]at h;obtain⟨y,A,rfl⟩:=bN.1 h;exact i y (aR A) (by simpa [Ae.A]using H)
 subst hj;rw[aC gG]at h;simp at h;subst h;rw[M];simp[Ae.A]
def Qi(l1 l2)(e):(iu (l1++e::l2)).eraseIdxIfInBounds l1.length=iu (l1++l2):=by simp[iu,List.eraseIdx_append_of_length_le]
def Of{bm clk:Nat}{l1 l2:List Ae}{e:Ae}(ty)(i:w.heap[bm]?=some (.map (iu (l1++e::l2)) clk))(j:∀x∈l1,x.k≠e.k)(h:∀x∈l2,x.k≠e.k):(Builtin.delete_ #[98,3] ty #[.map (some bm),.int .i64 e.k]).run prog w=.ok (.tuple #[]) (setBlock w bm (.map (iu (l1++l2)) clk)):=by
 have y:=fa (w:=w) underlying3 (Ul j h);have A:=eW (P:=prog) (w:=w) (k:= .int .i64 e.k) underlying3 um (iu (l1++e::l2)).isEmpty 9999;simp[Builtin.delete_,Sem.run_bind,aI i,A,y,Z7 _ i,setBlock,Qi]
end Go.Proofs.YtbghhbpacijmmaaGreat
