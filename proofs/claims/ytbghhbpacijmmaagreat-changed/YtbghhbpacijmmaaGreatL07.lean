import Derived.Shelf.Sort.Plain
import Derived.Test.YtbghhbpacijmmaaGreatProg
import Derived.Maps.Own
import Derived.Maps.OwnSet
import Derived.Shelf.SlMaps.Clone
import Derived.Shelf.SlMaps.DeleteFunc
import Derived.Shelf.SlIterI.Nil
import Derived.Shelf.SlIterI.Sorted
import Derived.Lib.BytesEntry
import Derived.Laws.IdiomRangeMap
import Derived.Test.YtbghhbpacijmmaaGreatL06
open Go.Proofs.Tryz
namespace Go.Proofs.YtbghhbpacijmmaaGreat
set_option maxRecDepth 99999
set_option maxHeartbeats 0
set_option linter.defProp false
set_option linter.unusedVariables false
open Go.RowKit Go.Maps Go.Shelf Go.Sort
open Go.ChangeMaps (setBlock)
attribute [local go_sem ↓] Go.wp_at_zero Go.wp_at_succ
variable {w w' w1 W:World} {gH gI qb:Nat->Nat} {v:Value} {R:List (List Int)} {ms xs cs:List Value} {zz:List (Int×Vo)} {l:List Ae} {p n g gm q k:Nat} {X X':Cx} {V V':CV} {us d ys r rr zs:List Int} {c c':jz} {cv cv':kM} {e:TypeId} {b:Int×List Int} {x u:Int} {es:Array MapEntry} {l1 l2:List Vo} {S:Nat->Prop} {f:Value->Vo}
section
variable{t:Nat}
def pq(qb:Nat->Nat)(n q:Nat):Nat->Nat:=λk=>if k=n then q else qb k
def jf.D(h:jf w gH t p qb X V)(h8:X.a.length<8)(kind)(hB:Bl w W)(aq:w.heap.size<=q)(hq:W.heap[q]?=some (im (qE (X.iP kind) kM.zero).toArray 168 (0,0)))(ad:W.ownsRow 0 43 3 V.rv X.c.length xs)(ag:∀i r,X.c[i]?=some r->xs[3*i]?=some (I r.wh)/\xs[3*i+1]?=some (I r.ad)/\∃s,xs[3*i+2]?=some s/\Rd w gH (t+3) 5 s (r.val.map B8))(a9:∀b,V.rv.ownBlock=some b->gH b=t+2)(a5:W.grownBy w1 V.rv.ownBlock){A:Value}(Q:w1.ownsRow 0 43 3 A (X.c.length+1) (xs++[I 0,I 0,OO]))(ai:∀b,A.ownBlock=some b->V.rv.ownBlock=some b\/W.heap.size<=b):∃gI,(∀b,b<w.heap.size->gI b=gH b)/\jf (setBlock (w1.setCell (U p 7) A) V.bm (.map (iu (X.a.map (kt qb V.bo)++[⟨X.c.length,O q,V.clk⟩])) (V.clk+1))) gI t p (pq qb X.c.length q) (X.je (X.iP kind)) {V with rv:=A,clk:=V.clk+1,bo:=pq V.bo X.c.length V.clk}/\gL (λb=>Mc t (gH b)) w (setBlock (w1.setCell (U p 7) A) V.bm (.map (iu (X.a.map (kt qb V.bo)++[⟨X.c.length,O q,V.clk⟩])) (V.clk+1))):=by
 let⟨f1,f2⟩:=vg h8;have ak:q<W.heap.size:=(ae.1 hq).1;obtain⟨gI,a6⟩:∃gI:Nat->Nat,gI=λb=>if b=q then t+8+2*X.mQ else if w.heap.size<=b then t+2 else gH b:=⟨_,rfl⟩
 have j:∀b,b<w.heap.size->gI b=gH b:=λb F=>by rw[a6];show(if b=q then _ else _)=_;rw[az C,az C]
 have O1:gL (λb=>V.rv.ownBlock=some b) W w1:=(gL.A a5).L λ_ _ e=>e.symm;have M:∀b,V.rv.ownBlock=some b->b<w.heap.size:=λb F=>by obtain⟨ys,y1,_⟩:=h.r.c;exact(y1.lt b F).2
 have T:gL (λb=>gH b=t+2) w w1:=((gL.B (S:=λb=>V.rv.ownBlock=some b) hB).H O1).L λb _ e=>a9 b e;have O2:gL (λb=>b=p) w1 (w1.setCell (U p 7) A):=(gL.refl (λb=>b=p) w1).setCell (U p 7) (.inl rfl) A;have a7:w1.heap[p]?=some (im (qW X V).toArray 114 (0,0)):=(T.block p h.A λe=>by have:=h.tp;omega).H h.hp;have aa:w1.heap[V.bm]?=some (.map (MO X qb V) V.clk):=(T.block _ h.r.lb λe=>by have:=h.r.tb;omega).H h.r.mp;have al:V.bm≠p:=λe=>by have h1:=h.r.tb;have h2:=h.tp;rw[e,h2]at h1;omega
 have O3:gL (λb=>b=V.bm) (w1.setCell (U p 7) A) (setBlock (w1.setCell (U p 7) A) V.bm (.map (iu (X.a.map (kt qb V.bo)++[⟨X.c.length,O q,V.clk⟩])) (V.clk+1))):=j7 _ _ _;generalize hZ:setBlock (w1.setCell (U p 7) A) V.bm (.map (iu (X.a.map (kt qb V.bo)++[⟨X.c.length,O q,V.clk⟩])) (V.clk+1))=Z at O3|-;have ar:w.heap.size<=w1.heap.size:=T.size;have Y:gL (λb=>gH b=t+2\/b=p\/b=V.bm) w Z:=((T.L λ_ _ e=>.inl e).H (O2.L λ_ _ e=>.inr (.inl e))).H (O3.L λ_ _ e=>.inr (.inr e));have tp:=h.tp;have tb:=h.r.tb;have hT:∀b,b<w.heap.size->(gH b=t+2\/b=p\/b=V.bm)->gH b<=t+2/\t<=gH b:=λb _ e=>by
  obtain e|e|e:=e
  .omega
  .rw[e];omega
  rw[e];omega
 have P:∀b,b<w.heap.size->(gH b=t+2\/b=p\/b=V.bm)->gH b≠t+3:=λb F e=>by have:=hT b F e;omega
 have a8:∀b,b<w.heap.size->gH b=t+3->gI b=t+3:=λb F e=>by rw[j b F];exact e
 have au:=hB.lt;have am:Z.heap[p]?=some (im (qW (X.je (X.iP kind)) {V with rv:=A,clk:=V.clk+1,bo:=pq V.bo X.c.length V.clk}).toArray 114 (0,0)):=
  (O3.block p (af (ae.1 a7).1 O2.size) (Ne.symm al)).H (jx 7 _ w1 _ a7)
 refine⟨gI,j,⟨am,(j p h.A).H h.tp,h.r.lay.only Y P a8,?_,(j _ h.r.lb).H h.r.tb,?_,λc hc=>?_,?_,h.r.pr.only Y P (λb F e=>by have:=hT b F e;omega) j,h.r.sl.only Y P (λb F e=>by have:=hT b F e;omega) j,h.r.vt.only Y P (λb F e=>by have:=hT b F e;omega) j,h.r.bg.only Y (λb F e=>by have:=hT b F e;omega) j,h.r.b.only Y P a8,λc hc=>?_,h.r.a.D h8 kind⟩,Y.L λb F e=>by have:=hT b F e;unfold Mc;omega⟩
 .have an:xs.length=X.c.length*3:=ad.1;have n1:∀b,A.ownBlock=some b->b≠p:=λb e e'=>gY Q a7 gF (e'▸e);have n2:∀b,A.ownBlock=some b->b≠V.bm:=λb e e'=>by let⟨cc,ab⟩:=nZ Q b e;rw[e',aa]at ab;simp at ab
  refine tV.push (λi r hr=>?_) an (O3.iX (O2.iX Q n1) n2) λb F=>?_
  .let⟨a1,a2,s,a3,a4⟩:=ag i r hr;exact⟨a1,a2,s,a3,a4.only Y P a8⟩
  obtain e|e:=ai b F
  .rw[j b (M b e)];exact a9 b e
  rw[a6];show(if b=q then _ else if w.heap.size<=b then t+2 else gH b)=t+2;rw[az C,aE C]
 .show Z.heap[V.bm]?=some (.map (iu ((X.a++[X.iP kind]).map (kt (pq qb X.c.length q) (pq V.bo X.c.length V.clk)))) (V.clk+1));rw[<-hZ,nW (af (ae.1 aa).1 O2.size),aZ];congr 3;have e1:X.a.map (kt (pq qb X.c.length q) (pq V.bo X.c.length V.clk))=X.a.map (kt qb V.bo):=bf λc hc=>by have:=h.r.a.lt c hc;unfold kt pq;rw[az C,az C]
  rw[e1];congr 1;show _=[kt (pq qb X.c.length q) (pq V.bo X.c.length V.clk) (X.iP kind)];unfold kt pq Cx.iP;simp
 .show pq V.bo X.c.length V.clk c.gU<V.clk+1;unfold pq;split
  .omega
  rename_i ap;obtain hc|hc:=aT.1 hc
  .have:=h.r.bo c hc;omega
  simp at hc;subst hc;exact absurd rfl ap
 .show((X.a++[X.iP kind]).map λc=>pq V.bo X.c.length V.clk c.gU).Nodup;have e1:X.a.map (λc=>pq V.bo X.c.length V.clk c.gU)=X.a.map λc=>V.bo c.gU:=bf λc hc=>by have:=h.r.a.lt c hc;unfold pq;rw[az C]
  rw[aZ,e1,cX];refine⟨h.r.bn,gG,λx hx y hy=>?_⟩;obtain⟨c,hc,rfl⟩:=aD.1 hx;have F:=h.r.bo c hc;have av:y=V.clk:=by simpa [pq,Cx.iP]using hy
  omega
 obtain hc|hc:=aT.1 hc
 .have ja:=h.r.a.lt c hc;obtain⟨dv,hk⟩:=h.r.d c hc;have e1:pq qb X.c.length q c.gU=qb c.gU:=by unfold pq;rw[az C]
  rw[e1];exact⟨dv,hk.only Y (λb F e=>by have:=hT b F e;omega) j⟩
 simp at hc;subst hc;have e1:pq qb X.c.length q (X.iP kind).gU=q:=by unfold pq Cx.iP;simp
 rw[e1];have aw:=h.A;have aY:=h.r.lb;have ac:w1.heap[q]?=some (im (qE (X.iP kind) kM.zero).toArray 168 (0,0)):=(O1.block q ak λe=>by have:=M q e;omega).H hq;have a0:=(ae.1 ac).1;refine⟨kM.zero,((O3.block q (af a0 O2.size) C).H ((O2.block q a0 C).H ac)),?_,Rd.nil,Rd.nil,Rd.nil,QR.zero⟩;rw[a6];show(if q=q then _ else _)=_;rw[aE rfl];rfl
end
def il.U4:(prog.info? 43).map (λi=>(i.zero,i.size,i.bytes))=some (some (.agg #[I 0,I 0,OO]),3,40):=rfl
section
variable{t:Nat}
theorem ur(h:jf w gH t p qb X V)(h8:X.a.length<8)(hr:X.c.length<=1000000000)(kind):iB 86 #[.pointer (some ⟨p,0,none⟩),.int .i64 kind] w λe w'=>∃q,e=gX (.tuple #[.pointer (some ⟨q,0,none⟩),.int .i64 0])/\w.heap.size<=q/\∃gI,(∀b,b<w.heap.size->gI b=gH b)/\Cl w' gI t p (pq qb X.c.length q) (X.je (X.iP kind))/\gL (λb=>Mc t (gH b)) w w':=by
 obtain⟨a8,hi,a9,aa,ab⟩:=fx il.U4;obtain⟨xs,x1,x2,x3⟩:=h.r.c;obtain⟨ad,cc,T⟩:∃ad cc,V.rv=gN ad X.c.length cc:=by
  obtain⟨e,h0⟩|⟨g,cap,aw,e,_⟩:=x1.2
  .exact⟨_,_,jS e h0⟩
  exact⟨_,_,e⟩
 let⟨h4,h7⟩:=h.R 4 7 rfl;rw[T]at h7;have a1:=h.cellAt 8 rfl;have hl:=Qk w V.bm V.clk _ h.r.mp;rw[ay]at hl;have H:=gP h;have ja:=h.A;have M:=h.r.lb;have ac:p≠V.bm:=λe=>by have h1:=h.r.tb;have h2:=h.tp;rw[<-e,h2]at h1;omega
 have aY:((X.a.length:Int)==8)=false:=ig;have ag:Hid (X.c.length+1<=maxLen):=mV;have ai:Hid ((X.c.length+1)*40<=140737488355328):=lT;have HF:Hid (∀W,Bl w W->_):=λW hW=>FD (h.bl hW (gI:=gH) hU) h8;have HX:=my x1 x2 x3;have ak:Hid (∀e∈X.a.map (kt qb V.bo),e.k≠((X.c.length:Nat):Int)):=λe he=>by obtain⟨c,hc,rfl⟩:=aD.1 he;have:=h.r.a.lt c hc;show((c.gU:Nat):Int)≠_;omega
 let⟨a2,H8,al,am⟩:=jR T h8 h.r.mp (And.intro h.r.tb h.tp);clear h x1 x2 x3 T h8;go_enter func86,ntmps86;go_upto_region 4 with fail;go_cut[7] λx wx=>∃(q:Nat),x=.pointer (some ⟨q,0,none⟩)/\w.heap.size<=q/\Hid (Bl w wx)/\Hid (wx.heap[q]?=some (im (qE (X.iP kind) kM.zero).toArray 168 (0,0)))
 case first=>
  go_region_held3(λW=>W.cell? ⟨p,4,none⟩=some (.int .i64 X.id)) (go_keep) (first|(go_at_call 148;refine(HF _ ?hb).L ?_;(case hb=>exact jg);rintro en w2⟨rfl,a3⟩;have A:Bl w w2:=Bl.H jg a3;have z4:=(A.cell ja).H h4;have a4:=gP A;clear a3 A));all_goals(go_wp2_with fail;go_meet)
  all_goals exact⟨_,rfl,a4.lt,a4.alloc _,ao _ _⟩
 case rest=>
  obtain⟨q,rfl,Y,F,a5⟩:=hcut;have A:=F.o;let⟨d7,d8⟩:=A.B ja h7 a1;have aq:=af ja A.lt;have OW:Hid (wc.ownsRow 0 43 3 V.rv X.c.length xs):=(iT A).iX HX.1 λ_ _ e=>e;rw[a2.o]at OW;have ar:=A.lt;have a6:=gP (fW (cs:=#[.int .i64 0,.int .i64 0,gN none 0 0]) (t:=43) (fr:=(0,0)) (ao wc _));clear h4 h7 a1 hl A;go_wp2_with(at_builtin;refine fm _ rfl _ _ 97 rfl 0 43 a8 _ 3 40 underlying97 hi a9 aa ab rfl gF _ X.c.length _ rfl (OW.alloc _) ⟨wc.heap.size,0,none⟩ 1 1 [.int .i64 0,.int .i64 0,gN none 0 0] rfl rfl a6 rS gF ag ai gG (wc.heap.size+1) gG ?_);intro g cap w1 P i Z au;rw[<-a2.o]at i Z;obtain⟨gI,Q,K,oQ⟩:=H.D H8 kind (F.alloc (im #[.int .i64 0,.int .i64 0,gN none 0 0] 43)) Y ((cL wc _ (ae.1 a5).1).H a5) (xs:=xs) ((iT (F.alloc _)).iX HX.1 λ_ _ e=>e) HX.2.2 HX.2.1 i P (λb hb=>by
   simp[Value.ownBlock]at hb
   subst hb
   exact Z.imp (λe=>e) λe=>nG e)
  have O1:gL (λb=>V.rv.ownBlock=some b) (wc.alloc (im #[.int .i64 0,.int .i64 0,gN none 0 0] 43)) w1:=(gL.A i).L λ_ _ e=>e.symm;obtain⟨tb,tp⟩:=am.o;have np:¬V.rv.ownBlock=some p:=λe=>by have:=HX.2.1 p e;omega
  have nb:¬V.rv.ownBlock=some V.bm:=λe=>by have:=HX.2.1 _ e;omega
  have j:=F.alloc (im #[.int .i64 0,.int .i64 0,gN none 0 0] 43);have y:w1.heap[p]?=some (im (qW X V).toArray 114 (0,0)):=(O1.block p (af ja j.lt) np).H ((j.heap ja).H H.hp);have a0:w1.heap[V.bm]?=some (.map (MO X qb V) V.clk):=(O1.block _ (af M j.lt) nb).H ((j.heap M).H al);have c7:w1.cell? ⟨p,7,none⟩=some V.rv:=by rw[ax w1 p 7 _ 114 (0,0) y];rfl
  have c8:w1.cell? ⟨p,8,none⟩=some (.map (some V.bm)):=by rw[ax w1 p 8 _ 114 (0,0) y];rfl
  have f7:=aP w1 p 7 _ 114 y;have b0:=(ae.1 y).1;have an:=(ae.1 a0).1;have g4:(w1.setCell ⟨p,7,none⟩ (gN (some ⟨g,0,none⟩) (X.c.length+1) cap)).heap[V.bm]?=some (.map (MO X qb V) V.clk):=(((gL.refl (λb=>b=p) w1).setCell ⟨p,7,none⟩ (.inl rfl) _).block _ an (Ne.symm ac)).H a0;have av:=MR _ V.bm V.clk _ g4 X.c.length (.pointer (some ⟨q,0,none⟩)) ak;let⟨HK,HO,a7⟩:=iz K oQ Q;have b1:(8:Nat)≠7:=gF;have ap:=gP Y;clear g4 P i Z H K oQ Q y a0 O1 j Y np nb tb tp;go_wp2;go_ret2;exact⟨q,rfl,ap,gI,a7,⟨_,HK⟩,HO⟩
end
def il.EI:Go.Shelf.Ren:=⟨fun|189=>95|125=>157|257=>156|128=>205|129=>206|294=>196|295=>197|296=>198|297=>199|298=>200|299=>201|216=>202|300=>203|301=>204|328=>238|329=>239|330=>240|331=>241|332=>242|215=>243|343=>268|n=>n,fun|28=>24|3=>3|46=>144|0=>0|51=>283|53=>285|4=>4|183=>277|182=>276|131=>140|5=>5|9=>9|218=>328|222=>332|228=>356|229=>357|n=>n,fun|n=>n⟩
def il.KK:Go.Proofs.Lays.n189 prog il.EI:={
 mixed:=by kernel_rfl
 f125:=func157.trans (congrArg some (by kernel_rfl))
 f128:=func205.trans (congrArg some (by kernel_rfl))
 f129:=func206.trans (congrArg some (by kernel_rfl))
 f189:=func95.trans (congrArg some (by kernel_rfl))
 f215:=func243.trans (congrArg some (by kernel_rfl))
 f216:=func202.trans (congrArg some (by kernel_rfl))
 f257:=func156.trans (congrArg some (by kernel_rfl))
 f294:=func196.trans (congrArg some (by kernel_rfl))
 f295:=func197.trans (congrArg some (by kernel_rfl))
 f296:=func198.trans (congrArg some (by kernel_rfl))
 f297:=func199.trans (congrArg some (by kernel_rfl))
 f298:=func200.trans (congrArg some (by kernel_rfl))
 f299:=func201.trans (congrArg some (by kernel_rfl))
 f300:=func203.trans (congrArg some (by kernel_rfl))
 f301:=func204.trans (congrArg some (by kernel_rfl))
 f328:=func238.trans (congrArg some (by kernel_rfl))
 f329:=func239.trans (congrArg some (by kernel_rfl))
 f330:=func240.trans (congrArg some (by kernel_rfl))
 f331:=func241.trans (congrArg some (by kernel_rfl))
 f332:=func242.trans (congrArg some (by kernel_rfl))
 f343:=func268.trans (congrArg some (by kernel_rfl))
 t0:=underlying0
 a0:=Tryz.isAgg0
 z0:=Tryz.sizeOf0
 v0:=Tryz.zeroValue0
 t3:=underlying3
 a3:=Tryz.isAgg3
 z3:=Tryz.sizeOf3
 v3:=Tryz.zeroValue3
 t4:=underlying4
 a4:=Tryz.isAgg4
 z4:=Tryz.sizeOf4
 v4:=Tryz.zeroValue4
 t5:=underlying5
 a5:=Tryz.isAgg5
 z5:=Tryz.sizeOf5
 v5:=Tryz.zeroValue5
 t9:=underlying9
 a9:=Tryz.isAgg9
 z9:=Tryz.sizeOf9
 v9:=Tryz.zeroValue9
 t28:=underlying24
 a28:=Tryz.isAgg24
 z28:=Tryz.sizeOf24
 v28:=Tryz.zeroValue24
 t46:=underlying144
 a46:=Tryz.isAgg144
 z46:=Tryz.sizeOf144
 v46:=Tryz.zeroValue144
 t51:=underlying283
 a51:=Tryz.isAgg283
 z51:=Tryz.sizeOf283
 v51:=Tryz.zeroValue283
 t53:=underlying285
 a53:=Tryz.isAgg285
 z53:=Tryz.sizeOf285
 v53:=Tryz.zeroValue285
 t131:=underlying140
 a131:=Tryz.isAgg140
 z131:=Tryz.sizeOf140
 v131:=Tryz.zeroValue140
 t182:=underlying276
 a182:=Tryz.isAgg276
 z182:=Tryz.sizeOf276
 v182:=Tryz.zeroValue276
 t183:=underlying277
 a183:=Tryz.isAgg277
 z183:=Tryz.sizeOf277
 v183:=Tryz.zeroValue277
 t218:=underlying328
 a218:=Tryz.isAgg328
 z218:=Tryz.sizeOf328
 v218:=Tryz.zeroValue328
 t222:=underlying332
 a222:=Tryz.isAgg332
 z222:=Tryz.sizeOf332
 v222:=Tryz.zeroValue332
 t228:=underlying356
 a228:=Tryz.isAgg356
 z228:=Tryz.sizeOf356
 v228:=Tryz.zeroValue356
 t229:=underlying357
 a229:=Tryz.isAgg357
 z229:=Tryz.sizeOf357
 v229:=Tryz.zeroValue357}
def QP(a)(cap)(w):Calls prog 196 #[gN a 0 cap,I 0,I 0] w λe w'=>e=iw/\w'=w:=by go_wp2;refine Z6 1 ?_;rw[ZZ];go_wp2;go_end0;simp_all
theorem P9(a)(cap)(l)(w):iB 156 #[gN a 0 cap,I 0,I 0,I l] w λe w'=>e=iw/\w'=w:=by
 have h:=gP (QP a cap);go_enter func156,ntmps156;go_wp2;refine Z6 1 ?_;rw[ZZ];go_wp2_with(go_at_call 196;refine(h _).L ?_;rintro e w'⟨rfl,rfl⟩);(try simp only[Exit.inBlock,Exit.then])
 refine aG (v:= .tuple #[]) (by simp[results,results156,go_sem]) rfl ?_;exact⟨rfl,rfl⟩
def Ck(a)(cap)(w):Calls prog 95 #[gN a 0 cap] w λe w'=>e=iw/\w'=w:=by have h:=gP (P9 a cap);go_wp2_with(first|(go_at_call 156;refine(h _ _).L ?_;rintro e w'⟨rfl,rfl⟩)|go_in);go_end0;exact⟨rfl,rfl⟩
def il.UQ(m):AnyZI.SortsIn prog il.yw Fence.wide m:=
 ⟨λj off cap y W A h i=>callsIn_wide.2 (Any.slices_Sort_int il.KK j off cap y W A h i),
  λp cap W=>callsIn_wide.2 (Ck p cap W)⟩
def rD{k:Int}(h:0<=k)(i:k<=1000000000000000):(Lit.int .i64 k).wf=true:=by have j:IntKind.i64.min=-9223372036854775808:=gF;have y:IntKind.i64.max=9223372036854775807:=gF;simp only[Lit.wf,bL,ZX];omega
def Gx{clk:Nat}(Z:w.heap[gm]?=some (.map (iu l) clk))(F:∀e∈l,e.bo<clk)(L:(l.map (·.bo)).Nodup)(M:(l.map (·.k)).Nodup)(T:∀e∈l,0<=e.k/\e.k<=1000000000000000)(hl:l.length<=1000):∃D:DataW Value,w.ownsMap prog 3 Rv gm l.length D/\(intKeys D).Perm (l.map (·.k))/\Maps.size D<=l.length:=by
 have P:(iu l).toList=l.map Ae.A:=by simp[iu]
 have j:∀e∈l,WideElems.rd prog 3 Rv e.A=some (.int .i64 e.k,.held e.v):=λe i=>WideElems.rd_mk (yv:=(DataW.held e.v,[])) (keyOf_int_mk underlying3 (rD (T e i).1 (T e i).2)) rfl;have y:(iu l).toList.map (WideElems.rg prog 3 Rv)=l.map λe=>(Lit.int .i64 e.k,DataW.held e.v):=by rw[P,br];exact bf λe i=>WideElems.rg_of (j e i)
 have A:WideElems.Fit prog 3 Rv (iu l) clk:=by
  refine⟨aF (by simp[iu]) (aF hl gF),⟨λx Q=>?_,?_,?_⟩,λx Q=>?_⟩
  .obtain⟨e,i,rfl⟩:=lQ Q;exact F e i
  .rw[P,br];exact L
  .rw[P,br];have:(λx:MapEntry=>x.key)∘Ae.A=(Value.int .i64)∘(λe:Ae=>e.k):=rfl;rw[this,<-br];exact List.Pairwise.map _ (λa b h e=>h (iU e)) M
  obtain⟨e,i,rfl⟩:=lQ Q;exact⟨_,j e i⟩
 have Y:((l.map λe=>(Lit.int .i64 e.k,DataW.held e.v)).foldr DataW.insert []).Perm (l.map λe=>(Lit.int .i64 e.k,(DataW.held e.v:DataW Value))):=Go.WideShapes.sorted_perm _;refine⟨_,⟨_,_,Z,A,by simp[iu],rfl⟩,?_,?_⟩
 .rw[y];show List.Perm (List.map _ _) _;refine(Y.map _).H ?_;rw[br];exact fK _
 rw[y];show List.length _<=_;rw[Y.length_eq];simp
def Oq(mb)(W):iB 237 #[.map mb] W λe w'=>e=gX (.func (.func 267) #[] #[O W.heap.size])/\w'=W.alloc (im #[.map mb] 98):=
 callsIn_wide.1 (AnyZI.keys_in il.Ud Fence.wide 5 trivial rfl mb W)
def Jm{bm clk:Nat}(hb:w.heap[bm]?=some (.map (iu l) clk))(Q:∀e∈l,e.bo<clk)(T:(l.map (·.bo)).Nodup)(j:(l.map (·.k)).Pairwise (·<·))(hk:∀e∈l,0<=e.k/\e.k<=1000000000000000)(Z:l.length<=1000)(g)(hg:g<w.heap.size)(hc:w.cell? (U g 0)=some (.map (some bm))):iB 236 #[.func (.func 267) #[] #[O g]] w λe w'=>∃v,e=gX v/\w'.ownsRow w.heap.size 3 1 v l.length (l.map λe=>I e.k)/\Bl w w':=by
 have A:(l.map (·.k)).Nodup:=j.imp λh=>C;let⟨D,h1,h2,h3⟩:=Gx hb Q T A hk Z;have F:SeqGives Fence.wide 2 prog 267 #[O g] encZ (λP=>P.Perm (intKeys D)) (Maps.size D) w:=
  AnyZI.keys_gives (ρ:=il.CK) {il.Ud with} Fence.wide _ trivial rfl C g bm l.length D _ hg hc h1
 have cS:=AnyZI.sorted_in il.Ry Fence.wide 5 trivial trivial trivial trivial rfl C (il.UQ _) (enters_of func95 ix rfl) 267 #[O g] trivial (enters_of func267 ix rfl) _ _ (aF h3 (aF Z gF)) C _ F;change CallsIn _ _ prog 236 _ _ _ at cS;refine(callsIn_wide.1 cS).L ?_;rintro e w'⟨v,P,rfl,hS,i,a0,Y⟩;have H:=hS.H h2;have hs:P.mergeSort (λx y=>decide (x<=y))=l.map (·.k):=by have:=mergeSort_of_perm_i H;unfold leI at this;rw[this];exact fI (j.imp λh=>ig)
 have M:P.length=l.length:=by rw[H.length_eq];simp
 refine⟨v,rfl,?_,Y⟩;rwa[hs,M,br]at i
def il.SV:(prog.info? 163).map (λi=>(i.zero,i.size,i.bytes))=some (some (.pointer none),1,8):=rfl
theorem Ug(i:(l.map (·.k)).Nodup){x y:Ae}(j:x∈l)(A:y∈l)(h:x.k=y.k):x=y:=by
 induction l with
 |nil=>simp at j
 |cons z l F=>
  rw[bj,bY]at i;obtain rfl|hx':=bh.1 j<;>obtain rfl|hy':=bh.1 A
  .rfl
  .exact absurd (aD.2 ⟨y,hy',h.symm⟩) i.1
  all_goals simp_all
def Lk(w)(bm clk)(l)(y:w.heap[bm]?=some (.map (iu l) clk))(h:(l.map (·.k)).Nodup)(e)(i:e∈l):(Instr.lookup 98 (.map (some bm)) (I e.k) false).run prog w=.ok e.v w:=by
 let⟨j,e',A,F,H⟩:=sL l e.k ⟨e,i,rfl⟩;have:e'=e:=Ug h (aR A) i F;subst this;have L:=fa (w:=w) underlying3 H;have M:=eW (P:=prog) (w:=w) (k:= I e'.k) underlying3 um (iu l).isEmpty 9999;simp[Instr.lookup,Sem.run_bind,aI y,M,L]
def u9{α:Type}(l:List α)(f:α->Value)(j)(h:j<l.length):(l.take (j+1)).map f=(l.take j).map f++[f l[j]]:=by rw[aM h,aZ];rfl
section
variable{t:Nat}
abbrev ptr(g:Nat):Value:= O g
def RU.PT(h:RU w gH t qb X V):((X.a.map (kt qb V.bo)).map (·.k)).Pairwise (·<·):=by rw[br,cj];exact h.a.gU.imp λe=>by show((_:Nat):Int)<((_:Nat):Int);omega
theorem zT(h:jf w gH t p qb X V)(hr:X.c.length<=1000000000)(h8:X.a.length<=8):iB 192 #[ptr p] w λen w'=>∃v,en=gX v/\w'.ownsRow w.heap.size 163 1 v X.a.length (X.a.map λc=>ptr (qb c.gU))/\Bl w w':=by
 obtain⟨T,ji,a3,a4,a5⟩:=fx il.SV;have hm:=h.r.mp;have c8:=h.cellAt 8 rfl;have lp:=h.A;have lb:=h.r.lb;have HK:=gP Oq;have bA:=(Bl.refl w).alloc (im #[.map (some V.bm)] 98);have a6:=gP h.r.PT;have HS:=gP (Jm (w:=w.alloc (im #[.map (some V.bm)] 98)) (l:=X.a.map (kt qb V.bo)) ((bA.heap h.r.lb).H hm) (λe he=>by
  obtain⟨c,hc,rfl⟩:=aD.1 he
  exact h.r.bo c hc) (by rw[br];exact h.r.bn) h.r.PT (λe he=>by
  obtain⟨c,hc,rfl⟩:=aD.1 he
  have:=h.r.a.lt c hc
  show(0:Int)<=(c.gU:Int)/\(c.gU:Int)<=_
  omega) ig w.heap.size gG (ax _ w.heap.size 0 _ 98 (0,0) (ao w _)))
 have HM:=gP hm;clear h hm;rw[ay]at HS;go_enter func192,ntmps192;go_wp2_with(first|(go_at_call 237;refine(HK _ _).L ?_;rintro e w'⟨rfl,rfl⟩)|(go_at_call 236;refine HS.L ?_;rintro e w2⟨v,rfl,ho,Y⟩;obtain⟨a,cap,rfl⟩:=jw ho;let⟨HO,HB⟩:=gO ho (bA.H Y);clear HS Y ho));go_loopw[3,13](λv i wr=>∃j:Nat,j<=X.a.length/\i=I j/\Hid (wr.ownsRow w2.heap.size 163 1 v j ((X.a.take j).map λc=>ptr (qb c.gU)))/\Hid (Bl w2 wr)) λ_ i _=>X.a.length-(Go.RowKit.intOf i).toNat
 case atStart=>exact⟨0,ju,rfl,mT,jC⟩
 obtain⟨j,hj,rfl,M,F⟩:=hrel;by_cases ja:j<X.a.length
 .have ai:(j:Int)<(X.a.length:Int):=C;have hB:=HB.H F;let⟨g,ak,Z⟩:=mo HO C;simp at Z;obtain⟨rfl,rfl⟩:=Z;have y:=HO.cellAt j C;have a0:(X.a.map (kt qb V.bo)).map (λe=>I e.k)=X.a.map λc=>I c.gU:=by rw[br];rfl
  rw[a0,aK,ah ja]at y;have a1:=(HO.lt g rfl).2;have k1:=(F.cell a1).H y;simp only[bG]at k1;have d8:=(hB.cell lp).H c8;have a7:=Lk wr V.bm V.clk _ ((hB.heap lb).H HM) (a6.imp λh=>C) (kt qb V.bo X.a[j]) (aD.2 ⟨_,aL ja,rfl⟩);simp only[kt]at a7;have an:=af lp hB.lt;have al:=af a1 F.lt;have HT:=gP (u9 X.a (λc=>ptr (qb c.gU)) j ja);have a8:Hid (j+1<=maxLen):=mV;have a9:Hid ((j+1)*8<=140737488355328):=lT;have ap:Hid (((X.a.take j).map λc=>ptr (qb c.gU)).length=j):=by unfold Hid;simp;omega
  generalize X.a[j]=d at*;generalize qb d.gU=q at*;clear hB y a0;go_wp2_with(at_builtin;refine fm _ rfl _ _ 271 rfl w2.heap.size 163 T _ 1 8 underlying271 ji a3 a4 a5 rfl gF u3 j _ rfl (M.alloc _) (U wr.heap.size 0) 1 1 [O q] rfl rfl (ZV _ _ _) rS gF a8 a9 (by have:=F.lt;simp;omega) (wr.heap.size+1) gG ?_);intro g' a2 w3 Q P aa am;have ab:Hid (Bl w2 w3):=(F.alloc _).A (gL.A P) λk e=>(M.lt k e.symm).1;have ac:Hid (w3.ownsRow w2.heap.size 163 1 (gN (G g') (j+1) a2) (j+1) ((X.a.take (j+1)).map λc=>ptr (qb c.gU))):=by unfold Hid;rw[HT.o];simpa [fS]using Q
  clear Q P aa;go_wp2;go_roundw
  case rel=>exact⟨j+1,C,gG,ac,ab⟩
  exact iC
 have aq:¬((j:Int)<(X.a.length:Int)):=C;have ad:j=X.a.length:=C;subst ad;rw[bZ]at M;go_wp2;go_ret;exact⟨_,rfl,⟨M.1,M.2.imp (λe=>e) λ⟨g,c,ag,e,l,r⟩=>⟨g,c,ag,e,aF HB.lt l,r⟩⟩,HB.H F⟩
end
def Ly(l:List jz):List Int:=(l.filter λc=>c.kind==5).map λc=>c.unit
def OK(l:List jz)(j)(h:j<l.length):Ly (l.take (j+1))=Ly (l.take j)++if l[j].kind==5 then [l[j].unit]else []:=by unfold Ly;rw[aM h,cz,aZ];simp only[cT];split<;>rfl
def J3(l):(Ly l).length<=l.length:=by unfold Ly;rw[ay];exact bF _ _
def qG{b1 j:Nat}(h:w.ownsRow j e k v n xs)(y:b1<=j):w.ownsRow b1 e k v n xs:=
 ⟨h.1,h.2.imp (λe=>e) λ⟨g,c,i,e,l,r⟩=>⟨g,c,i,e,aF y l,r⟩⟩
section
variable{t:Nat}
theorem zn(h:jf w gH t p qb X V)(hr:X.c.length<=1000000000)(h8:X.a.length<=8):iB 152 #[ptr p] w λen w'=>∃v,en=gX v/\w'.ownsRow w.heap.size 3 1 v X.ko.length (X.ko.map I)/\Bl w w':=by
 obtain⟨i3,ji,a3,a4,a5⟩:=fx il.tY;let⟨HS,H⟩:=gO (zT h hr h8) h;clear h;go_enter func152,ntmps152;go_wp2_with(go_at_call 192;refine HS.L ?_;rintro e w2⟨v,rfl,ho,Y⟩;obtain⟨a,cap,rfl⟩:=jw ho;let⟨HO,HB⟩:=gO ho Y;clear HS Y ho);go_loopw[3,9](λv i wr=>∃j:Nat,j<=X.a.length/\i=I j/\Hid (wr.ownsRow w2.heap.size 3 1 v (Ly (X.a.take j)).length ((Ly (X.a.take j)).map I))/\Hid (Bl w2 wr)) λ_ i _=>X.a.length-(Go.RowKit.intOf i).toNat
 case atStart=>exact⟨0,ju,rfl,mT,jC⟩
 obtain⟨j,hj,rfl,M,F⟩:=hrel;by_cases ja:j<X.a.length
 .have ag:(j:Int)<(X.a.length:Int):=C;have hB:=HB.H F;let⟨g,ai,Z⟩:=mo HO C;simp at Z;obtain⟨rfl,rfl⟩:=Z;have L:=HO.cellAt j C;rw[aK,ah ja]at L;have a0:=(HO.lt g rfl).2;have k1:=(F.cell a0).H L;simp only[bG]at k1;have ak:=af a0 F.lt;obtain⟨dv,hk⟩:=(H.bl hB (gI:=gH) hU).r.d X.a[j] (aL ja);let⟨e0,e4⟩:=hk.R 0 4 rfl;have lq:=hk.lt;have a6:=J3 (X.a.take j);rw[bH]at a6;have HT:=gP (OK X.a j ja);have a7:Hid ((Ly (X.a.take j)).length+1<=maxLen):=mV;have a8:Hid (((Ly (X.a.take j)).length+1)*8<=140737488355328):=lT;generalize X.a[j]=d at*;generalize qb d.gU=q at*;clear hB L hk;by_cases a1:d.kind=5
  .have y:=HT.o;rw[a1]at y e0;have a9:=gP y;clear y HT;go_wp2_with(at_builtin;refine fm _ rfl _ _ 24 rfl w2.heap.size 3 i3 (I 0) 1 8 underlying24 ji a3 a4 a5 rfl gF u3 (Ly (X.a.take j)).length _ rfl (M.alloc _) (U wr.heap.size 0) 1 1 [I d.unit] rfl rfl (ZV _ _ _) rS gF a7 a8 (by have:=F.lt;simp;omega) (wr.heap.size+1) gG ?_);intro g' a2 w3 Q P aa al;have ab:Hid (Bl w2 w3):=(F.alloc _).A (gL.A P) λk e=>(M.lt k e.symm).1;have T:Hid (w3.ownsRow w2.heap.size 3 1 (gN (G g') ((Ly (X.a.take j)).length+1) a2) (Ly (X.a.take (j+1))).length ((Ly (X.a.take (j+1))).map I)):=by unfold Hid;rw[a9.o];simpa using Q
   clear Q P aa;go_wp2;go_roundw
   case rel=>exact⟨j+1,C,gG,T,ab⟩
   exact iC
  have ac:(d.kind==5)=false:=by simpa using a1
  have y:=HT.o;rw[ac]at y;simp at y;rw[<-y]at M;have T:=M;clear y HT;go_wp2;go_roundw
  case rel=>exact⟨j+1,C,gG,T,F⟩
  exact iC
 have am:¬((j:Int)<(X.a.length:Int)):=C;have ad:j=X.a.length:=C;subst ad;rw[bZ]at M;go_wp2;go_ret;exact⟨_,rfl,qG M HB.lt,HB.H F⟩
def PZ(X:Cx):X.jn=decide (0<(X.ko.length:Int)):=by
 unfold Cx.jn
 cases X.ko<;>simp
theorem mE(h:jf w gH t p qb X V)(j:X.c.length<=1000000000)(y:X.a.length<=8):iB 91 #[ptr p] w λA w'=>A=gX (.bool X.jn)/\Bl w w':=by
 have F:=gP (zn h j y);rw[PZ];clear h;go_enter func91,ntmps91;go_wp2_with(refine F.L ?_;rintro e w2⟨v,rfl,H,i⟩;obtain⟨a,cap,rfl⟩:=jw H);go_ret;exact⟨gG,(gP i).o⟩
end
def Dg(v)(zs:List Int)(x)(w)(h:Sl w v (zs.map I))(i:zs.length<=1000):iB 153 #[v,I x] w λe w'=>e=gX (.bool (decide (x∈zs)))/\w'=w:=by
 obtain⟨a,c,rfl,y⟩|⟨b,o,c,rfl,P,Q⟩:=h
 .have:zs=[]:=by simpa using y
  subst this;exact(CE w a c x).L λe w'⟨A,F⟩=>⟨nG A,F⟩
 rw[ay];refine Co w b o c zs x i λj d H=>?_;have M:=(aj.1 H).1;simp_all
def Gl(w:World)(v:Value)(xss:List (List Int)):Prop:=
 ∃ms,Sl w v ms/\ms.length=xss.length/\∀i (h:i<ms.length) (h':i<xss.length),Sl w ms[i] (xss[i].map I)
def Gl.bl{xss:List (List Int)}(h:Gl w v xss)(j:Bl w w'):Gl w' v xss:=by let⟨ms,y,A,F⟩:=h;exact⟨ms,y.bl j,A,λi h H=>(F i h H).bl j⟩
def Gl.empty(h:Gl w v []):∃a c,v=gN a 0 c:=by let⟨ms,i,j,y⟩:=h;have:ms=[]:=aW.1 j;subst this;exact i.empty
def Gl.some{i:List (List Int)}(h:Gl w v i)(M:0<i.length):∃b o c,v=gN (some (U b o)) i.length c/\b<w.heap.size/\∀j,(h:j<i.length)->∃m,w.cell? (U b (o+j))=some m/\Sl w m (i[j].map I):=by
 let⟨ms,y,A,F⟩:=h;obtain⟨P,Q,rfl,T⟩|⟨b,o,c,rfl,H,L⟩:=y
 .simp_all
 exact⟨b,o,c,mf A,H,λj Y=>⟨ms[j],L j C,F j _ _⟩⟩
def qM(L:List (List Int))(x:Int):Bool:=L.any λc=>decide (x∈c)
def qO(L:List (List Int))(x:Int):Bool:=L.any λc=>decide (x∈c)&&decide (c.length=1)
def E7(L:List (List Int))(x)(k)(h:k<L.length):qM (L.take (k+1)) x=(qM (L.take k) x||decide (x∈L[k])):=by unfold qM;rw[aM h,fB];simp
def EP(L:List (List Int))(x)(k)(h:k<L.length):qO (L.take (k+1)) x=(qO (L.take k) x||(decide (x∈L[k])&&decide (L[k].length=1))):=by unfold qO;rw[aM h,fB];simp
def oY(L:List (List Int))(x:Int):Int:=if qM L x=false then 3 else if qO L x=true then 4 else 0
theorem wv(v)(L)(x)(w)(M:Gl w v L)(hn:L.length<=1000)(hs:∀c∈L,c.length<=1000):iB 217 #[v,I x] w λe w'=>e=gX (I (oY L x))/\w'=w:=by
 by_cases h0:L.length=0
 .have P:L=[]:=aW.1 h0;subst P;obtain⟨a,c,rfl⟩:=M.empty;go_enter func217,ntmps217;go_wp2;refine Z6 1 ?_;rw[ZZ];go_wp2;go_ret;exact⟨rfl,rfl⟩
 obtain⟨b,o,c,rfl,hb,hc⟩:=M.some C;clear M;go_enter func217,ntmps217;go_wp2;go_loop[5,6,12] (λs l i=>∃k:Nat,k<=L.length/\i=I k/\s=.bool (qM (L.take k) x)/\l=.bool (qO (L.take k) x)) λ_ _ i=>L.length-(Go.RowKit.intOf i).toNat
 case atStart=>exact⟨0,ju,rfl,rfl,rfl⟩
 obtain⟨k,hk,rfl,rfl,rfl⟩:=hrel;by_cases H:k<L.length
 .let⟨m,hm,j⟩:=hc k H;have P:=hs _ (aL H);have H1:=E7 L x k H;have H2:=EP L x k H;let⟨s',y⟩:=gJ (qM (L.take (k+1)) x);let⟨l',A⟩:=gJ (qO (L.take (k+1)) x);rw[y]at H1;rw[A]at H2;have HS:Hid (qM (L.take (k+1)) x=s'):=y;have HL:Hid (qO (L.take (k+1)) x=l'):=A;clear y A;obtain⟨a,c',F⟩:=j.len;simp only[ay]at F;have Q:Hid (Sl w m (L[k].map I)):=j;generalize T:L[k]=ch at*;clear T hc j hs;subst F;generalize qM (L.take k) x=Y at*;generalize qO (L.take k) x=Z at*;have hd:((ch.length:Int)==1)=decide (ch.length=1):=by
   by_cases h:ch.length=1
   .simp[h]
   simp[h];omega
  generalize decide (ch.length=1)=q1 at*;go_wp2_with fail;refine(Dg _ ch x _ Q P).L ?_;generalize decide (x∈ch)=q0 at*;rintro e w'⟨rfl,rfl⟩;subst H1 H2
  cases Y<;>cases Z<;>cases q0<;>cases q1;all_goals
   go_wp2;go_round
   case rel=>exact⟨k+1,C,iD,by rw[HS.o];rfl,by rw[HL.o];rfl⟩
   exact iC
 have ht:L.take k=L:=bI C;rw[ht];have hl:Hid (oY L x=if qM L x=false then 3 else if qO L x=true then 4 else 0):=rfl;generalize qM L x=Y at*;generalize qO L x=Z at*
 cases Y<;>cases Z;all_goals
  go_wp2;go_ret;refine⟨?_,rfl⟩;rw[hl.o];rfl
def il.I6:(prog.info? 24).map (λi=>(i.zero,i.size,i.bytes))=some (some OO,1,24):=rfl
structure mB(base:Nat)(w:World)(g n:Nat)(ms:List Value)(R:List (List Int)):Prop where
 ie:w.ownsRow base 24 1 (.slice (G g) n n) n ms
 len:R.length=n
 row:∀i (h:i<ms.length) (h':i<R.length),w.ownsRow base 3 1 ms[i] R[i].length (R[i].map I)
 mu:∀i j (hi:i<ms.length) (hj:j<ms.length) b,i≠j->ms[i].ownBlock=some b->ms[j].ownBlock≠some b
def mB.yC{base:Nat}(h:mB base w g n ms R):ms.length=n:=by have:=h.ie.1;omega
def mB.VK{base:Nat}(h:mB base w g n ms R):Gl w (gN (G g) n n) R:=
 ⟨ms,i7 h.ie,by rw[h.yC,h.len],λi y j=>i7 (h.row i y j)⟩
def mB.only{base:Nat}(h:mB base w g n ms R)(F:gL S w w')(H:∀b,base<=b->b<w.heap.size->¬S b):mB base w' g n ms R:=
 ⟨F.iX h.ie λb y=>H b (h.ie.lt b y).1 (h.ie.lt b y).2,h.len,λi A j=>F.iX (h.row i A j) λb y=>H b ((h.row i A j).lt b y).1 ((h.row i A j).lt b y).2,h.mu⟩
def mB.bl{base:Nat}(h:mB base w g n ms R)(i:Bl w w'):mB base w' g n ms R:=
 h.only (gL.B i) λ_ _ _ e=>e
def mB.push{base:Nat}(h:mB base w g n ms R)(hk:k<n)(H:k<ms.length)(a2:k<R.length){L c:Nat}(hg:w.grownBy w1 ms[k].ownBlock)(hv:ms[k].ownBlock=some L\/w.heap.size<=L)(ho:w1.ownsRow base 3 1 (gN (G L) (R[k].length+1) c) (R[k].length+1) (R[k].map I++[I x])):mB base (w1.setCell (U g k) (gN (G L) (R[k].length+1) c)) g n (ms.set k (gN (G L) (R[k].length+1) c)) (R.set k (R[k]++[x])):=by
 have F:=gL.A hg;have A:w1.ownsRow base 24 1 (gN (G g) n n) n ms:=F.iX h.ie λb y e=>kH h.ie (h.row k H a2) gF b y e.symm;obtain⟨a3,a4⟩:=A.stored k (gN (G L) (R[k].length+1) c);have T:=gL.A a4;have Z:∀b,(gN (G L) (R[k].length+1) c).ownBlock=some b->¬some b=some g:=by intro b y e;exact kH ho A gF b y (by simp[Value.ownBlock];simpa using e.symm)
 refine⟨a3,by simpa using h.len,λi hi a0=>?_,λi j hi hj b Y y=>?_⟩
 .simp only[bK]at hi a0;by_cases M:i=k
  .subst M;simp only[cA];have:=T.iX ho λb y=>Z b y;simpa using this
  rw[cC C,cC C];have hr:=h.row i hi a0;have a1:=F.iX hr λb y e=>h.mu i k hi H b M y e.symm;exact T.iX a1 λb y e=>kH a1 A gF b y (by simp[Value.ownBlock];simpa using e.symm)
 have P:i<ms.length:=by simpa using hi
 have Q:j<ms.length:=iU hj;by_cases M:i=k
 .subst M;rw[cA]at y;rw[cC C];simp[Value.ownBlock]at y;subst y;intro e;obtain hv|hv:=hv
  .exact h.mu i j H Q L Y hv e
  have:=(h.row j Q (by rw[h.len,<-h.yC];exact Q)).lt _ e;omega
 rw[cC C]at y;by_cases a5:j=k
 .subst a5;rw[cA];intro e;simp[Value.ownBlock]at e;subst e;obtain hv|hv:=hv
  .exact h.mu i j P H L Y y hv
  have:=(h.row i P (by rw[h.len,<-h.yC];exact P)).lt _ y;omega
 rw[cC C];exact h.mu i j P Q b Y y
def rO(x u:Int):Bool:=decide (x=-1)||decide (u≠x)
def rm(x:Int)(c:List Int):List Int:=c.filter (rO x)
def qd(x:Int)(L:List (List Int))(k:Nat):List (List Int):=L.mapIdx λi c=>if i<k then rm x c else []
def PI(h:rO x u=true):(x==-1)=true\/((x==-1)=false/\(u !=x)=true):=by simp[rO]at h|-;omega
def RZ(h:rO x u=false):(x==-1)=false/\(u !=x)=false:=by simp[rO]at h|-;omega
def Pv(x)(L)(k):(qd x L k).length=L.length:=by simp[qd]
def LZ(x)(L):qd x L 0=List.replicate L.length []:=by
 apply eP
 .simp[qd]
 intro i h j;simp[qd]
def Pm(x)(L):qd x L L.length=L.map (rm x):=by
 apply eP
 .simp[qd]
 intro i j h;simp at h;simp[qd,h]
def IS(x)(L)(k):(qd x L k).set k (rm x [])=qd x L k:=by
 apply eP
 .simp
 intro i h j;rw[List.getElem_set];split
 .rename_i e;subst e;simp[qd,rm]
 rfl
def LH(x)(L)(k)(h:k<L.length):(qd x L k).set k (rm x L[k])=qd x L (k+1):=by
 apply eP
 .simp[qd]
 intro i j y;rw[List.getElem_set];split
 .rename_i e;subst e;simp[qd]
 rename_i e;simp only[qd,List.getElem_mapIdx];by_cases l:i<k
 .rw[aE l,aE C]
 rw[az l,az C]
def Ed(x)(c:List Int)(k)(h:k<c.length)(i:rO x c[k]=true):rm x (c.take (k+1))=rm x (c.take k)++[c[k]]:=by unfold rm;rw[aM h,cz];simp[i]
def Ir(x)(c:List Int)(k)(h:k<c.length)(i:rO x c[k]=false):rm x (c.take (k+1))=rm x (c.take k):=by unfold rm;rw[aM h,cz];simp[i]
def Uw(x)(c:List Int)(k):(rm x (c.take k)).length<=k:=aF (bF _ _) ig
def mB.DJ{base:Nat}(h:w.ownsRow base 24 1 (gN (G g) n n) n (List.replicate n OO)):mB base w g n (List.replicate n OO) (List.replicate n []):=
 ⟨h,gG,λi y A=>by simpa using mT,λi j y H b _ F=>ny F⟩
def mB.DU{wr:World}(h:mB w.heap.size wr g n ms R)(Q:Bl w wr)(hk:k<n)(y:k<ms.length)(F:k<R.length){mk:Value}(T:ms[k]=mk)(Y:R[k]=rr){H c:Nat}{o:Obj}(Z:(wr.alloc o).grownBy w1 mk.ownBlock)(hv:mk.ownBlock=some H\/H=wr.heap.size+1)(ho:w1.ownsRow w.heap.size 3 1 (gN (G H) (rr.length+1) c) (rr.length+1) (rr.map I++[I x])):w1.cell? (U g k)=some mk/\w1.frozen? (U g k)=false/\mB w.heap.size (w1.setCell (U g k) (gN (G H) (rr.length+1) c)) g n (ms.set k (gN (G H) (rr.length+1) c)) (R.set k (rr++[x]))/\Bl w (w1.setCell (U g k) (gN (G H) (rr.length+1) c)):=by
 subst T Y;have P:mB w.heap.size (wr.alloc o) g n ms R:=h.bl (jC.alloc _);have i:=gL.A Z;have j:w1.ownsRow w.heap.size 24 1 (gN (G g) n n) n ms:=i.iX P.ie λb L e=>kH P.ie (P.row k y F) gF b L e.symm;have ja:=h.ie.lt g rfl;have M:∀b,ms[k].ownBlock=some b->w.heap.size<=b:=λb L=>((h.row k y F).lt b L).1;refine⟨?_,j.frozenAt k,P.push hk y F Z (hv.imp id λe=>ig) ho,?_⟩
 .rw[j.cellAt k C,ah y]
 have b1:Bl w w1:=(Q.alloc o).A i λb L=>M b L.symm;exact ZY b1 ja.1 _
theorem FC(v)(L)(x)(w)(hv:Gl w v L)(hn:L.length<=1000)(hs:∀c∈L,c.length<=1000):iB 218 #[v,I x] w λe w'=>∃g ms,e=gX (gN (G g) L.length L.length)/\Bl w w'/\mB w.heap.size w' g L.length ms (L.map (rm x)):=by
 obtain⟨a4,hi,A,ab,ar⟩:=fx il.I6;obtain⟨i3,ji,au,av,aw⟩:=fx il.tY;by_cases h0:L.length=0
 .have hz:L=[]:=aW.1 h0;subst hz;obtain⟨a,c,rfl⟩:=hv.empty;go_enter func218,ntmps218;go_wp2_with(at_make;refine wpList_make_full _ rfl _ _ 89 rfl w.heap.size 24 a4 _ 1 underlying89 hi A ab _ _ _ _ 0 rfl rfl gG gG C (by unfold maxLen;omega) gG ?_);intro w1 M y;go_wp2;refine Z6 1 ?_;rw[ZZ];go_wp2;go_ret;have h:Bl w w1:=(gL.A y).te gG;exact⟨_,_,rfl,h,mB.DJ (by simpa [toList_madeCells_one]using M)⟩
 obtain⟨b,o,c,rfl,hb,hc⟩:=hv.some C;clear hv;have a5:Hid (a4.bytes*L.length<=281474976710656):=by rw[ar];unfold Hid;omega
 have F:Hid (L.length<=maxLen):=mV;go_enter func218,ntmps218;go_wp2_with(at_make;refine wpList_make_full _ rfl _ _ 89 rfl w.heap.size 24 a4 _ 1 underlying89 hi A ab _ _ _ _ L.length rfl rfl rfl rfl a5 F gG ?_);intro w1 M y;have h:Bl w w1:=(gL.A y).te gG;have R0:mB w.heap.size w1 w.heap.size L.length _ _:=mB.DJ (by simpa [toList_madeCells_one]using M);clear M y;go_wp2;go_loopw[15](λi wr=>∃(k:Nat) (ms:List Value),k<=L.length/\i=I k/\Bl w wr/\mB w.heap.size wr w.heap.size L.length ms (qd x L k)) λi _=>L.length-(Go.RowKit.intOf i).toNat
 case atStart=>exact⟨0,_,ju,rfl,h,by rw[LZ];exact R0⟩
 clear h R0;obtain⟨k,ms,hk,rfl,h,R⟩:=hrel;by_cases ja:k<L.length
 .let⟨m,hm,F⟩:=hc k ja;have hz:=hs _ (aL ja);have a6:=(h.cell hb).H hm;have HL:Hid ((qd x L k).set k (rm x L[k])=qd x L (k+1)):=LH x L k ja;have aY:Hid ((qd x L k).length=L.length):=Pv x L k;have R:mB w.heap.size wr w.heap.size L.length ms ((qd x L k).set k (rm x (L[k].take 0))):=by rw[eE,IS];exact R
  obtain⟨a,c',ac⟩:=F.len;simp only[ay]at ac;have ad:Hid (Sl w m (L[k].map I)):=F;generalize L[k]=ch at*;clear hm F hs hc;subst ac;go_wp2;go_loopw[22](λi wx=>∃(j:Nat) (ms:List Value),j<=ch.length/\i=I j/\Bl w wx/\mB w.heap.size wx w.heap.size L.length ms ((qd x L k).set k (rm x (ch.take j)))) λi _=>ch.length-(Go.RowKit.intOf i).toNat
  case atStart=>exact⟨0,_,ju,rfl,h,R⟩
  clear R h a6;obtain⟨j,ms,hj,rfl,h,R⟩:=hrel;by_cases P:j<ch.length
  .cases Q:rO x ch[j]
   .have b0:=RZ Q;have a1:Hid (rm x (ch.take (j+1))=rm x (ch.take j)):=Ir x ch j P Q;let⟨ag,b2⟩:=b0;clear Q;obtain⟨a9,c9,b3,A⟩|⟨b1,o1,c1,Y,a7,T⟩:=ad.o
    .simp at A;simp[A]at P
    have a2:=(h.cell a7).H (T j (iU P));simp only[dC]at a2;simp only[bO]at Y;obtain⟨rfl,a8,rfl⟩:=Y;clear a8;clear T;have HR:Hid (mB w.heap.size wr w.heap.size L.length ms ((qd x L k).set k (rm x (ch.take (j+1))))):=jk a1.o R;clear R;go_wp2;go_roundw
    case rel=>exact⟨j+1,ms,C,iD,h,HR⟩
    exact iC
   obtain⟨a9,c9,b3,A⟩|⟨b1,o1,c1,Y,a7,T⟩:=ad.o
   .simp at A;simp[A]at P
   have a2:=(h.cell a7).H (T j (iU P));simp only[dC]at a2;simp only[bO]at Y;obtain⟨rfl,a8,rfl⟩:=Y;clear a8;clear T;have aa:k<ms.length:=by rw[R.yC];exact ja
   have ai:k<(qd x L k).length:=jk aY.o ja;have ak:=R.ie.cellAt k C;rw[ah aa]at ak;have Z:=R.row k aa (iU ai);simp only[cA]at Z;generalize al:ms[k]=mk at*;have am:=(show Hid (ms[k]=mk)from al);clear al;have HR:Hid (mB w.heap.size wr w.heap.size L.length ms ((qd x L k).set k (rm x (ch.take j)))):=R;have a3:Hid (wr.ownsRow w.heap.size 3 1 mk (rm x (ch.take j)).length ((rm x (ch.take j)).map I)):=Z;have b8:=Uw x ch j;clear R Z;generalize an:rm x (ch.take j)=rr at*;have ap:=(show Hid (rm x (ch.take j)=rr)from an);clear an;have b9:=h.lt;have a1:Hid (rm x (ch.take (j+1))=rr++[ch[j]]):=by rw[<-ap.o];exact Ed x ch j P Q
   have a5:Hid ((rr.length+1)*8<=140737488355328):=lT;have F:Hid (rr.length+1<=maxLen):=mV;have b4:=PI Q;clear Q;obtain ag|⟨ag,b2⟩:=b4;all_goals
    go_wp2_with(at_builtin;refine fm _ rfl _ _ 24 rfl w.heap.size 3 i3 (I 0) 1 8 underlying24 ji au av aw rfl gF mk rr.length _ rfl (a3.alloc _) (U wr.heap.size 0) 1 1 [I ch[j]] rfl rfl (ZV _ _ _) rS gF F a5 ig (wr.heap.size+1) gG ?_);intro g' cap w1 a0 y aq ba;have HP:=HR.DU h ja aa (iU ai) am gG y aq a0;let⟨T,bb,R1,b1⟩:=HP;rw[fk,<-a1.o]at R1;have b5:=(show Hid _ from R1);have b6:=(show Hid _ from b1);clear a0 y aq HR a3 R1 b1 a1 am ap ak a2;go_wp2;go_roundw
    case rel=>exact⟨j+1,_,C,iD,b6,b5⟩
    exact iC
  have R2:mB w.heap.size wr w.heap.size L.length ms (qd x L (k+1)):=by have:=R;rwa[bI C,HL.o]at this
  clear R;go_wp2;go_roundw
  case rel=>exact⟨k+1,ms,C,iD,h,R2⟩
  exact iC
 have b7:k=L.length:=C;subst b7;rw[Pm]at R;go_wp2;go_ret;exact⟨_,_,rfl,h,R⟩
def Wp:Keyed prog 3:=int_keyed underlying3
def SZ(w):(zeroValue 346).run prog w=.ok (.agg #[]) w:=rfl
def Sd(zs:List Int):DataW Unit:=setOf (.agg []) (zs.map (Lit.int .i64))
def UR:Sd []=.map []:=rfl
def RI(zs)(x):Sd (zs++[x])=(Sd zs).put (.int .i64 x) (.agg []):=by unfold Sd;rw[aZ,List.map_singleton,setOf_snoc]
theorem JU(x):∀l:List Int,l.any ((λy:Lit=>y.sameKey (.int .i64 x))∘Lit.int .i64)=decide (x∈l)
 |[]=>rfl
 |a::r=>by
  rw[eM,JU x r];show(decide (IntKind.i64=IntKind.i64/\a=x)||decide (x∈r))=_;by_cases e:a=x
  .subst e;simp
  have e':¬x=a:=λh=>e h.symm;simp_all
def UU(zs)(x):Maps.has (Sd zs) (.int .i64 x)=decide (x∈zs):=by unfold Sd;rw[has_setOf _ _ _ λy h=>by obtain⟨_,_,rfl⟩:=aD.1 h;trivial,fY];exact JU x _
structure rZ(w:World)(p b:Nat)(zs:List Int):Prop where
 ie:w.ownsMap prog 3 (unitElem (H:=Unit)) b zs.length (Sd zs)
 var:w.cell? (U p 0)=some (.map (some b))
 lt:p<w.heap.size
 XZ:b<w.heap.size
def ti(zs:List Int):Prop:=∀z∈zs,(Lit.int .i64 z).wf=true
def rZ.bl{b:Nat}(h:rZ w p b zs)(i:Bl w w'):rZ w' p b zs:=⟨(h.ie.kept (row:=none) ⟨i.os,i.tape,i.output,i.size,λk j _=>i.block k j⟩ gG),(i.cell h.lt).H h.var,af h.lt i.lt,af h.XZ i.lt⟩
theorem wj(u)(p b)(zs)(w)(h:rZ w p b zs)(j:(Lit.int .i64 u).wf=true):iB 255 #[.int .i64 u,.pointer (some ⟨p,0,none⟩)] w λe w'=>e=gX (.bool (decide (u∈zs)))/\Bl w w':=by
 have y:=h.var;have i:keyOf prog 3 (.int .i64 u)=some (.int .i64 u):=keyOf_int_mk underlying3 j;have A:=UU zs u;go_enter func255,ntmps255;go_wp2_with(at_lookup;refine wpList_lookup_own_unit _ rfl _ _ 345 rfl 3 346 Wp underlying345 (SZ _) b zs.length _ rfl h.ie _ _ rfl i ?_);go_ret;exact⟨rfl,jC.alloc _⟩
theorem Bj(v)(us)(p b)(zs)(w)(hv:Sl w v (us.map I))(h:rZ w p b zs)(hu:ti us)(hs:us.length<=1000):iB 283 #[v,.func (.func 255) #[] #[O p]] w λe w'=>∃n:Int,e=gX (I n)/\(0<=n↔∃u∈us,u∈zs)/\Bl w w':=by
 by_cases h0:us.length=0
 .have T:us=[]:=aW.1 h0;subst T;obtain⟨a,c,rfl⟩:=hv.empty;go_enter func283,ntmps283;go_wp2;refine Z6 1 ?_;rw[ZZ];go_wp2;go_ret;exact⟨_,rfl,gG,jC⟩
 obtain⟨a9,c9,rfl,T⟩|⟨b1,o,c,rfl,hb,hc⟩:=hv
 .simp at T;simp[T]at h0
 simp only[ay]at hc|-;have Hs:Hid (rZ w p b zs):=h;clear h;go_enter func283,ntmps283;go_wp2;go_loopw[8](λi wr=>∃k:Nat,k<=us.length/\i=I k/\Bl w wr/\∀u∈us.take k,¬u∈zs) λi _=>us.length-(Go.RowKit.intOf i).toNat
 case atStart=>exact⟨0,ju,rfl,jC,gG⟩
 obtain⟨k,hk,rfl,j,M⟩:=hrel;by_cases Z:k<us.length
 .have P:=(j.cell hb).H (hc k Z);simp only[dC]at P;have Y:=hu _ (aL Z);have Q:Hid (∀u∈us.take k,¬u∈zs):=M;have a1:Hid (ti us):=hu;clear hc M hu;have Hm:Hid (us[k]∈us):=aL Z;have Ht:Hid (us.take (k+1)=us.take k++[us[k]]):=aM Z;generalize us[k]=u at*;by_cases A:u∈zs
  .have hd:decide (u∈zs)=true:=by simpa using A
   clear A;go_wp2_with fail;refine(wj u p b zs _ (Hs.bl j) Y).L ?_;rw[hd];rintro e w'⟨rfl,F⟩;go_wp2;go_ret;exact⟨_,rfl,iff_of_true C ⟨u,Hm,iU hd⟩,j.H F⟩
  have hd:decide (u∈zs)=false:=by simpa using A
  have a0:Hid (¬u∈zs):=A;clear A;go_wp2_with fail;refine(wj u p b zs _ (Hs.bl j) Y).L ?_;rw[hd];rintro e w'⟨rfl,F⟩;go_wp2;go_roundw
  case rel=>
   refine⟨k+1,C,iD,j.H F,?_⟩;rw[Ht.o];intro y hy;obtain hy|hy:=aT.1 hy
   .exact Q y hy
   simp at hy;subst hy;exact a0
  case measure=>exact iC
 have Q:Hid (∀u∈us.take k,¬u∈zs):=M;clear M;go_wp2;go_ret;refine⟨_,rfl,iff_of_false C ?_,j⟩;rintro⟨y,hy,T⟩;refine Q y ?_ T;rw[bI C];exact hy
theorem sj(v)(us)(p b)(zs)(w)(y:Sl w v (us.map I))(h:rZ w p b zs)(A:ti us)(F:us.length<=1000):iB 256 #[v,.func (.func 255) #[] #[O p]] w λe w'=>e=gX (.bool (us.any λu=>decide (u∈zs)))/\Bl w w':=by
 go_enter func256,ntmps256;go_wp2_with fail;refine(Bj v us p b zs _ y h A F).L ?_;rintro e w'⟨n,rfl,j,i⟩;have H:Hid (0<=n↔∃u∈us,u∈zs):=j;clear j;go_wp2;go_ret;refine⟨lE ?_,i⟩;rw[dr];simpa using H.o
def Gl.len{L:List (List Int)}(h:Gl w v L):∃a c,v=gN a L.length c:=by let⟨ms,i,j,_⟩:=h;obtain⟨a,c,rfl⟩:=i.len;simp_all
def wo(n)(w):(Instr.makeMap 345 (some (I n))).run prog w=.ok (.map (some w.heap.size)) (w.alloc (.map #[] 0)):=rfl
theorem As(v u)(L)(zs)(w)(hv:Gl w v L)(hu:Sl w u (zs.map (Value.int .i64)))(hn:L.length<=1000)(hs:∀c∈L,c.length<=1000/\ti c)(hz:zs.length<=1000)(hw:ti zs):iB 219 #[v,u] w λe w'=>e=gX (.bool (L.all λc=>c.any λu=>decide (u∈zs)))/\Bl w w':=by
 have b3:=wo;obtain⟨a1,c1,a7⟩:=hu.len;simp only[ay]at a7;obtain⟨a2,c2,a0⟩:=hv.len;subst a7 a0;have Hu:Hid (Sl w (lF a1 zs c1) (zs.map (Value.int .i64))):=hu;have Hv:Hid (Gl w (lF a2 L c2) L):=hv;have Hw:Hid (ti zs):=hw;have HL:Hid (∀c∈L,c.length<=1000/\ti c):=hs;clear hu hv hw hs;go_enter func219,ntmps219;go_wp2;go_loopw[16](λi wr=>∃k:Nat,k<=zs.length/\i=.int .i64 k/\Bl w wr/\rZ wr (w.heap.size+1) w.heap.size (zs.take k)) λi _=>zs.length-(Go.RowKit.intOf i).toNat
 case atStart=>refine⟨0,ju,rfl,(jC.alloc _).alloc _,?_⟩;rw[eE];refine⟨?_,gG,gG,ig⟩;rw[UR];exact(World.ownsMap_made _ _ _ _).alloc _
 case round=>
  obtain⟨k,hk,rfl,j,Z⟩:=hrel;by_cases ja:k<zs.length
  .obtain⟨a9,c9,b4,a8⟩|⟨b1,o1,b5,a0,aq,aa⟩:=Hu.o
   .simp at a8;simp[a8]at ja
   have ab:=(j.cell aq).H (aa k (iU ja));simp only[dC]at ab;simp only[bO]at a0;obtain⟨rfl,a6,rfl⟩:=a0;clear a6 aa;have ar:=Hw _ (aL ja);have ac:keyOf prog 3 (.int .i64 zs[k])=some (.int .i64 zs[k]):=keyOf_int_mk underlying3 ar;have b0:=Z.var;have a3:=Z.ie;have au:Hid ((zs.take k).length<maxLen):=by unfold Hid maxLen;simp;omega
   have b6:=j.lt;have Q:Hid (rZ wr (w.heap.size+1) w.heap.size (zs.take k)):=Z;have Ht:Hid (zs.take (k+1)=zs.take k++[zs[k]]):=aM ja;clear Z;generalize zs[k]=x at*;generalize av:zs.take k=ys at*;clear av;have T:Hid (wr.ownsMap prog 3 (unitElem (H:=Unit)) w.heap.size ys.length (Sd ys)):=a3;clear a3;go_wp2_with(at_mapUpdate;refine wpList_mapUpdate_own _ rfl _ _ _ 345 rfl 3 346 Wp underlying345 (unitElem (H:=Unit)) w.heap.size ys.length _ rfl T au _ _ _ rfl rfl ac _ [] unitElem_mk ?_);intro w1 Y h;have ad:Hid (Bl w w1):=j.A (gL.A h) (λn hn=>by cases hn;exact jl);have aw:Hid (rZ w1 (w.heap.size+1) w.heap.size (zs.take (k+1))):=by have h1:=Q.lt;have h2:=Q.XZ;refine⟨?_,((gL.A h).cell h1 gG).H Q.var,af h1 h.size,af h2 h.size⟩;rw[Ht.o,RI,aO];exact Y
   clear Y h T Q Ht j;go_wp2;go_roundw
   case rel=>exact⟨k+1,C,iD,ad,aw⟩
   exact iC
  have ht:zs.take k=zs:=bI C;rw[ht]at Z;have Q:Hid (rZ wr (w.heap.size+1) w.heap.size zs):=Z;have Hb:Hid (Bl w wr):=j;clear Z j ht;go_wp2;rename_i wx;go_loopw[27](λi wr=>∃k:Nat,k<=L.length/\i=.int .i64 k/\Bl w wr/\rZ wr (w.heap.size+1) w.heap.size zs/\((L.take k).all λc=>c.any λu=>decide (u∈zs))=true) λi _=>L.length-(Go.RowKit.intOf i).toNat
  case atStart=>exact⟨0,ju,rfl,Hb,Q,gG⟩
  clear Q Hb;obtain⟨m,hm,rfl,j,Z,a4⟩:=hrel;have Q:Hid (rZ wr (w.heap.size+1) w.heap.size zs):=Z;have a5:Hid (((L.take m).all λc=>c.any λu=>decide (u∈zs))=true):=a4;clear Z a4;by_cases A:m<L.length
  .obtain⟨b2,o2,b7,ag,aY,ai⟩:=Hv.some C;let⟨mv,ak,al⟩:=ai m A;have ab:=(j.cell aY).H ak;simp only[bO]at ag;obtain⟨rfl,a6,rfl⟩:=ag;clear a6 ai ak;have am:=HL _ (aL A);have an:Hid (Sl wr mv (L[m].map (Value.int .i64))):=al.bl j;have F:=(show Hid _ from am);have Ht:Hid (L.take (m+1)=L.take m++[L[m]]):=aM A;have ap:Hid (L[m]∈L):=aL A;clear am al;generalize L[m]=ch at*
   cases M:(ch.any λu=>decide (u∈zs))
   .have y:=(show Hid _ from M);clear M;go_wp2_with fail;refine(sj mv ch _ _ zs _ an Q F.2 F.1).L ?_;rw[y.o];rintro e w'⟨rfl,P⟩;go_wp2;go_ret;refine⟨lE ?_,j.H P⟩
    symm
    rw[List.all_eq_false];exact⟨ch,ap,nG y.o⟩
   have y:=(show Hid _ from M);clear M;go_wp2_with fail;refine(sj mv ch _ _ zs _ an Q F.2 F.1).L ?_;rw[y.o];rintro e w'⟨rfl,P⟩;go_wp2;go_roundw
   case rel=>refine⟨m+1,C,iD,j.H P,Q.bl P,?_⟩;rw[Ht.o,List.all_append,a5.o,List.all_cons,y.o];rfl
   case measure=>exact iC
  go_wp2;go_ret;refine⟨lE ?_,j⟩;have:=a5.o;rw[bI C]at this;exact this.symm
def qC(L:List (List Int))(zs:List Int):Bool:=L.all λc=>c.any λu=>decide (u∈zs)
def wI(L:List (List Int))(x:Int)(zs:List Int):Int:=
 if x≠-1/\oY L x≠0 then oY L x else if qC (L.map (rm x)) zs=true then 0 else 5
def Dw(L:List (List Int))(x:Int)(zs:List Int):List (List Int):=if wI L x zs=0 then L.map (rm x)else []
def Xx(base:Nat)(w:World)(r:Value)(R:List (List Int)):Prop:=
 (r= OO/\R=[])\/∃g n ms,r=.slice (G g) n n/\mB base w g n ms R
def WU{c:List Int}(h:ti c)(x):ti (rm x c):=λz i=>h z (aU.1 i).1
def WG(x)(c):(rm x c).length<=c.length:=bF _ _
theorem EA(v u)(L)(x)(zs)(w)(hv:Gl w v L)(hu:Sl w u (zs.map I))(T:L.length<=1000)(hs:∀c∈L,c.length<=1000/\ti c)(hz:zs.length<=1000)(hw:ti zs):iB 164 #[v,I x,u] w λe w'=>∃r,e=gX (.tuple #[r,I (wI L x zs)])/\Bl w w'/\Xx w.heap.size w' r (Dw L x zs):=by
 have P:∀c∈L,c.length<=1000:=λc hc=>(hs c hc).1;by_cases F:x≠-1/\oY L x≠0
 .have hx:(x !=-1)=true:=by simpa using F.1
  have j:wI L x zs=oY L x:=by simp[wI,F]
  have Y:Dw L x zs=[]:=by simp[Dw,j,F.2]
  have hl:(oY L x !=0)=true:=iU F.2;rw[j,Y];clear F j Y;generalize hq:oY L x=q at*;have Hq:=(show Hid _ from hq);clear hq;go_enter func164,ntmps164;go_wp2_with fail;refine(wv v L x _ hv T P).L ?_;rw[Hq.o];rintro e w'⟨rfl,rfl⟩;go_wp2;go_ret2;exact⟨_,rfl,jC,.inl ⟨rfl,rfl⟩⟩
 .have j:wI L x zs=if qC (L.map (rm x)) zs=true then 0 else 5:=by simp only[wI,az F]
  have H:∀w1,Bl w w1->iB 218 #[v,I x] w1 λe w'=>∃g ms,e=gX (gN (G g) L.length L.length)/\Bl w1 w'/\mB w1.heap.size w' g L.length ms (L.map (rm x)):=λw1 hb=>FC v L x w1 (hv.bl hb) T P;have Z:=(show Hid _ from H);have Q:=(show Hid _ from j);clear H j;have a0:(L.map (rm x)).length<=1000:=iU T;have a3:Hid (∀c∈L.map (rm x),c.length<=1000/\ti c):=by intro c hc;obtain⟨d,hd,rfl⟩:=aD.1 hc;exact⟨aF (WG x d) (hs d hd).1,WU (hs d hd).2 x⟩
  cases i:qC (L.map (rm x)) zs
  case' false=>
   have M:Hid (((L.map (rm x)).all λc=>c.any λu=>decide (u∈zs))=false):=i;have y:Hid (wI L x zs=5/\Dw L x zs=[]):=by
    have h5:wI L x zs=5:=by rw[Q.o,i];simp
    exact⟨h5,by simp[Dw,h5]⟩
  case' true=>
   have M:Hid (((L.map (rm x)).all λc=>c.any λu=>decide (u∈zs))=true):=i;have y:Hid (wI L x zs=0/\Dw L x zs=L.map (rm x)):=by
    have h5:wI L x zs=0:=by rw[Q.o,i];simp
    exact⟨h5,by simp[Dw,h5]⟩
  all_goals
   clear i Q a0;by_cases A:x=-1
   case' pos=>have hx:(x !=-1)=false:=nN A;clear A F;go_enter func164,ntmps164;go_wp2_with fail
   case' neg=>
    have hx:(x !=-1)=true:=nN A;have Hl:Hid (oY L x=0):=by unfold Hid;by_cases h:oY L x=0;exact h;exact absurd ⟨A,h⟩ F
    clear A F;go_enter func164,ntmps164;go_wp2_with fail;refine(wv v L x _ hv T P).L ?_;rw[Hl.o];rintro e w'⟨rfl,rfl⟩;go_wp2_with fail
   all_goals
    refine(Z _ jC).L ?_;rintro e w1⟨g,ms,rfl,a1,R1⟩;have HR:=(show Hid _ from R1);clear R1;go_wp2_with fail;refine(As _ u _ zs _ HR.VK (hu.bl a1) (iU T) a3 hz hw).L ?_;rw[M.o];rintro e w2⟨rfl,a2⟩;go_wp2;go_ret2;exact⟨_,by rw[y.1];rfl,a1.H a2,by rw[y.2];first|exact .inl ⟨rfl,rfl⟩|exact .inr ⟨_,_,_,rfl,HR.bl a2⟩⟩
theorem sA(us:List Int)(u:Int):∀d,iZ (us++[u]) d=match(iZ us d).2 with
 |[]=>((iZ us d).1,[])
 |x::r=>if x=u then((iZ us d).1++[u],r)else((iZ us d).1,x::r):=by
 induction us with
 |nil=>
  intro d
  cases d with
  |nil=>rfl
  |cons x r=>simp[iZ]
 |cons v us i=>
  intro d
  cases d with
  |nil=>exact i []
  |cons x r=>
   simp only[dV,iZ];by_cases h:x=v
   .rw[aE h,aE h,i];generalize iZ us r=z;let⟨A,j⟩:=z
    cases j with
    |nil=>rfl
    |cons y j=>simp only;split<;>rfl
   simp_all
def D1(h:(iZ us d).2=[]):iZ (us++[u]) d=((iZ us d).1,[]):=by rw[sA,h]
def F7(h:(iZ us d).2=u::r):iZ (us++[u]) d=((iZ us d).1++[u],r):=by rw[sA,h];simp
def DD(h:(iZ us d).2=x::r)(i:x≠u):iZ (us++[u]) d=((iZ us d).1,x::r):=by rw[sA,h];simp[i]
theorem qu:∀(us d:List Int),(iZ us d).2=d.drop (iZ us d).1.length/\(iZ us d).1.length<=d.length/\(iZ us d).1.length<=us.length
 |[],d=>by simp[iZ]
 |u::us,[]=>by have:=qu us [];simp only[iZ];simp_all
 |u::us,x::d=>by
  simp only[iZ];by_cases h:x=u
  .rw[aE h];have:=qu us d;simp_all
  rw[az h];have:=qu us (x::d);exact⟨this.1,this.2.1,aF this.2.2 gG⟩
def Dt(b o c:Nat)(d:List Int)(v:Value)(m:Nat):Prop:=
 m<=d.length/\∃ad,v=.slice ad (d.length-m) (c-m)/\(m<d.length->ad=some (U b (o+m)))
def Rd.dt{t:Nat}(h:Rd w gH t 5 v (d.map B8)):∃b o c,Dt b o c d v 0/\d.length<=c/\c<=maxLen/\(0<d.length->b<w.heap.size/\∀j x,d[j]?=some x->w.cell? (U b (o+j))=some (B8 x)):=by
 obtain⟨rfl,h⟩|⟨b,o,c,i,f,y,L,A,F,H,M⟩:=h
 .have:d=[]:=by simpa using h
  subst this;exact⟨0,0,0,⟨ju,none,rfl,λh=>mi h⟩,ju,ju,λh=>mi h⟩
 rw[ay]at y F;refine⟨b,o,c,⟨ju,_,y,λ_=>rfl⟩,F,H,λ_=>⟨(ae.1 A).1,λj x P=>?_⟩⟩;rw[ax w b _ i 5 f A];simp_all
def EB(L:List (List Int))(d)(k)(h:k<L.length):within (L.drop k) d=if(iZ L[k] d).1=[]then none else(within (L.drop (k+1)) (iZ L[k] d).2).map ((iZ L[k] d).1::·):=by rw[cm h];rfl
def xP(base:Nat)(w:World)(n:Nat)(e:Ending):Option (List (List Int))->Prop
 |none=>e=.returned (.tuple #[OO,.bool false])
 |some R=>∃g ms,e=.returned (.tuple #[.slice (G g) n n,.bool true])/\mB base w g n ms R
theorem zZ(v)(L)(dv)(d)(w)(hv:Gl w v L){t:Nat}(hd:Rd w gH t 5 dv (d.map B8))(hB:mR d)(h0:0<L.length)(hn:L.length<=1000)(hs:∀c∈L,c.length<=1000):iB 295 #[v,dv] w λe w'=>xP w.heap.size w' L.length e (within L d)/\Bl w w':=by
 obtain⟨b4,hi,aa,bv,bw⟩:=fx il.I6;obtain⟨i3,ji,bx,bz,bA⟩:=fx il.tY;obtain⟨b,o,c,rfl,hb,hc⟩:=hv.some h0;obtain⟨bd,od,cd,⟨_,ad,rfl,mw⟩,co,cp,a5⟩:=hd.dt;let⟨Y,hY⟩:=gJ (within L d);rw[hY];let⟨HY,Hd,bB,bC⟩:=jR hY a5 hB mw;clear hv hd hY a5 hB mw;have ar:Hid (b4.bytes*L.length<=281474976710656):=by rw[bw];unfold Hid;omega
 have au:Hid (L.length<=maxLen):=mV;go_enter func295,ntmps295;go_wp2_with(at_make;refine wpList_make_full _ rfl _ _ 89 rfl w.heap.size 24 b4 _ 1 underlying89 hi aa bv _ _ _ _ L.length rfl rfl rfl rfl ar au gG ?_);intro w1 al F;have b5:Bl w w1:=(gL.A F).te gG;have R0:mB w.heap.size w1 w.heap.size L.length _ _:=mB.DJ (by simpa [toList_madeCells_one]using al);let⟨b6,b7⟩:=gO R0 b5;clear al F b5 R0;go_wp2;go_loopw[1,16](λx i wr=>∃(k m:Nat) (rows:List (List Int)) (ms:List Value),k<=L.length/\i=I k/\rows.length=k/\Hid (Dt bd od cd d x m)/\Hid (Y=(within (L.drop k) (d.drop m)).map (rows++·))/\Hid (Bl w wr)/\Hid (mB w.heap.size wr w.heap.size L.length ms (rows++List.replicate (L.length-k) []))) λ_ i _=>L.length-(Go.RowKit.intOf i).toNat
 case atStart=>exact⟨0,0,[],_,ju,rfl,rfl,⟨ju,ad,rfl,bC⟩,by show Y=_;rw[<-HY.o];simp,b7,b6⟩
 clear b6 b7;obtain⟨k,m,rows,ms,hk,rfl,b8,HD,HE,Z,P⟩:=hrel;obtain⟨hm,bD,rfl,am⟩:=HD.o;have b9:=gP am;clear HD am;by_cases ja:k<L.length
 .let⟨mv,ba,av⟩:=hc k ja;have hz:=hs _ (aL ja);have aw:=(Z.cell hb).H ba;have hE:=HE.o;rw[EB L _ k ja]at hE;have HE:=gP hE;clear hE;obtain⟨a9,c9,an⟩:=av.len;simp only[ay]at an;have bE:=gP av;generalize L[k]=ch at*;subst an;clear ba av hs hc;have ce:(k:Int)<(L.length:Int):=C;go_wp2;go_loopw[1,23](λx i wx=>∃(j A:Nat) (ms:List Value),j<=ch.length/\i=I j/\Hid (Dt bd od cd d x A)/\Hid ((iZ (ch.take j) (d.drop m)).2=d.drop A)/\Hid (Bl w wx)/\Hid (mB w.heap.size wx w.heap.size L.length ms ((rows++List.replicate (L.length-k) []).set k (iZ (ch.take j) (d.drop m)).1))) λ_ i _=>ch.length-(Go.RowKit.intOf i).toNat
  case atStart=>
   refine⟨0,m,ms,ju,rfl,⟨hm,bD,rfl,b9⟩,rfl,Z,?_⟩;have e1:(rows++List.replicate (L.length-k) []).set k (iZ (ch.take 0) (d.drop m)).1=rows++List.replicate (L.length-k) []:=by show List.set _ k []=_;rw[eA _ _ C,b8,dR,show L.length-k=(L.length-k-1)+1 by omega,gB];rfl
   rw[e1];exact P
  case round=>
   clear Z P aw;obtain⟨j,A,ms,hj,rfl,bb,HW,Z,P⟩:=hrel;obtain⟨aY,cq,rfl,ap⟩:=bb.o;have a2:=gP ap;clear bb ap;by_cases b0:j<ch.length
   .have cr:(j:Int)<(ch.length:Int):=C;obtain⟨a8,c8,ct,aa⟩|⟨b1,o1,c1,bc,be,b2⟩:=bE.o
    .simp at aa;simp[aa]at b0
    have bg:=(Z.cell be).H (b2 j (iU b0));simp only[dC]at bg;simp only[bO]at bc;obtain⟨rfl,bR,rfl⟩:=bc;clear bR b2;have a3:=aM b0;have a0:=(qu (ch.take j) (d.drop m)).2.2;rw[bH]at a0;have cx:=af be Z.lt;by_cases Q:A<d.length
    .have ab:=cm Q;have hr:(iZ (ch.take j) (d.drop m)).2=d[A]::d.drop (A+1):=jS HW.o ab;let⟨bi,a5⟩:=Hd C;have hx:=a5 A d[A] (ah Q);have bT:=bB d[A] (aL Q);have bl:=(Z.cell bi).H hx;have bm:=a2 Q;subst bm;have cf:=af bi Z.lt;have bn:(0:Int)<((d.length-A:Nat):Int):=C;simp only[B8]at bl;have bV:IntKind.i64.wrap d[A]=d[A]:=Z3 _ C;clear hx a5;by_cases he:d[A]=ch[j]
     .have T:Hid (iZ (ch.take (j+1)) (d.drop m)=((iZ (ch.take j) (d.drop m)).1++[ch[j]],d.drop (A+1))):=by unfold Hid;rw[a3];exact F7 (jJ he hr)
      have bW:(rows++List.replicate (L.length-k) ([]:List Int)).length=L.length:=ig;have a4:k<ms.length:=by rw[P.yC];exact ja
      have ac:k<(rows++List.replicate (L.length-k) ([]:List Int)).length:=C;have ag:=P.ie.cellAt k C;rw[ah a4]at ag;have M:=P.row k a4 (iU ac);simp only[cA]at M;generalize ai:ms[k]=mk at*;have bo:=gP ai;clear ai a3 hr ab;have aq:=gP M;have bX:=P.ie.lt w.heap.size rfl;generalize bp:(iZ (ch.take j) (d.drop m)).1=rr at*;have cP:=gP bp;clear bp M;have ar:Hid ((rr.length+1)*8<=140737488355328):=lT;have au:Hid (rr.length+1<=maxLen):=mV;have cg:=Z.lt;rw[he]at bl bV bT;have ci:((1:Nat):Int)<=((cd-A:Nat):Int):=C;have ck:(1:Int)<=((d.length-A:Nat):Int):=C;clear he;generalize ch[j]=y at*;go_wp2_with(at_builtin;refine fm _ rfl _ _ 24 rfl w.heap.size 3 i3 (I 0) 1 8 underlying24 ji bx bz bA rfl gF mk rr.length _ rfl (aq.alloc _) (U wr.heap.size 0) 1 1 [I y] rfl rfl (ZV _ _ _) rS gF au ar ig (wr.heap.size+1) gG ?_);intro g' cap w1 a6 F bq cl;have HP:=P.DU Z ja a4 (iU ac) bo gG F bq a6;let⟨b2,cS,R1,b1⟩:=HP;rw[fk]at R1;let⟨c0,c2⟩:=gO R1 b1;clear a6 F bq P aq R1 b1 bo ag bg;go_wp2;refine⟨⟨j+1,A+1,_,C,gG,⟨C,_,by rw[fs,fs],λh=>by rw[az C,cG]⟩,by rw[T.o];rfl,c2,jk T.o c0⟩,iC⟩
     have T:Hid (iZ (ch.take (j+1)) (d.drop m)=((iZ (ch.take j) (d.drop m)).1,d[A]::d.drop (A+1))):=by unfold Hid;rw[a3];exact DD hr he
     have c3:=gP ab;clear a3 hr ab a0;generalize ch[j]=y at*;generalize d[A]=x at*;have cV:(x==y)=false:=iU he;go_wp2;go_roundw
     case rel=>exact⟨j+1,A,ms,C,iD,⟨aY,_,rfl,a2⟩,by rw[T.o];exact c3.symm,Z,jk T.o P⟩
     exact iC
    have c4:¬(0:Int)<((d.length-A:Nat):Int):=C;have hr:(iZ (ch.take j) (d.drop m)).2=[]:=by rw[HW.o];exact eo C
    have T:Hid (iZ (ch.take (j+1)) (d.drop m)=((iZ (ch.take j) (d.drop m)).1,[])):=by unfold Hid;rw[a3];exact D1 hr
    have Hr:=gP hr;clear a3 hr a0;go_wp2;go_roundw
    case rel=>exact⟨j+1,A,ms,C,iD,⟨aY,_,rfl,a2⟩,by rw[T.o,<-HW.o,Hr.o];rfl,Z,jk T.o P⟩
    exact iC
   have c5:j=ch.length:=C;subst c5;have c6:¬(ch.length:Int)<(ch.length:Int):=C;rw[bZ]at HW P;have bW:(rows++List.replicate (L.length-k) ([]:List Int)).length=L.length:=ig;have a4:k<ms.length:=by rw[P.yC];exact ja
   have ac:k<(rows++List.replicate (L.length-k) ([]:List Int)).length:=C;have ag:=P.ie.cellAt k C;rw[ah a4]at ag;have M:=P.row k a4 (iU ac);simp only[cA]at M;have bX:=P.ie.lt w.heap.size rfl;generalize ai:ms[k]=mk at*;obtain⟨ma,mc,rfl⟩:=jw M;clear M ai;have a1:=HE.o;rw[HW.o]at a1;generalize (iZ ch (d.drop m)).1=rr at*;by_cases ak:rr=[]
   .rw[aE ak]at a1;have c7:=gP a1;subst ak;clear HE a1 HW;go_wp2;go_ret2;rw[c7.o];exact⟨rfl,Z⟩
   rw[az ak]at a1;have bs:¬((rr.length:Nat):Int)=0:=by intro e;exact ak (aW.1 C)
   have cn:(((rr.length:Nat):Int)==0)=false:=iU bs;have ca:Hid (Y=(within (L.drop (k+1)) (d.drop A)).map ((rows++[rr])++·)):=by
    unfold Hid;rw[a1]
    cases within (L.drop (k+1)) (d.drop A)<;>simp
   have cb:Hid (mB w.heap.size wr w.heap.size L.length ms ((rows++[rr])++List.replicate (L.length-(k+1)) [])):=by
    have e1:(rows++List.replicate (L.length-k) []).set k rr=(rows++[rr])++List.replicate (L.length-(k+1)) []:=by rw[eA _ _ C,b8,dR,show L.length-k=(L.length-(k+1))+1 by omega,gB];simp
    unfold Hid;rw[<-e1];exact P
   clear HE a1 HW P;go_wp2;go_roundw
   case rel=>exact⟨k+1,A,rows++[rr],ms,C,iD,ig,⟨aY,_,rfl,a2⟩,ca,Z,cb⟩
   exact iC
 have cc:k=L.length:=C;subst cc;have c6:¬(L.length:Int)<(L.length:Int):=C;have hE:=HE.o;rw[eQ]at hE;rw[dR,List.replicate_zero,cF]at P;by_cases Q:m<d.length
 .have bn:(0:Int)<((d.length-m:Nat):Int):=C;have a7:Y=none:=by rw[hE];unfold within;rw[az (by intro e;have:=Z5 List.length e;simp at this;omega)];rfl
  have b3:=gP a7;clear hE HE a7;go_wp2;go_ret2;rw[b3.o];exact⟨rfl,Z⟩
 have c4:¬(0:Int)<((d.length-m:Nat):Int):=C;have a7:Y=some rows:=by rw[hE];unfold within;rw[aE (eo C)];simp
 have b3:=gP a7;clear hE HE a7;go_wp2;go_ret2;rw[b3.o];exact⟨⟨_,_,rfl,P⟩,Z⟩
def L8(w):Calls prog 265 #[OO,I 0] w λe w'=>e=gX OO/\w'=w:=by go_wp2;go_ret;simp_all
def IW(w):Calls prog 235 #[OO] w λe w'=>e=gX OO/\w'=w:=by have i:=gP L8;go_wp2;refine Z6 1 ?_;rw[ZZ];go_wp2_with(go_at_call 265;refine gT (i _) λw' h=>?_;have j:=h.symm;clear h;subst j);refine Z6 1 ?_;rw[ZZ];go_wp2;go_ret;exact⟨rfl,rfl⟩
theorem all_nil(w):iB 191 #[OO] w λe w'=>e=gX OO/\w'=w:=by go_enter func191,ntmps191;go_wp2_with(refine gT ((gP IW).o _) λw' h=>?_;have i:=h.symm;clear h;subst i);go_ret;exact⟨rfl,rfl⟩
theorem Nj(w):iB 304 #[OO] w λe w'=>e=gX OO/\w'=w:=by go_enter func304,ntmps304;go_wp2_with(refine gT ((gP all_nil).o _) λw' h=>?_;have i:=h.symm;clear h;subst i);refine Z6 1 ?_;rw[ZZ];go_wp2;go_ret;exact⟨rfl,rfl⟩
theorem LV{tc:Nat}{lay:List (List Int)}(h:pV w gH tc v lay)(n1:1<=lay.length)(n3:lay.length<=3)(Q:∀ch∈lay,1<=ch.length/\ch.length<=3)(hB:mR (jW lay)):iB 304 #[v] w λe w'=>∃a c,e=gX (gN a (jW lay).length c)/\w'.ownsRow w.heap.size 5 1 (gN a (jW lay).length c) (jW lay).length ((jW lay).map B8)/\Bl w w':=by
 obtain⟨i5,ji,a0,a1,a2⟩:=fx il.CD;have HA:=gP (yQ h n1 n3 Q);have aa:(jW lay).length<=9:=by have:=ID (lay:=lay) (λch hc=>(Q ch hc).2) lay.length;unfold tk at this;rw[bZ]at this;show lay.flatten.length<=9;omega
 obtain⟨g0,ai,ab,f0,rfl,_⟩:=h;clear Q;generalize jW lay=us at*;have a3:=gP hB;clear hB;go_enter func304,ntmps304;go_wp2_with(go_at_call 191;refine HA.L ?_;rintro e w2⟨g,cap,rfl,ho,T⟩;let⟨HO,HB⟩:=gO ho T;clear HA ho T);go_loopw[3,9](λv i wr=>∃j:Nat,j<=us.length/\i=I j/\Hid (wr.ownsRow w2.heap.size 5 1 v j ((us.take j).map B8))/\Hid (Bl w2 wr)) λ_ i _=>us.length-(Go.RowKit.intOf i).toNat
 case atStart=>exact⟨0,ju,rfl,mT,jC⟩
 obtain⟨j,hj,rfl,F,L⟩:=hrel;by_cases ja:j<us.length
 .have ac:(j:Int)<(us.length:Int):=C;have y:=HO.cellAt j C;rw[aK,ah ja]at y;have Y:=(HO.lt g rfl).2;have k1:=(L.cell Y).H y;simp only[bG]at k1;have ad:=af Y L.lt;have ak:=a3 us[j] (aL ja);have al:IntKind.u8.wrap us[j]=us[j]:=IntWalk.u8_in _ C;have HT:=gP (u9 us B8 j ja);have a4:Hid (j+1<=maxLen):=mV;have a5:Hid ((j+1)*1<=140737488355328):=lT;generalize us[j]=x at*;clear y;go_wp2_with(at_builtin;refine fm _ rfl _ _ 40 rfl w2.heap.size 5 i5 (.int .u8 0) 1 1 underlying40 ji a0 a1 a2 rfl gF u3 j _ rfl (F.alloc _) (U wr.heap.size 0) 1 1 [.int .u8 x] rfl rfl (ZV _ _ _) rS gF a4 a5 (by have:=L.lt;simp;omega) (wr.heap.size+1) gG ?_);intro g' Z w3 P M a6 ag;have a7:Hid (Bl w2 w3):=(L.alloc _).A (gL.A M) λk e=>(F.lt k e.symm).1;have a8:Hid (w3.ownsRow w2.heap.size 5 1 (gN (G g') (j+1) Z) (j+1) ((us.take (j+1)).map B8)):=by unfold Hid;rw[HT.o];simpa [fS,B8]using P
  clear P M a6;go_wp2;go_roundw
  case rel=>exact⟨j+1,C,gG,a8,a7⟩
  exact iC
 have am:¬((j:Int)<(us.length:Int)):=C;have a9:j=us.length:=C;subst a9;rw[bZ]at F;obtain⟨a,c,rfl⟩:=jw F;go_wp2;go_ret;exact⟨a,c,rfl,qG F HB.lt,HB.H L⟩
def mB.lay{base:Nat}(h:mB base w g n ms R){t:Nat}(H:∀b,base<=b->gH b=t):pV w gH t (gN (G g) n n) R:=by
 have Q:=h.yC;obtain⟨e,_⟩|⟨g',cap,i,e,T,L,h1,Y,h3,h4⟩:=h.ie.2
 .simp at e
 simp at e;obtain⟨rfl,rfl⟩:=e;refine⟨g,i,n,(0,0),by rw[h.len],by rw[h.len];exact jl,Y,H g T,L,λk ch y=>?_⟩;have j:=(aj.1 y).1;have M:=h.len;have P:=h.ie.cellAt k C;rw[ax w g k i 24 (0,0) L]at P;refine⟨ms[k]' C,by rw[P,ah C],?_⟩;have A:=h.row k C j;have Z:R[k]=ch:=by rw[ah j]at y;simpa using y
 rw[Z]at A;exact Rd.qj A λb F=>H b (A.lt b F).1
def Rd.sl{t:Nat}(h:Rd w gH t e v cs):Sl w v cs:=by
 obtain⟨rfl,rfl⟩|⟨b,o,c,i,f,rfl,H,y,L,M,A⟩:=h
 .exact .inl ⟨none,0,rfl,rfl⟩
 exact .inr ⟨b,o,c,rfl,(ae.1 y).1,λj F=>by rw[ax w b _ i e f y];exact A j _ (ah F)⟩
def pV.VK{t:Nat}{lay:List (List Int)}(h:pV w gH t v lay):Gl w v lay:=by
 obtain⟨g,y,cap,f,rfl,h1,h2,h3,M,P⟩:=h;have Q:lay.length<=y.size:=by
  by_cases h0:lay.length=0
  .omega
  let⟨x,A,_⟩:=P (lay.length-1) lay[lay.length-1] (ah C);have:=(ae.1 A).1;omega
 have F:(y.toList.take lay.length).length=lay.length:=by rw[bH];simp;omega
 have H:∀i (h:i<(y.toList.take lay.length).length),y[i]?=some (y.toList.take lay.length)[i]:=λi h=>by rw[dM,Array.getElem_toList];exact dW C
 refine⟨y.toList.take lay.length,.inr ⟨g,0,cap,mf F,(ae.1 M).1,λj T=>?_⟩,F,λi Y L=>?_⟩
 .rw[ax w g _ y 24 f M,bP];exact H j T
 let⟨x,A,Z⟩:=P i lay[i] (ah L);rw[H i Y]at A;simp only[aJ]at A;rw[A];exact Z.sl
def il.G3:Go.Shelf.Ren:=⟨fun|5=>293|7=>312|n=>n,fun|23=>104|25=>3|3=>222|4=>4|20=>20|n=>n,fun|n=>n⟩
def il.OM:Go.Proofs.SlLaysW.n5 prog il.G3:={
 mixed:=by kernel_rfl
 f5:=⟨Tryz.f293.name,by decide,func293.trans (congrArg some (by kernel_rfl))⟩
 f7:=func312.trans (congrArg some (by kernel_rfl))
 t4:=underlying4
 a4:=Tryz.isAgg4
 z4:=Tryz.sizeOf4
 v4:=Tryz.zeroValue4
 t20:=underlying20
 a20:=Tryz.isAgg20
 z20:=Tryz.sizeOf20
 v20:=Tryz.zeroValue20
 t23:=underlying104
 a23:=Tryz.isAgg104
 z23:=Tryz.sizeOf104
 v23:=Tryz.zeroValue104}
def il.xy:Go.Shelf.Ren:=⟨fun|7=>316|10=>317|n=>n,fun|23=>101|26=>3|3=>215|28=>326|0=>0|27=>325|33=>131|4=>4|n=>n,fun|n=>n⟩
def il.QF:Go.Proofs.SlLaysZI.n7 prog il.xy:={
 mixed:=by kernel_rfl
 f7:=⟨Tryz.f316.name,by decide,func316.trans (congrArg some (by kernel_rfl))⟩
 f10:=⟨Tryz.f317.name,by decide,func317.trans (congrArg some (by kernel_rfl))⟩
 t0:=underlying0
 a0:=Tryz.isAgg0
 z0:=Tryz.sizeOf0
 v0:=Tryz.zeroValue0
 t4:=underlying4
 a4:=Tryz.isAgg4
 z4:=Tryz.sizeOf4
 v4:=Tryz.zeroValue4
 t23:=underlying101
 a23:=Tryz.isAgg101
 z23:=Tryz.sizeOf101
 v23:=Tryz.zeroValue101
 t26:=underlying3
 a26:=Tryz.isAgg3
 z26:=Tryz.sizeOf3
 v26:=Tryz.zeroValue3
 t27:=underlying325
 a27:=Tryz.isAgg325
 z27:=Tryz.sizeOf325
 v27:=Tryz.zeroValue325
 t28:=underlying326
 a28:=Tryz.isAgg326
 z28:=Tryz.sizeOf326
 v28:=Tryz.zeroValue326
 t33:=underlying131
 a33:=Tryz.isAgg131
 z33:=Tryz.sizeOf131
 v33:=Tryz.zeroValue131}
def il.CT:Go.Shelf.Ren:=⟨fun|8=>266|11=>286|n=>n,fun|26=>3|28=>326|24=>24|0=>0|33=>131|4=>4|n=>n,fun|n=>n⟩
def il.Gy:Go.Proofs.SlLaysZI.n8 prog il.CT:={
 mixed:=by kernel_rfl
 f8:=⟨Tryz.f266.name,by decide,func266.trans (congrArg some (by kernel_rfl))⟩
 f11:=⟨Tryz.f286.name,by decide,func286.trans (congrArg some (by kernel_rfl))⟩
 t0:=underlying0
 a0:=Tryz.isAgg0
 z0:=Tryz.sizeOf0
 v0:=Tryz.zeroValue0
 t24:=underlying24
 a24:=Tryz.isAgg24
 z24:=Tryz.sizeOf24
 v24:=Tryz.zeroValue24
 t26:=underlying3
 a26:=Tryz.isAgg3
 z26:=Tryz.sizeOf3
 v26:=Tryz.zeroValue3
 t28:=underlying326
 a28:=Tryz.isAgg326
 z28:=Tryz.sizeOf326
 v28:=Tryz.zeroValue326
 i26:=by kernel_rfl}
def MF(mb)(W):iB 316 #[.map mb] W λe w'=>e=gX (.func (.func 317) #[] #[O W.heap.size])/\w'=W.alloc (im #[.map mb] 101):=
 callsIn_wide.1 (AnyZI.keys_in il.QF Fence.wide 5 trivial rfl mb W)
def Fx{g0 t:Nat}{zz:List (Int×An)}(h:oI w gH g0 t v zz)(hk:∀z∈zz,0<=z.1/\z.1<=1000000000000000)(hl:zz.length<=1000)(g)(Q:g<w.heap.size)(T:w.cell? (U g 0)=some v):iB 266 #[.func (.func 317) #[] #[O g]] w λe w'=>∃(v:Value) (us:List Int),e=gX v/\w'.ownsRow w.heap.size 3 1 v us.length (us.map I)/\us.Perm (zz.map (·.1))/\Bl w w':=by
 obtain⟨rfl,rfl⟩|⟨gm,clk,l,rfl,_,h⟩:=h
 .have j:=AnyZI.keys_gives_nil (ρ:=il.xy) {il.QF with} Fence.wide 3 trivial rfl g w Q T;have H:=AnyZI.collect_in il.Gy Fence.wide 5 trivial trivial rfl C 317 #[O g] trivial (enters_of func317 ix rfl) _ _ gF gF _ j;change CallsIn _ _ prog 266 _ _ _ at H;refine(callsIn_wide.1 H).L ?_;rintro e w'⟨v,P,rfl,rfl,y,M,A⟩;exact⟨v,[],rfl,y,fK _,A⟩
 have F:l.map (·.k)=zz.map (·.1):=by
  refine bJ λi=>?_;rw[aK,aK];have hl:=h.len;by_cases Y:i<l.length
  .have:=h.jU i l[i] zz[i] (ah Y) (ah C);rw[ah Y,ah C];exact Z5 some this.1
  rw[cB C,cB C];rfl
 have Z:=h.len;let⟨D,h1,h2,h3⟩:=Gx h.mp h.bo h.nd (by rw[F];exact h.ky) (λe he=>by
  have:e.k∈zz.map (·.1):=by rw[<-F];exact aD.2 ⟨e,he,rfl⟩
  let⟨z,hz,e1⟩:=aD.1 this
  rw[<-e1];exact hk z hz) C
 have j:SeqGives Fence.wide 3 prog 317 #[O g] encZ (λP=>P.Perm (intKeys D)) (Maps.size D) w:=
  AnyZI.keys_gives (ρ:=il.xy) {il.QF with} Fence.wide _ trivial rfl C g gm l.length D _ Q T h1
 have H:=AnyZI.collect_in il.Gy Fence.wide 5 trivial trivial rfl C 317 #[O g] trivial (enters_of func317 ix rfl) _ _ (aF h3 (aF (show l.length<=1000 by omega) gF)) C _ j;change CallsIn _ _ prog 266 _ _ _ at H;refine(callsIn_wide.1 H).L ?_;rintro e w'⟨v,P,rfl,hS,y,M,A⟩;exact⟨v,P,rfl,y,by rw[<-F];exact hS.H h2,A⟩
section
variable{t:Nat}
structure zO(X:Cx):Prop where
 ids:∀z∈X.mv.a.B,0<=z.1/\z.1<=255
 len:X.mv.a.B.length<=100
theorem tU(h:jf w gH t p qb X V)(M:zO X):iB 314 #[ptr p] w λe w'=>∃(a:Option Addr) (n:Nat) (us:List Int),e=gX (gN a us.length n)/\w'.ownsRow w.heap.size 3 1 (gN a us.length n) us.length (us.map I)/\us.Perm X.jX/\Bl w w':=by
 have T:=gP MF;have j:=(Bl.refl w).alloc (im #[V.sl.av] 101);have P:=h.bl j (gI:=gH) hU;have y:=gP (Fx P.r.sl.B (λz Y=>by have:=M.ids z Y;omega) (gS M.len) w.heap.size gG (ax _ w.heap.size 0 _ 101 (0,0) (ao w _)));have A:=h.cellAt 40 rfl;have lp:=h.A;obtain⟨mb,F⟩:∃mb,V.sl.av=.map mb:=by
  obtain⟨e,_⟩|⟨gm,_,_,e,_⟩:=h.r.sl.B
  .exact⟨_,e⟩
  exact⟨_,e⟩
 rw[F]at A y j;have Z:=gP j;clear h P j;go_enter func314,ntmps314;go_wp2_with(first|(go_at_call 316;refine(T _ _).L ?_;rintro e w'⟨rfl,rfl⟩)|(go_at_call 266;refine y.L ?_;rintro e w2⟨v,us,rfl,H,Q,i⟩;obtain⟨a,cap,rfl⟩:=jw H;let⟨HO,HP,HB⟩:=iz H Q (Z.H i);clear y i H Q));go_ret;exact⟨a,cap,us,rfl,qG HO gG,HP,HB⟩
end
theorem zR:∀x:List Int,wW x x=false
 |[]=>rfl
 |x::xs=>by simp[wW,zR xs]
theorem Cd:∀{x y z:List Int},wW x y=true->wW y z=true->wW x z=true
 |_,[],_,h,_=>by simp[wW]at h
 |_,_::_,[],_,h=>by simp[wW]at h
 |[],_::_,_::_,_,_=>rfl
 |x::xs,y::ys,z::zs,h,k=>by
  simp only[wW]at h k|-;split at h<;>split at k
  .rw[aE C]
  .split at k
   .simp at k
   rw[aE C]
  .split at h
   .simp at h
   rw[aE C]
  split at h
  .simp at h
  split at k
  .simp at k
  rw[az C,az C];exact Cd h k
theorem Bw:∀{x y:List Int},wW x y=false->wW y x=false->x=y
 |[],[],_,_=>rfl
 |[],_::_,h,_=>by simp[wW]at h
 |_::_,[],_,h=>by simp[wW]at h
 |x::xs,y::ys,h,k=>by
  simp only[wW]at h k;split at h
  .simp at h
  rename_i i;rw[az i]at k;split at k
  .simp at k
  rename_i j;rw[az j]at h;have e:x=y:=C;rw[e,Bw h k]
def On(p q:Int×List Int):Prop:=p.1<q.1\/(p.1=q.1/\wW p.2 q.2=true)
def BZ{p q r:Int×List Int}(h:On p q)(k:On q r):On p r:=by
 obtain h|⟨y,i⟩:=h<;>obtain k|⟨A,j⟩:=k
 .exact .inl C
 .exact .inl C
 .exact .inl C
 exact .inr ⟨C,Cd i j⟩
def B1{p q:Int×List Int}(h:¬On p q)(k:¬On q p):p=q:=by
 have e:p.1=q.1:=by have A:¬p.1<q.1:=λe=>h (.inl e);have F:¬q.1<p.1:=λe=>k (.inl e);omega
 have j:wW p.2 q.2=false:=by
  cases i:wW p.2 q.2
  .rfl
  exact absurd (.inr ⟨e,i⟩) h
 have y:wW q.2 p.2=false:=by
  cases i:wW q.2 p.2
  .rfl
  exact absurd (.inr ⟨e.symm,i⟩) k
 exact Prod.ext e (Bw j y)
def zN{v:Vo}(h:On b (v.ba,v.val)):qA b v=(v.ba,v.val):=by unfold qA;obtain h|⟨i,j⟩:=h;all_goals simp_all
def C2{v:Vo}(h:¬On b (v.ba,v.val)):qA b v=b:=by
 unfold qA;rw[az];intro e;simp at e;obtain e|⟨i,j⟩:=e
 .exact h (.inl e)
 exact h (.inr ⟨i.symm,j⟩)
def yV(b:Int×List Int)(l:List Vo):Int×List Int:=l.foldl qA b
def AE(l):jP l=yV (0,[]) (l.map (·.2)):=by unfold jP yV;rw[List.foldl_map]
theorem Dm(l):∀b,(yV b l=b\/∃v∈l,yV b l=(v.ba,v.val))/\¬On (yV b l) b/\∀v∈l,¬On (yV b l) (v.ba,v.val):=by
 induction l with
 |nil=>exact λb=>⟨.inl rfl,λh=>by
  obtain h|⟨_,h⟩:=h
  .exact absurd h (Int.lt_irrefl _)
  .have h:wW b.2 b.2=true:=h
   rw[zR]at h;simp at h,λv L=>mi L⟩
 |cons v l M=>
  intro b;let⟨i,j,H⟩:=M (qA b v);have e:yV b (v::l)=yV (qA b v) l:=rfl;rw[e];generalize P:yV (qA b v) l=m at*;by_cases y:On b (v.ba,v.val)
  .rw[zN y]at i j;refine⟨.inr ?_,λA=>j (BZ A y),λu hu=>?_⟩
   .simp_all
   obtain rfl|hu:=bh.1 hu
   .exact j
   exact H u hu
  rw[C2 y]at i j;refine⟨?_,j,λu hu=>?_⟩
  .obtain i|⟨u,hu,i⟩:=i
   .exact .inl i
   exact .inr ⟨u,aX _ hu,i⟩
  obtain rfl|hu:=bh.1 hu
  .intro A;by_cases F:On b m
   .exact y (BZ F A)
   rw[B1 j F]at A;exact y A
  exact H u hu
def EE(h:l1.Perm l2)(b):yV b l1=yV b l2:=by
 let⟨i,F,y⟩:=Dm l1 b;let⟨b1,H,A⟩:=Dm l2 b;refine B1 ?_ ?_
 .obtain b1|⟨v,j,b1⟩:=b1
  .simp_all
  rw[b1];exact y v (h.mem_iff.2 j)
 obtain i|⟨v,j,i⟩:=i
 .simp_all
 rw[i];exact A v (h.mem_iff.1 j)
def Oy(b)(v)(l):yV b (v::l)=qA (yV b l) v:=by have e:yV b (v::l)=yV b _:=EE (gk (l₁:=[v])) b;rw[e];unfold yV;simp_all
def qx{α:Type}[nY α](w:World)(gH:Nat->Nat)(t:Nat)(v:Value)(zz:List (Int×α)):Prop:=
 (v=.map none/\zz=[])\/∃gm clk l,v=.map (some gm)/\Mm w gm clk l zz (nY.ev w gH t)
def oI.t{α:Type}[nY α]{t:Nat}{zz:List (Int×α)}(h:oI w gH g t v zz):qx w gH t v zz:=by
 obtain h|⟨gm,clk,l,i,_,j⟩:=h
 .exact .inl h
 exact .inr ⟨gm,clk,l,i,j⟩
def Mm.bl{α:Type}[nY α]{t clk:Nat}{zz:List (Int×α)}(h:Mm w gm clk l zz (nY.ev w gH t))(j:Bl w w'):Mm w' gm clk l zz (nY.ev w' gH t):=
 ⟨(j.heap (ae.1 h.mp).1).H h.mp,h.len,λi e z y A=>⟨(h.jU i e z y A).1,nY.only (h.jU i e z y A).2 (iT j) (λ_ _ e=>e.elim) λ_ _ e=>e⟩,h.bo,h.nd,h.ky⟩
def qx.bl{α:Type}[nY α]{t:Nat}{zz:List (Int×α)}(h:qx w gH t v zz)(i:Bl w w'):qx w' gH t v zz:=by
 obtain h|⟨gm,clk,l,j,y⟩:=h
 .exact .inl h
 exact .inr ⟨gm,clk,l,j,y.bl i⟩
def Rd.uniq{t:Nat}{ds:List Value}(h:Rd w gH t e v cs)(k:Rd w gH t e v ds):cs=ds:=by
 obtain⟨y,rfl⟩|⟨b,o,c,M,f,y,Z,P,h4,h5,Q⟩:=h<;>obtain⟨i,rfl⟩|⟨b',o',c',F,f',i,k2,A,k4,k5,T⟩:=k
 .rfl
 .rw[y]at i;simp at i
 .rw[y]at i;simp at i
 rw[y]at i;simp at i;obtain⟨⟨rfl,rfl⟩,hl,_⟩:=i;rw[P]at A;simp at A;obtain⟨rfl,_⟩:=A;refine bJ λj=>?_;by_cases H:j<cs.length
 .have Y:=Q j cs[j] (ah H);have L:=T j ds[j] (ah C);rw[Y]at L;rw[ah H,ah C];exact L
 rw[cB C,cB C]
def Jx{xs:List Int}(h:xs.map B8=ys.map B8):xs=ys:=List.map_inj_right (λx y e=>by simpa [B8]using e)|>.1 h
def SO{t:Nat}{A B:Vo}(h:nY.ev w gH t A v)(k:nY.ev w gH t B v):A=B:=by
 let⟨s,j,y⟩:=h;let⟨H,i,F⟩:=k;rw[j]at i;simp at i;obtain⟨L,M,P,rfl⟩:=i;have:=Jx (y.uniq F)
 cases A;simp_all
def DG(w)(gH)(t):∃f:Value->Vo,∀v A,nY.ev w gH t A v->f v=A:=by
 classical
 exact⟨λv=>if h:∃A:Vo,nY.ev w gH t A v then h.choose else⟨0,0,0,[]⟩,λv A i=>by
  simp only[dif_pos (⟨A,i⟩:∃A:Vo,nY.ev w gH t A v)]
  exact SO (Exists.choose_spec (⟨A,i⟩:∃A:Vo,nY.ev w gH t A v)) i⟩
def Mm.XQ{t clk:Nat}(h:Mm w gm clk l zz (nY.ev w gH t))(y:∀v A,nY.ev w gH t A v->f v=A):(iu l).toList.map (λx=>f x.val)=zz.map (·.2):=by
 have F:(iu l).toList=l.map Ae.A:=by simp[iu]
 rw[F,br];refine bJ λi=>?_;rw[aK,aK];have H:=h.len;by_cases j:i<l.length
 .have:=h.jU i l[i] zz[i] (ah j) (ah C);rw[ah j,ah C];show some (f l[i].v)=some zz[i].2;rw[y _ _ this.2]
 simp_all
def Mm.XP{t clk:Nat}(h:Mm w gm clk l zz (nY.ev w gH t)):∀x∈(iu l).toList,∃A:Vo,A∈zz.map (·.2)/\nY.ev w gH t A x.val:=λx y=>by obtain⟨e,F,rfl⟩:=lQ y;obtain⟨i,H,rfl⟩:=aV.1 F;have L:=h.len;have j:i<zz.length:=C;exact⟨zz[i].2,aD.2 ⟨_,aL j,rfl⟩,(h.jU i l[i] zz[i] (ah H) (ah j)).2⟩
theorem QL:∀{xs ys:List Int},mR xs->mR ys->(0<Lib.compareBytes (Lib.bytesOf xs) (Lib.bytesOf ys)↔wW ys xs=true)
 |[],[],_,_=>by simp[Lib.bytesOf,Lib.compareBytes,wW]
 |[],_::_,_,_=>by simp[Lib.bytesOf,Lib.compareBytes,wW]
 |_::_,[],_,_=>by simp[Lib.bytesOf,Lib.compareBytes,wW]
 |x::xs,y::ys,A,F=>by
  have T:=A x aN;have Y:=F y aN;have H:=QL (xs:=xs) (ys:=ys) (λd j=>A d (aX _ j)) λd j=>F d (aX _ j);have L:(x.toNat.toUInt8<y.toNat.toUInt8)↔x<y:=by rw[UInt8.lt_iff_toNat_lt];simp;omega
  have M:(y.toNat.toUInt8<x.toNat.toUInt8)↔y<x:=by rw[UInt8.lt_iff_toNat_lt];simp;omega
  have P:Lib.bytesOf (x::xs)=x.toNat.toUInt8::Lib.bytesOf xs:=rfl;have Q:Lib.bytesOf (y::ys)=y.toNat.toUInt8::Lib.bytesOf ys:=rfl;rw[P,Q];simp only[Lib.compareBytes,wW,L,M];by_cases h:x<y
  .rw[aE h,az C,aE h];simp
  rw[az h];by_cases i:y<x
  .rw[aE i,aE i];simp
  rw[az i,az i,az h];exact H
def BT{t:Nat}{xs:List Int}(h:Rd w gH t 5 v (xs.map B8)):(Extern.Bytes.bytesOf v).run prog w=.ok ⟨(Lib.bytesOf xs).toArray⟩ w:=by
 obtain⟨rfl,e⟩|⟨a,c,rfl,i⟩:=h.bs
 .have:xs=[]:=by simpa using e
  subst this;rfl
 have:=Lib.run_loadBytesX (P:=prog) w xs a .empty λj x y=>i j _ (by rw[aK,y];rfl);rw[ay];show(Extern.Bytes.loadBytes a xs.length .empty).run prog w=_;simp_all
theorem Gn{t:Nat}{u:Value}{xs:List Int}(h:Rd w gH t 5 u (xs.map B8))(k:Rd w gH t 5 v (ys.map B8))(j:mR xs)(y:mR ys):iB 297 #[u,v] w λA w'=>∃r:Int,A=gX (I r)/\(0<r↔wW ys xs=true)/\w'=w:=by
 have i:(Extern.BytealgCompare.compare #[u,v]).run prog w=.ok (I (Lib.compareBytes (Lib.bytesOf xs) (Lib.bytesOf ys))) w:=by change Sem.run prog (do pure (Go.goInt (Extern.BytealgCompare.cmp (<-Extern.Bytes.bytesOf u) (<-Extern.Bytes.bytesOf v)))) w=_;simp only[Sem.run_bind,BT h,BT k,Result.andThen,Lib.cmp_eq];rfl
 have F:=gP (QL j y);obtain⟨a,c,rfl⟩:=h.B;obtain⟨b,d,rfl⟩:=k.B;clear h k;simp only[ay]at i|-;go_enter func297,ntmps297;go_wp2;rw[run_callFunc_extern func313 ix ix ix (e:=Extern.BytealgCompare.compare) ix,i];simp only[Result.andThen];rw[Oper.upon_value];go_wp2;go_ret;exact⟨_,rfl,F,rfl⟩
abbrev zV:Array Value:=#[I 0,I 0,I 0,OO]
def It.Ax{r clk:Nat}{i:List MapEntry}(h:It w r gm es clk i):(w.iterSeen r).size=i.length:=by
 have:w.iterSeen r=(i.map (·.born)).reverse.toArray:=by unfold World.iterSeen;rw[h.it]
 simp_all
def Xt(w:World)(gH:Nat->Nat)(t gm clk r0:Nat)(es:Array MapEntry)(f:Value->Vo)(wr:World):Prop:=∃(done:List MapEntry) (x0 x1:Int) (s:Value),Hid (wr.heap[w.heap.size+1]?=some (.cells #[I x0,I x1,I (yV (0,[]) (done.map λx=>f x.val)).1,s] 222 (0,0)))/\Hid (Rd w gH t 5 s ((yV (0,[]) (done.map λx=>f x.val)).2.map B8))/\Hid (wr.heap[w.heap.size]?=some (.cells zV 222 (0,0)))/\Hid (Bl w wr)/\Hid (It wr r0 gm es clk done)/\Hid (mR (yV (0,[]) (done.map λx=>f x.val)).2)
theorem G4{t clk:Nat}(h:Mm w gm clk l zz (nY.ev w gH t))(hB:∀z∈zz,mR z.2.val):iB 277 #[.map (some gm)] w λen w'=>∃(x0 x1:Int) (s:Value),en=gX (.agg #[I x0,I x1,I (jP zz).1,s])/\Rd w' gH t 5 s ((jP zz).2.map B8)/\Bl w w':=by
 let⟨f,hf⟩:=DG w gH t;let⟨HV,HE,Hf⟩:=iz (h.XQ hf) h.XP hf;have ac:Hid (∀A∈zz.map (·.2),mR A.val):=λA hA=>by obtain⟨z,hz,rfl⟩:=aD.1 hA;exact hB z hz
 obtain⟨bo,nd⟩:=h.born;rw[AE];let⟨W0,a0⟩:=gJ ((w.alloc (im zV 222)).alloc (im zV 222));have bW:Bl w W0:=by rw[<-a0];exact(jC.alloc _).alloc _
 have HM:=gP ((bW.heap (ae.1 h.mp).1).H h.mp);have h2:W0.heap[w.heap.size]?=some (im zV 222 (0,0)):=by rw[<-a0];exact(cL _ _ gG).H (ao w _)
 have h3:W0.heap[w.heap.size+1]?=some (im zV 222 (0,0)):=by rw[<-a0];have:=ao (w.alloc (im zV 222)) (im zV 222);simpa using this
 have hs:W0.heap.size=w.heap.size+1+1:=by rw[<-a0];simp
 have T:=gP hs;have av:=(ae.1 h.mp).1;generalize iu l=es at*;let⟨an,ap,aq⟩:=iz bo nd a0;let⟨H2,H3,BW⟩:=iz h2 h3 bW;clear h bo nd hf hB a0 h2 h3 bW hs;generalize zz.map (·.2)=vs at*;generalize ad:yV (0,[]) vs=bb;have ar:=gP ad;clear ad;obtain⟨a7,a8⟩:=bb;go_enter func277,ntmps277;go_upto_region 2 with fail;rw[aq.o];go_wp2_with(at_range;refine j9 _ rfl _ 104 rfl 3 222 underlying104 gm es clk rfl HM an ap ?_;intro hI;have HI:=gP hI;clear hI);go_frame;go_loopw[8](λ_ wr=>Xt w gH t gm clk W0.heap.size es f wr) λ_ wr=>es.size-(wr.iterSeen W0.heap.size).size
 case atStart=>exact⟨[],0,0,OO,(cL W0 _ (gS T.o)).H H3,Rd.nil,(cL W0 _ (gS T.o)).H H2,BW.alloc _,HI,λd hd=>by simp[yV]at hd⟩
 obtain⟨j,x0,x1,s,K3,KR,K2,HB,HJ,KB⟩:=hrel;obtain⟨sa,sc,ag⟩:=KR.B;rw[ay]at ag;subst ag;go_wp2_with(at_next;refine kQ _ rfl _ rfl W0.heap.size gm clk es j rfl HJ ?_ ?_)
 .intro h0;have e0:(j.map λx=>f x.val).Perm vs:=by rw[<-HV.o];exact h0.map _
  have e1:=(EE e0 (0,[])).H ar;rw[e1]at K3 KR;let⟨r0,r1,r2,r3,lr⟩:=rX K3;let⟨y0,y1,y2,y3,ly⟩:=rX K2;let⟨f0,f1,f2,f3⟩:=yo K2 0 1 2 3;have aw:¬w.heap.size+1=w.heap.size:=gS T.o;obtain⟨HZ,OZ⟩:=gO (kA [I x0,I x1,I a7,gN sa a8.length sc] 0 wr _ K2) (jO (S:=λb=>b=w.heap.size) (.inl rfl) [I x0,I x1,I a7,gN sa a8.length sc] 0 wr (gL.refl _ wr));clear HV e0 e1 h0;go_wp2;let⟨q0,q1,q2,q3⟩:=lV HZ 0 1 2 3 rfl;simp only[ku,yE]at q0 q1 q2 q3;refine aG (v:= .agg (ry x0 x1 a7 sa a8 sc)) (by simp[results,results277,go_sem,q0,q1,q2,q3]) rfl ?_;exact⟨x0,x1,_,rfl,KR.bl (HB.A OZ λb e=>gS T.o) λ_ _ e=>e,HB.A OZ λb e=>gS T.o⟩
 intro e W he ai hO ak;obtain⟨A,hA,sv,a9,a4⟩:=HE e (iU he);have al:f e.val=A:=Hf _ _ ⟨sv,a9,a4⟩;obtain⟨va,vc,am⟩:=a4.B;rw[ay]at am;subst am;have a1:yV (0,[]) ((e::j).map λx=>f x.val)=qA (yV (0,[]) (j.map λx=>f x.val)) A:=by rw[bj,Oy,al]
 have aa:=gP (ac A hA);rw[a9]at ak|-;have i:=gP a1;have HW:Hid (Bl w W):=HB.A hO λb hb=>gS T.o;have L:=gP ((hO.block (w.heap.size+1) (ae.1 K3).1 (gS T.o)).H K3);have a5:=gP ((hO.block w.heap.size (ae.1 K2).1 (gS T.o)).H K2);let⟨a6,ab⟩:=gO ai a4;obtain⟨Y,Z,M,Q⟩:=A;simp only at ak|-;have bA:=(Bl.refl W).alloc (im (ry Y Z M va Q vc) 222);let⟨r0,r1,r2,r3,lr⟩:=rX L;let⟨f0,f1,f2,f3⟩:=yo L 0 1 2 3;let⟨BA,HO⟩:=gO bA hO;have aY:=(ae.1 L).1;have b0:¬w.heap.size+1=W.heap.size:=gS T.o;have b3:¬W.heap.size=w.heap.size+1:=gS T.o;generalize yV (0,[]) (j.map λx=>f x.val)=b at*;obtain⟨b1,b2⟩:=b;simp only at r2 r3 KR L KB;have a2:=gP (Gn (w:=W.alloc (im (ry Y Z M va Q vc) 222)) (ab.bl (HW.H BA) (gI:=gH) λ_ _ e=>e) (KR.bl (HW.H BA) (gI:=gH) λ_ _ e=>e) aa KB);simp only at a2;have P:Hid (j.length+1<=es.size/\(wr.iterSeen W0.heap.size).size=j.length):=⟨by simpa using a6.len,HJ.Ax⟩;clear a4 a1 al a9 hO ai he hA bA HE HV;have y:Hid (qA (b1,b2) ⟨Y,Z,M,Q⟩=(M,Q)->Xt w gH t gm clk W0.heap.size es f ((ku W (w.heap.size+1) 0 [I Y,I Z,I M,gN va Q.length vc]).alloc (im (ry Y Z M va Q vc) 222))/\es.size-(((ku W (w.heap.size+1) 0 [I Y,I Z,I M,gN va Q.length vc]).alloc (im (ry Y Z M va Q vc) 222)).iterSeen W0.heap.size).size<es.size-(wr.iterSeen W0.heap.size).size):=λhb=>by
  have HZ:=kA [I Y,I Z,I M,gN va Q.length vc] 0 _ _ L;have OZ:=(jO (S:=λb=>b=w.heap.size+1) (.inl rfl) [I Y,I Z,I M,gN va Q.length vc] 0 W ug).alloc (im (ry Y Z M va Q vc) 222);have a3:=a6.only OZ (gS T.o) (gS T.o);refine⟨⟨e::j,Y,Z,gN va Q.length vc,?_,?_,(OZ.block w.heap.size (gS T.o) (gS T.o)).H a5,HW.A OZ λb e=>gS T.o,a3,?_⟩,?_⟩
  .rw[i.o,hb];exact(cL _ _ (ae.1 HZ).1).H HZ
  .rw[i.o,hb];exact ab
  .rw[i.o,hb];exact aa
  rw[a3.Ax,P.2];have:=P.1;simp;omega
 have F:Hid (qA (b1,b2) ⟨Y,Z,M,Q⟩=(b1,b2)->Xt w gH t gm clk W0.heap.size es f (W.alloc (im (ry Y Z M va Q vc) 222))/\es.size-((W.alloc (im (ry Y Z M va Q vc) 222)).iterSeen W0.heap.size).size<es.size-(wr.iterSeen W0.heap.size).size):=λhb=>by
  have a3:=a6.bl BA;refine⟨⟨e::j,x0,x1,gN sa b2.length sc,?_,?_,(BA.heap (ae.1 a5).1).H a5,HW.H BA,a3,?_⟩,?_⟩
  .rw[i.o,hb];exact(BA.heap (ae.1 L).1).H L
  .rw[i.o,hb];exact KR
  .rw[i.o,hb];exact KB
  rw[a3.Ax,P.2];have:=P.1;simp;omega
 clear i L a5 a6 HJ KR KB ab ac aa BA HW HO K3 K2 HB Hf P;by_cases h1:b1<M
 .have HF:=gP (y (zN (.inl h1)));clear a2 F y;go_wp2;go_roundw
  case rel=>exact HF.1
  exact HF.2
 by_cases h2:M=b1
 .subst h2;clear h1;by_cases h4:wW b2 Q=true
  .have HF:=gP (y (zN (.inr ⟨rfl,h4⟩)));clear F y;go_wp2_with(go_at_call 297;refine a2.L ?_;rintro en w2⟨r,rfl,hr,h5⟩;have e5:=h5.symm;clear h5;subst e5;have au:=hr.2 h4;clear hr);go_roundw
   case rel=>exact HF.1
   exact HF.2
  have HF:=gP (F (C2 λe=>by
   obtain e|⟨_,e⟩:=e
   .exact absurd e (Int.lt_irrefl _)
   .exact h4 e))
  clear F y;go_wp2_with(go_at_call 297;refine a2.L ?_;rintro en w2⟨r,rfl,hr,h5⟩;have e5:=h5.symm;clear h5;subst e5;have au:¬0<r:=λe=>h4 (hr.1 e);clear hr);go_roundw
  case rel=>exact HF.1
  exact HF.2
 have HF:=gP (F (C2 λe=>by
  obtain e|⟨e,_⟩:=e
  .exact h1 e
  .exact h2 e.symm))
 have b4:(M==b1)=false:=iU h2;clear a2 F y;go_wp2;go_roundw
 case rel=>exact HF.1
 exact HF.2
abbrev RW(p0:World)(p1):=(p0.alloc (im #[I p1] 3)).alloc (im zV 222)
theorem Ej(w):iB 277 #[.map none] w λi w'=>i=gX (.agg zV)/\Bl w w':=by
 have j:=run_range_nilMap (P:=prog) ((w.alloc (im zV 222)).alloc (im zV 222)) 104 _ _ underlying104;have y:∀h,(Instr.next (O (w.heap.size+1+1)) false h).run prog (((w.alloc (im zV 222)).alloc (im zV 222)).alloc (.mapIter none 0 #[] 0))=_:=λh=>by have:=run_next_nilMap (P:=prog) ((w.alloc (im zV 222)).alloc (im zV 222)) h 0 0 #[];simpa using this
 go_enter func277,ntmps277;go_wp2;refine Z6 1 ?_;rw[ZZ];go_wp2;refine aG (v:= .agg zV) (by simp[results,results277,go_sem]) rfl ?_;refine⟨rfl,?_⟩;repeat(first|exact jC|refine Bl.alloc ?_ _)
def rG{t:Nat}(h:qx w gH t v zz)(j:∀z∈zz,mR z.2.val):iB 277 #[v] w λi w'=>∃(y A:Int) (s:Value),i=gX (.agg #[I y,I A,I (jP zz).1,s])/\Rd w' gH t 5 s ((jP zz).2.map B8)/\Bl w w':=by
 obtain⟨rfl,rfl⟩|⟨gm,clk,l,rfl,h⟩:=h
 .exact(Ej w).L λi w'⟨e,F⟩=>⟨0,0,OO,e,Rd.nil,F⟩
 exact G4 h j
def JI(l:List Vo):Int:=l.foldl (λb z=>max b z.pr) 0
def yc(l):kC l=JI (l.map (·.2)):=by unfold kC JI;rw[List.foldl_map]
theorem Fi(l:List Vo):∀b:Int,l.foldl (λb z=>max b z.pr) b=l.foldr (λz b=>max b z.pr) b:=by
 induction l with
 |nil=>intro b;rfl
 |cons v l h=>
  intro b;have:∀(l:List Vo) (a c),l.foldr (λz b=>max b z.pr) (max a c)=max (l.foldr (λz b=>max b z.pr) a) c:=λl=>by
   induction l with
   |nil=>intro a c;rfl
   |cons u l h=>intro a c;rw[fA,fA,h];omega
  simp_all
def pY(v)(l):JI (v::l)=max (JI l) v.pr:=by unfold JI;rw[Fi,Fi];rfl
theorem NW(h:l1.Perm l2):JI l1=JI l2:=by
 induction h with
 |nil=>rfl
 |cons x _ i=>rw[pY,pY,i]
 |swap x y l=>rw[pY,pY,pY,pY];omega
 |trans _ _ j A=>exact j.H A
def C0(w):Calls prog 306 #[.map none] w λi w'=>i=gX (I 0)/\Bl w w':=by have j:=run_range_nilMap (P:=prog) w 104 _ _ underlying104;have y:∀h,(Instr.next _ false h).run prog _=_:=λh=>run_next_nilMap (P:=prog) w h 0 0 #[];go_wp2;refine Z6 1 ?_;rw[ZZ];go_wp2;go_ret;exact⟨rfl,jC.alloc _⟩
theorem C4{t:Nat}(h:qx w gH t v zz):iB 306 #[v] w λen w'=>en=gX (I (kC zz))/\Bl w w':=by
 obtain⟨rfl,rfl⟩|⟨gm,clk,l,rfl,h⟩:=h
 .exact C0 w
 let⟨f,Z⟩:=DG w gH t;let⟨HV,HE,Hf⟩:=iz (h.XQ Z) h.XP Z;obtain⟨bo,nd⟩:=h.born;have HM:=gP h.mp;rw[yc];generalize iu l=es at*;let⟨a0,a1⟩:=gO bo nd;have a4:=(ae.1 h.mp).1;clear h bo nd Z;generalize zz.map (·.2)=vs at*;generalize P:JI vs=bb;have a2:=gP P;clear P;go_enter func306,ntmps306;go_wp2_with(at_range;refine j9 _ rfl _ 104 rfl 3 222 underlying104 gm es clk rfl HM a0 a1 ?_;intro hI;have HI:=gP hI;clear hI);go_frame;go_loopw[3](λv wr=>∃i:List MapEntry,v=I (JI (i.map λx=>f x.val))/\Hid (Bl w wr)/\Hid (It wr w.heap.size gm es clk i)) λ_ wr=>es.size-(wr.iterSeen w.heap.size).size
 case atStart=>exact⟨[],rfl,jC.alloc _,HI⟩
 obtain⟨i,rfl,HB,HJ⟩:=hrel;go_wp2_with(at_next;refine kQ _ rfl _ rfl w.heap.size gm clk es i rfl HJ ?_ ?_)
 .intro h0;have e0:(i.map λx=>f x.val).Perm vs:=by rw[<-HV.o];exact h0.map _
  rw[(NW e0).H a2.o];go_wp2;go_ret;exact⟨rfl,HB⟩
 intro e W he Q hO T;let⟨A,hA,sv,F,L⟩:=HE e (iU he);have Y:f e.val=A:=Hf _ _ ⟨sv,F,L⟩;obtain⟨va,vc,a3⟩:=L.B;subst a3;have j:Hid (JI ((e::i).map λx=>f x.val)=max (JI (i.map λx=>f x.val)) A.pr):=by unfold Hid;rw[bj,pY,Y]
 rw[F]at T|-;have HW:Hid (Bl w W):=HB.A hO λb hb=>C;have M:=gP Q;let⟨A0,A1,A2,A3⟩:=A;simp only at T j|-;have y:Hid (i.length+1<=es.size/\(wr.iterSeen w.heap.size).size=i.length):=⟨by simpa using M.len,HJ.Ax⟩;generalize JI (i.map λx=>f x.val)=b at*;clear L Y F hO Q he hA HE HV HJ;go_wp2;go_roundw
 case rel=>exact⟨e::i,mf j.o,HW.alloc _,M.bl (jC.alloc _)⟩
 rw[(M.bl (jC.alloc _)).Ax,y.2];have:=y.1;simp;omega
end Go.Proofs.YtbghhbpacijmmaaGreat
