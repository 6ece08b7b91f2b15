import Derived.Shelf.Sort.Plain
import Derived.Shelf.SlMaps.Clone
import Derived.Shelf.SlMaps.DeleteFunc
import Derived.Lib.BytesEntry
import Derived.Test.YtbghhbpacijmmaaGreatL06
open Go.Proofs.Tryz
namespace Go.Proofs.YtbghhbpacijmmaaGreat
set_option maxRecDepth 99999
set_option maxHeartbeats 0
set_option linter.defProp false
open Go.RowKit Go.Maps Go.Shelf Go.Sort
open Go.ChangeMaps (setBlock)
attribute [local go_sem ↓] Go.wp_at_zero Go.wp_at_succ
variable {w w' w1 W:World} {aY bp qb:Nat->Nat} {v:Value} {R:List (List Int)} {ms xs cs:List Value} {zz:List (Int×Vo)} {l:List Ae} {p n g gm q k:Nat} {X X':Cx} {V V':CV} {d ys r rr zs:List Int} {c c':jf} {cv cv':j7} {e:TypeId} {b:Int×List Int} {x u:Int} {es:Array MapEntry} {l1 l2:List Vo} {S:Nat->Prop} {f:Value->Vo}
section
variable{t:Nat}
def oK(qb:Nat->Nat)(n q:Nat):Nat->Nat:=λk=>if k=n then q else qb k
def iN.E(h:iN w aY t p qb X V)(h8:X.dd.length<8)(kind)(hB:Bl w W)(ap:w.heap.size<=q)(hq:W.heap[q]?=some (gO (pQ (X.iy kind) j7.zero).toArray 168 (0,0)))(ac:W.ownsRow 0 43 3 V.rv X.res.length xs)(ad:∀i r,X.res[i]?=some r->xs[3*i]?=some (I r.wh)/\xs[3*i+1]?=some (I r.ad)/\∃s,xs[3*i+2]?=some s/\Rd w aY (t+3) 5 s (r.val.map B8))(a8:∀b,V.rv.ownBlock=some b->aY b=t+2)(a0:W.grownBy w1 V.rv.ownBlock){A:Value}(P:w1.ownsRow 0 43 3 A (X.res.length+1) (xs++[I 0,I 0,OO]))(ag:∀b,A.ownBlock=some b->V.rv.ownBlock=some b\/W.heap.size<=b):∃bp,(∀b,b<w.heap.size->bp b=aY b)/\iN (setBlock (w1.setCell (U p 7) A) V.bm (.map (gR (X.dd.map (jV qb V.bo)++[⟨X.res.length,O q,V.clk⟩])) (V.clk+1))) bp t p (oK qb X.res.length q) (X.iW (X.iy kind)) {V with rv:=A,clk:=V.clk+1,bo:=oK V.bo X.res.length V.clk}/\bz (λb=>Mc t (aY b)) w (setBlock (w1.setCell (U p 7) A) V.bm (.map (gR (X.dd.map (jV qb V.bo)++[⟨X.res.length,O q,V.clk⟩])) (V.clk+1))):=by
 obtain⟨f1,f2⟩:=tW h8;have ai:q<W.heap.size:=(ae.1 hq).1;obtain⟨bp,a5⟩:∃bp:Nat->Nat,bp=λb=>if b=q then t+8+2*X.mn else if w.heap.size<=b then t+2 else aY b:=⟨_,rfl⟩
 have j:∀b,b<w.heap.size->bp b=aY b:=λb D=>by rw[a5];show(if b=q then _ else _)=_;rw[az C,az C]
 have O1:bz (λb=>V.rv.ownBlock=some b) W w1:=(bz.B a0).L λ_ _ e=>e.symm;have F:∀b,V.rv.ownBlock=some b->b<w.heap.size:=λb D=>by obtain⟨ys,y1,_⟩:=h.r.res;exact(y1.lt b D).2
 have Q:bz (λb=>aY b=t+2) w w1:=((bz.E (S:=λb=>V.rv.ownBlock=some b) hB).H O1).L λb _ e=>a8 b e;have O2:bz (λb=>b=p) w1 (w1.setCell (U p 7) A):=(bz.refl (λb=>b=p) w1).setCell (U p 7) (.inl rfl) A;have a6:w1.heap[p]?=some (gO (pO X V).toArray 114 (0,0)):=(Q.block p h.B λe=>by have:=h.tp;omega).H h.hp;have a9:w1.heap[V.bm]?=some (.map (J1 X qb V) V.clk):=(Q.block _ h.r.lb λe=>by have:=h.r.tb;omega).H h.r.mp;have ak:V.bm≠p:=λe=>by have h1:=h.r.tb;have h2:=h.tp;rw[e,h2]at h1;omega
 have O3:bz (λb=>b=V.bm) (w1.setCell (U p 7) A) (setBlock (w1.setCell (U p 7) A) V.bm (.map (gR (X.dd.map (jV qb V.bo)++[⟨X.res.length,O q,V.clk⟩])) (V.clk+1))):=jT _ _ _;generalize hZ:setBlock (w1.setCell (U p 7) A) V.bm (.map (gR (X.dd.map (jV qb V.bo)++[⟨X.res.length,O q,V.clk⟩])) (V.clk+1))=Z at O3|-;have ar:w.heap.size<=w1.heap.size:=Q.size;have T:bz (λb=>aY b=t+2\/b=p\/b=V.bm) w Z:=((Q.L λ_ _ e=>.inl e).H (O2.L λ_ _ e=>.inr (.inl e))).H (O3.L λ_ _ e=>.inr (.inr e));have tp:=h.tp;have tb:=h.r.tb;have hT:∀b,b<w.heap.size->(aY b=t+2\/b=p\/b=V.bm)->aY b<=t+2/\t<=aY b:=λb _ e=>by
  obtain e|e|e:=e
  .omega
  .rw[e];omega
  rw[e];omega
 have M:∀b,b<w.heap.size->(aY b=t+2\/b=p\/b=V.bm)->aY b≠t+3:=λb D e=>by have:=hT b D e;omega
 have a7:∀b,b<w.heap.size->aY b=t+3->bp b=t+3:=λb D e=>by rw[j b D];exact e
 have av:=hB.lt;have al:Z.heap[p]?=some (gO (pO (X.iW (X.iy kind)) {V with rv:=A,clk:=V.clk+1,bo:=oK V.bo X.res.length V.clk}).toArray 114 (0,0)):=
  (O3.block p (af (ae.1 a6).1 O2.size) (Ne.symm ak)).H (iU 7 _ w1 _ a6)
 refine⟨bp,j,⟨al,(j p h.B).H h.tp,h.r.lay.only T M a7,?_,(j _ h.r.lb).H h.r.tb,?_,λc hc=>?_,?_,h.r.pr.only T M (λb D e=>by have:=hT b D e;omega) j,h.r.sl.only T M (λb D e=>by have:=hT b D e;omega) j,h.r.vt.only T M (λb D e=>by have:=hT b D e;omega) j,h.r.bg.only T (λb D e=>by have:=hT b D e;omega) j,h.r.b.only T M a7,λc hc=>?_,h.r.pd.E h8 kind⟩,T.L λb D e=>by have:=hT b D e;unfold Mc;omega⟩
 .have am:xs.length=X.res.length*3:=ac.1;have n1:∀b,A.ownBlock=some b->b≠p:=λb e e'=>gJ P a6 au (e'▸e);have n2:∀b,A.ownBlock=some b->b≠V.bm:=λb e e'=>by obtain⟨cc,aa⟩:=ny P b e;rw[e',a9]at aa;simp at aa
  refine sG.push (λi r hr=>?_) am (O3.iJ (O2.iJ P n1) n2) λb D=>?_
  .obtain⟨a1,a2,s,a3,a4⟩:=ad i r hr;exact⟨a1,a2,s,a3,a4.only T M a7⟩
  obtain e|e:=ag b D
  .rw[j b (F b e)];exact a8 b e
  rw[a5];show(if b=q then _ else if w.heap.size<=b then t+2 else aY b)=t+2;rw[az C,aE C]
 .show Z.heap[V.bm]?=some (.map (gR ((X.dd++[X.iy kind]).map (jV (oK qb X.res.length q) (oK V.bo X.res.length V.clk)))) (V.clk+1));rw[<-hZ,ni (af (ae.1 a9).1 O2.size),aZ];congr 3;have e1:X.dd.map (jV (oK qb X.res.length q) (oK V.bo X.res.length V.clk))=X.dd.map (jV qb V.bo):=bf λc hc=>by have:=h.r.pd.lt c hc;unfold jV oK;rw[az C,az C]
  rw[e1];congr 1;show _=[jV (oK qb X.res.length q) (oK V.bo X.res.length V.clk) (X.iy kind)];unfold jV oK Cx.iy;simp
 .show oK V.bo X.res.length V.clk c.gH<V.clk+1;unfold oK;split
  .omega
  rename_i an;obtain hc|hc:=aT.1 hc
  .have:=h.r.bo c hc;omega
  simp at hc;subst hc;exact absurd rfl an
 .show((X.dd++[X.iy kind]).map λc=>oK V.bo X.res.length V.clk c.gH).Nodup;have e1:X.dd.map (λc=>oK V.bo X.res.length V.clk c.gH)=X.dd.map λc=>V.bo c.gH:=bf λc hc=>by have:=h.r.pd.lt c hc;unfold oK;rw[az C]
  rw[aZ,e1,cX];refine⟨h.r.bn,aq,λx hx y hy=>?_⟩;obtain⟨c,hc,rfl⟩:=aD.1 hx;have D:=h.r.bo c hc;have aw:y=V.clk:=by simpa [oK,Cx.iy]using hy
  omega
 obtain hc|hc:=aT.1 hc
 .have iV:=h.r.pd.lt c hc;obtain⟨dv,hk⟩:=h.r.a c hc;have e1:oK qb X.res.length q c.gH=qb c.gH:=by unfold oK;rw[az C]
  rw[e1];exact⟨dv,hk.only T (λb D e=>by have:=hT b D e;omega) j⟩
 simp at hc;subst hc;have e1:oK qb X.res.length q (X.iy kind).gH=q:=by unfold oK Cx.iy;simp
 rw[e1];have b0:=h.B;have b1:=h.r.lb;have ab:w1.heap[q]?=some (gO (pQ (X.iy kind) j7.zero).toArray 168 (0,0)):=(O1.block q ai λe=>by have:=F q e;omega).H hq;have Y:=(ae.1 ab).1;refine⟨j7.zero,((O3.block q (af Y O2.size) C).H ((O2.block q Y C).H ab)),?_,Rd.nil,Rd.nil,Rd.nil,QR.zero⟩;rw[a5];show(if q=q then _ else _)=_;rw[aE rfl];rfl
end
def Tryz.S8:(prog.info? 43).map (λi=>(i.zero,i.size,i.bytes))=some (some (.agg #[I 0,I 0,OO]),3,40):=rfl
section
variable{t:Nat}
theorem sS(h:iN w aY t p qb X V)(h8:X.dd.length<8)(hr:X.res.length<=1000000000)(kind):ib 86 #[.pointer (some ⟨p,0,none⟩),.int .i64 kind] w λe w'=>∃q,e=gG (.tuple #[.pointer (some ⟨q,0,none⟩),.int .i64 0])/\w.heap.size<=q/\∃bp,(∀b,b<w.heap.size->bp b=aY b)/\Cl w' bp t p (oK qb X.res.length q) (X.iW (X.iy kind))/\bz (λb=>Mc t (aY b)) w w':=by
 obtain⟨a7,hi,a8,a9,aa⟩:=fx Tryz.S8;obtain⟨xs,x1,x2,x3⟩:=h.r.res;obtain⟨ad,cc,Q⟩:∃ad cc,V.rv=dk ad X.res.length cc:=by
  obtain⟨e,h0⟩|⟨g,cap,b0,e,_⟩:=x1.2
  .exact⟨_,_,j4 e h0⟩
  exact⟨_,_,e⟩
 obtain⟨h4,h7⟩:=h.M 4 7 rfl;rw[Q]at h7;have a0:=h.cellAt 8 rfl;have hl:=NK w V.bm V.clk _ h.r.mp;rw[ay]at hl;have H:=fu h;have iV:=h.B;have F:=h.r.lb;have ab:p≠V.bm:=λe=>by have h1:=h.r.tb;have h2:=h.tp;rw[<-e,h2]at h1;omega
 have b1:((X.dd.length:Int)==8)=false:=gM;have ac:Hid (X.res.length+1<=maxLen):=mQ;have ag:Hid ((X.res.length+1)*40<=140737488355328):=lQ;have HF:Hid (∀W,Bl w W->_):=λW hW=>EZ (h.bl hW (bp:=aY) gK) h8;have HX:=lZ x1 x2 x3;have ai:Hid (∀e∈X.dd.map (jV qb V.bo),e.k≠((X.res.length:Nat):Int)):=λe he=>by obtain⟨c,hc,rfl⟩:=aD.1 he;have:=h.r.pd.lt c hc;show((c.gH:Nat):Int)≠_;omega
 obtain⟨a1,H8,ak,al⟩:=ju Q h8 h.r.mp (And.intro h.r.tb h.tp);clear h x1 x2 x3 Q h8;go_enter func86,ntmps86;go_upto_region 4 with fail;go_cut[7] λx wx=>∃(q:Nat),x=.pointer (some ⟨q,0,none⟩)/\w.heap.size<=q/\Hid (Bl w wx)/\Hid (wx.heap[q]?=some (gO (pQ (X.iy kind) j7.zero).toArray 168 (0,0)))
 case first=>
  go_region_held3(λW=>W.cell? ⟨p,4,none⟩=some (.int .i64 X.id)) (go_keep) (first|(go_at_call 148;refine(HF _ ?hb).L ?_;(case hb=>exact iZ);rintro en w2⟨rfl,a2⟩;have A:Bl w w2:=Bl.H iZ a2;have z4:=(A.cell iV).H h4;have a3:=fu A;clear a2 A));all_goals(go_wp2_with fail;go_meet)
  all_goals exact⟨_,rfl,a3.lt,a3.alloc _,ao _ _⟩
 case rest=>
  obtain⟨q,rfl,T,D,a4⟩:=hcut;have A:=D.o;obtain⟨d7,d8⟩:=A.E iV h7 a0;have ap:=af iV A.lt;have OW:Hid (wc.ownsRow 0 43 3 V.rv X.res.length xs):=(iD A).iJ HX.1 λ_ _ e=>e;rw[a1.o]at OW;have ar:=A.lt;have a5:=fu (fW (cs:=#[.int .i64 0,.int .i64 0,dk none 0 0]) (t:=43) (fr:=(0,0)) (ao wc _));clear h4 h7 a0 hl A;go_wp2_with(at_builtin;refine fm _ rfl _ _ 97 rfl 0 43 a7 _ 3 40 underlying97 hi a8 a9 aa rfl au _ X.res.length _ rfl (OW.alloc _) ⟨wc.heap.size,0,none⟩ 1 1 [.int .i64 0,.int .i64 0,dk none 0 0] rfl rfl a5 qR au ac ag aq (wc.heap.size+1) aq ?_);intro g cap w1 M i Y av;rw[<-a1.o]at i Y;obtain⟨bp,P,K,oQ⟩:=H.E H8 kind (D.alloc (gO #[.int .i64 0,.int .i64 0,dk none 0 0] 43)) T ((cL wc _ (ae.1 a4).1).H a4) (xs:=xs) ((iD (D.alloc _)).iJ HX.1 λ_ _ e=>e) HX.2.2 HX.2.1 i M (λb hb=>by
   simp[Value.ownBlock]at hb
   subst hb
   exact Y.imp (λe=>e) λe=>nI e)
  have O1:bz (λb=>V.rv.ownBlock=some b) (wc.alloc (gO #[.int .i64 0,.int .i64 0,dk none 0 0] 43)) w1:=(bz.B i).L λ_ _ e=>e.symm;obtain⟨tb,tp⟩:=al.o;have np:¬V.rv.ownBlock=some p:=λe=>by have:=HX.2.1 p e;omega
  have nb:¬V.rv.ownBlock=some V.bm:=λe=>by have:=HX.2.1 _ e;omega
  have j:=D.alloc (gO #[.int .i64 0,.int .i64 0,dk none 0 0] 43);have y:w1.heap[p]?=some (gO (pO X V).toArray 114 (0,0)):=(O1.block p (af iV j.lt) np).H ((j.heap iV).H H.hp);have Z:w1.heap[V.bm]?=some (.map (J1 X qb V) V.clk):=(O1.block _ (af F j.lt) nb).H ((j.heap F).H ak);have c7:w1.cell? ⟨p,7,none⟩=some V.rv:=by rw[ax w1 p 7 _ 114 (0,0) y];rfl
  have c8:w1.cell? ⟨p,8,none⟩=some (.map (some V.bm)):=by rw[ax w1 p 8 _ 114 (0,0) y];rfl
  have f7:=aP w1 p 7 _ 114 y;have b2:=(ae.1 y).1;have am:=(ae.1 Z).1;have g4:(w1.setCell ⟨p,7,none⟩ (dk (some ⟨g,0,none⟩) (X.res.length+1) cap)).heap[V.bm]?=some (.map (J1 X qb V) V.clk):=(((bz.refl (λb=>b=p) w1).setCell ⟨p,7,none⟩ (.inl rfl) _).block _ am (Ne.symm ab)).H Z;have aw:=Lf _ V.bm V.clk _ g4 X.res.length (.pointer (some ⟨q,0,none⟩)) ai;obtain⟨HK,HO,a6⟩:=gV K oQ P;have b3:(8:Nat)≠7:=au;have an:=fu T;clear g4 M i Y H K oQ P y Z O1 j T np nb tb tp;go_wp2;go_ret2;exact⟨q,rfl,an,bp,a6,⟨_,HK⟩,HO⟩
end
def Tryz.DL:Go.Shelf.Ren:=⟨fun|189=>95|125=>157|257=>156|128=>205|129=>206|294=>196|295=>197|296=>198|297=>199|298=>200|299=>201|216=>202|300=>203|301=>204|328=>238|329=>239|330=>240|331=>241|332=>242|215=>243|343=>268|n=>n,fun|28=>24|3=>3|46=>144|0=>0|51=>283|53=>285|4=>4|183=>277|182=>276|131=>140|5=>5|9=>9|218=>328|222=>332|228=>356|229=>357|n=>n,fun|n=>n⟩
def Tryz.IT:Go.Proofs.Lays.n189 prog Tryz.DL:={
 mixed:=by kernel_rfl
 f125:=func157.trans (congrArg some (by kernel_rfl))
 f128:=func205.trans (congrArg some (by kernel_rfl))
 f129:=func206.trans (congrArg some (by kernel_rfl))
 f189:=func95.trans (congrArg some (by kernel_rfl))
 f215:=func243.trans (congrArg some (by kernel_rfl))
 f216:=func202.trans (congrArg some (by kernel_rfl))
 f257:=func156.trans (congrArg some (by kernel_rfl))
 f294:=func196.trans (congrArg some (by kernel_rfl))
 f295:=func197.trans (congrArg some (by kernel_rfl))
 f296:=func198.trans (congrArg some (by kernel_rfl))
 f297:=func199.trans (congrArg some (by kernel_rfl))
 f298:=func200.trans (congrArg some (by kernel_rfl))
 f299:=func201.trans (congrArg some (by kernel_rfl))
 f300:=func203.trans (congrArg some (by kernel_rfl))
 f301:=func204.trans (congrArg some (by kernel_rfl))
 f328:=func238.trans (congrArg some (by kernel_rfl))
 f329:=func239.trans (congrArg some (by kernel_rfl))
 f330:=func240.trans (congrArg some (by kernel_rfl))
 f331:=func241.trans (congrArg some (by kernel_rfl))
 f332:=func242.trans (congrArg some (by kernel_rfl))
 f343:=func268.trans (congrArg some (by kernel_rfl))
 t0:=underlying0
 a0:=Tryz.isAgg0
 z0:=Tryz.sizeOf0
 v0:=Tryz.zeroValue0
 t3:=underlying3
 a3:=Tryz.isAgg3
 z3:=Tryz.sizeOf3
 v3:=Tryz.zeroValue3
 t4:=underlying4
 a4:=Tryz.isAgg4
 z4:=Tryz.sizeOf4
 v4:=Tryz.zeroValue4
 t5:=underlying5
 a5:=Tryz.isAgg5
 z5:=Tryz.sizeOf5
 v5:=Tryz.zeroValue5
 t9:=underlying9
 a9:=Tryz.isAgg9
 z9:=Tryz.sizeOf9
 v9:=Tryz.zeroValue9
 t28:=underlying24
 a28:=Tryz.isAgg24
 z28:=Tryz.sizeOf24
 v28:=Tryz.zeroValue24
 t46:=underlying144
 a46:=Tryz.isAgg144
 z46:=Tryz.sizeOf144
 v46:=Tryz.zeroValue144
 t51:=underlying283
 a51:=Tryz.isAgg283
 z51:=Tryz.sizeOf283
 v51:=Tryz.zeroValue283
 t53:=underlying285
 a53:=Tryz.isAgg285
 z53:=Tryz.sizeOf285
 v53:=Tryz.zeroValue285
 t131:=underlying140
 a131:=Tryz.isAgg140
 z131:=Tryz.sizeOf140
 v131:=Tryz.zeroValue140
 t182:=underlying276
 a182:=Tryz.isAgg276
 z182:=Tryz.sizeOf276
 v182:=Tryz.zeroValue276
 t183:=underlying277
 a183:=Tryz.isAgg277
 z183:=Tryz.sizeOf277
 v183:=Tryz.zeroValue277
 t218:=underlying328
 a218:=Tryz.isAgg328
 z218:=Tryz.sizeOf328
 v218:=Tryz.zeroValue328
 t222:=underlying332
 a222:=Tryz.isAgg332
 z222:=Tryz.sizeOf332
 v222:=Tryz.zeroValue332
 t228:=underlying356
 a228:=Tryz.isAgg356
 z228:=Tryz.sizeOf356
 v228:=Tryz.zeroValue356
 t229:=underlying357
 a229:=Tryz.isAgg357
 z229:=Tryz.sizeOf357
 v229:=Tryz.zeroValue357}
def ND(a)(cap)(w):Calls prog 196 #[dk a 0 cap,I 0,I 0] w λe w'=>e=gS/\w'=w:=by go_wp2;refine Z6 1 ?_;rw[ZZ];go_wp2;go_end0;simp_all
theorem OH(a)(cap)(l)(w):ib 156 #[dk a 0 cap,I 0,I 0,I l] w λe w'=>e=gS/\w'=w:=by
 have i:=fu (ND a cap);go_enter func156,ntmps156;go_wp2;refine Z6 1 ?_;rw[ZZ];go_wp2_with(go_at_call 196;refine(i _).L ?_;rintro e w'⟨rfl,rfl⟩);(try simp only[Exit.inBlock,Exit.then])
 refine aG (v:= .tuple #[]) (by simp[results,results156,go_sem]) rfl ?_;exact⟨rfl,rfl⟩
def AZ(a)(cap)(w):Calls prog 95 #[dk a 0 cap] w λe w'=>e=gS/\w'=w:=by have i:=fu (OH a cap);go_wp2_with(first|(go_at_call 156;refine(i _ _).L ?_;rintro e w'⟨rfl,rfl⟩)|go_in);go_end0;exact⟨rfl,rfl⟩
def Tryz.Tr(m):AnyZI.SortsIn prog Tryz.wM Fence.wide m:=
 ⟨λy off cap A W D i j=>callsIn_wide.2 (Any.slices_Sort_int Tryz.IT y off cap A W D i j),
  λp cap W=>callsIn_wide.2 (AZ p cap W)⟩
def qy{k:Int}(i:0<=k)(j:k<=1000000000000000):(Lit.int .i64 k).wf=true:=by have y:IntKind.i64.min=-9223372036854775808:=au;have A:IntKind.i64.max=9223372036854775807:=au;simp only[Lit.wf,bL,ZX];omega
def DD{clk:Nat}(Z:w.heap[gm]?=some (.map (gR l) clk))(F:∀e∈l,e.bo<clk)(L:(l.map (·.bo)).Nodup)(M:(l.map (·.k)).Nodup)(T:∀e∈l,0<=e.k/\e.k<=1000000000000000)(hl:l.length<=1000):∃D:DataW Value,w.ownsMap prog 3 Rv gm l.length D/\(intKeys D).Perm (l.map (·.k))/\Maps.size D<=l.length:=by
 have P:(gR l).toList=l.map Ae.B:=by simp[gR]
 have j:∀e∈l,WideElems.rd prog 3 Rv e.B=some (.int .i64 e.k,.held e.v):=λe i=>WideElems.rd_mk (yv:=(DataW.held e.v,[])) (keyOf_int_mk underlying3 (qy (T e i).1 (T e i).2)) rfl;have y:(gR l).toList.map (WideElems.rg prog 3 Rv)=l.map λe=>(Lit.int .i64 e.k,DataW.held e.v):=by rw[P,br];exact bf λe i=>WideElems.rg_of (j e i)
 have A:WideElems.Fit prog 3 Rv (gR l) clk:=by
  refine⟨aF (by simp[gR]) (aF hl au),⟨λx Q=>?_,?_,?_⟩,λx Q=>?_⟩
  .obtain⟨e,i,rfl⟩:=kZ Q;exact F e i
  .rw[P,br];exact L
  .rw[P,br];have:(λx:MapEntry=>x.key)∘Ae.B=(Value.int .i64)∘(λe:Ae=>e.k):=rfl;rw[this,<-br];exact List.Pairwise.map _ (λa b h e=>h (iG e)) M
  obtain⟨e,i,rfl⟩:=kZ Q;exact⟨_,j e i⟩
 have Y:((l.map λe=>(Lit.int .i64 e.k,DataW.held e.v)).foldr DataW.insert []).Perm (l.map λe=>(Lit.int .i64 e.k,(DataW.held e.v:DataW Value))):=Go.WideShapes.sorted_perm _;refine⟨_,⟨_,_,Z,A,by simp[gR],rfl⟩,?_,?_⟩
 .rw[y];show List.Perm (List.map _ _) _;refine(Y.map _).H ?_;rw[br];exact fK _
 rw[y];show List.length _<=_;rw[Y.length_eq];simp
def OE(mb)(W):ib 237 #[.map mb] W λe w'=>e=gG (.func (.func 267) #[] #[O W.heap.size])/\w'=W.alloc (gO #[.map mb] 98):=
 callsIn_wide.1 (AnyZI.keys_in Tryz.Su Fence.wide 5 trivial rfl mb W)
def Gc{bm clk:Nat}(hb:w.heap[bm]?=some (.map (gR l) clk))(Q:∀e∈l,e.bo<clk)(T:(l.map (·.bo)).Nodup)(j:(l.map (·.k)).Pairwise (·<·))(hk:∀e∈l,0<=e.k/\e.k<=1000000000000000)(Z:l.length<=1000)(g)(hg:g<w.heap.size)(hc:w.cell? (U g 0)=some (.map (some bm))):ib 236 #[.func (.func 267) #[] #[O g]] w λe w'=>∃v,e=gG v/\w'.ownsRow w.heap.size 3 1 v l.length (l.map λe=>I e.k)/\Bl w w':=by
 have A:(l.map (·.k)).Nodup:=j.imp λh=>C;obtain⟨D,h1,h2,h3⟩:=DD hb Q T A hk Z;have F:SeqGives Fence.wide 2 prog 267 #[O g] encZ (λP=>P.Perm (intKeys D)) (Maps.size D) w:=
  AnyZI.keys_gives (ρ:=Tryz.Bo) {Tryz.Su with} Fence.wide _ trivial rfl C g bm l.length D _ hg hc h1
 have cS:=AnyZI.sorted_in Tryz.Pm Fence.wide 5 trivial trivial trivial trivial rfl C (Tryz.Tr _) (enters_of func95 ij rfl) 267 #[O g] trivial (enters_of func267 ij rfl) _ _ (aF h3 (aF Z au)) C _ F;change CallsIn _ _ prog 236 _ _ _ at cS;refine(callsIn_wide.1 cS).L ?_;rintro e w'⟨v,P,rfl,hS,i,a0,Y⟩;have H:=hS.H h2;have hs:P.mergeSort (λx y=>decide (x<=y))=l.map (·.k):=by have:=mergeSort_of_perm_i H;unfold leI at this;rw[this];exact fI (j.imp λh=>gM)
 have M:P.length=l.length:=by rw[H.length_eq];simp
 refine⟨v,rfl,?_,Y⟩;rwa[hs,M,br]at i
def Tryz.RW:(prog.info? 163).map (λi=>(i.zero,i.size,i.bytes))=some (some (.pointer none),1,8):=rfl
theorem Sc(i:(l.map (·.k)).Nodup){x y:Ae}(j:x∈l)(A:y∈l)(h:x.k=y.k):x=y:=by
 induction l with
 |nil=>simp at j
 |cons z l D=>
  rw[bj,bY]at i;obtain rfl|hx':=bh.1 j<;>obtain rfl|hy':=bh.1 A
  .rfl
  .exact absurd (aD.2 ⟨y,hy',h.symm⟩) i.1
  all_goals simp_all
def Lv(w)(bm clk)(l)(D:w.heap[bm]?=some (.map (gR l) clk))(i:(l.map (·.k)).Nodup)(e)(y:e∈l):(Instr.lookup 98 (.map (some bm)) (I e.k) false).run prog w=.ok e.v w:=by
 obtain⟨j,A,F,H,L⟩:=rE l e.k ⟨e,y,rfl⟩;have:A=e:=Sc i (aR F) y H;subst this;have M:=fa (w:=w) underlying3 L;have Q:=eW (P:=prog) (w:=w) (k:= I A.k) underlying3 sj (gR l).isEmpty 9999;simp[Instr.lookup,Sem.run_bind,aI D,Q,M]
def tV{α:Type}(l:List α)(f:α->Value)(j)(h:j<l.length):(l.take (j+1)).map f=(l.take j).map f++[f l[j]]:=by rw[aM h,aZ];rfl
section
variable{t:Nat}
abbrev ptr(g:Nat):Value:= O g
def OV.Oe(h:OV w aY t qb X V):((X.dd.map (jV qb V.bo)).map (·.k)).Pairwise (·<·):=by rw[br,cj];exact h.pd.gH.imp λe=>by show((_:Nat):Int)<((_:Nat):Int);omega
theorem yx(h:iN w aY t p qb X V)(hr:X.res.length<=1000000000)(h8:X.dd.length<=8):ib 192 #[ptr p] w λen w'=>∃v,en=gG v/\w'.ownsRow w.heap.size 163 1 v X.dd.length (X.dd.map λc=>ptr (qb c.gH))/\Bl w w':=by
 obtain⟨P,ji,a1,a2,a3⟩:=fx Tryz.RW;have hm:=h.r.mp;have c8:=h.cellAt 8 rfl;have lp:=h.B;have lb:=h.r.lb;have HK:=fu OE;have bA:=(Bl.refl w).alloc (gO #[.map (some V.bm)] 98);have a4:=fu h.r.Oe;have HS:=fu (Gc (w:=w.alloc (gO #[.map (some V.bm)] 98)) (l:=X.dd.map (jV qb V.bo)) ((bA.heap h.r.lb).H hm) (λe he=>by
  obtain⟨c,hc,rfl⟩:=aD.1 he
  exact h.r.bo c hc) (by rw[br];exact h.r.bn) h.r.Oe (λe he=>by
  obtain⟨c,hc,rfl⟩:=aD.1 he
  have:=h.r.pd.lt c hc
  show(0:Int)<=(c.gH:Int)/\(c.gH:Int)<=_
  omega) gM w.heap.size aq (ax _ w.heap.size 0 _ 98 (0,0) (ao w _)))
 have HM:=fu hm;clear h hm;rw[ay]at HS;go_enter func192,ntmps192;go_wp2_with(first|(go_at_call 237;refine(HK _ _).L ?_;rintro e w'⟨rfl,rfl⟩)|(go_at_call 236;refine HS.L ?_;rintro e w2⟨v,rfl,ho,Q⟩;obtain⟨a,cap,rfl⟩:=ja ho;obtain⟨HO,HB⟩:=fl ho (bA.H Q);clear HS Q ho));go_loopw[3,13](λv i wr=>∃j:Nat,j<=X.dd.length/\i=I j/\Hid (wr.ownsRow w2.heap.size 163 1 v j ((X.dd.take j).map λc=>ptr (qb c.gH)))/\Hid (Bl w2 wr)) λ_ i _=>X.dd.length-(Go.RowKit.intOf i).toNat
 case atStart=>exact⟨0,jd,rfl,mC,jo⟩
 obtain⟨j,hj,rfl,D,A⟩:=hrel;by_cases iV:j<X.dd.length
 .have ad:(j:Int)<(X.dd.length:Int):=C;have hB:=HB.H A;obtain⟨g,ag,T⟩:=lL HO C;simp at T;obtain⟨rfl,rfl⟩:=T;have y:=HO.cellAt j C;have Y:(X.dd.map (jV qb V.bo)).map (λe=>I e.k)=X.dd.map λc=>I c.gH:=by rw[br];rfl
  rw[Y,aK,ah iV]at y;have Z:=(HO.lt g rfl).2;have k1:=(A.cell Z).H y;simp only[bG]at k1;have d8:=(hB.cell lp).H c8;have a5:=Lv wr V.bm V.clk _ ((hB.heap lb).H HM) (a4.imp λh=>C) (jV qb V.bo X.dd[j]) (aD.2 ⟨_,aL iV,rfl⟩);simp only[jV]at a5;have al:=af lp hB.lt;have ai:=af Z A.lt;have HT:=fu (tV X.dd (λc=>ptr (qb c.gH)) j iV);have a6:Hid (j+1<=maxLen):=mQ;have a7:Hid ((j+1)*8<=140737488355328):=lQ;have am:Hid (((X.dd.take j).map λc=>ptr (qb c.gH)).length=j):=by unfold Hid;simp;omega
  generalize X.dd[j]=d at*;generalize qb d.gH=q at*;clear hB y Y;go_wp2_with(at_builtin;refine fm _ rfl _ _ 271 rfl w2.heap.size 163 P _ 1 8 underlying271 ji a1 a2 a3 rfl au u3 j _ rfl (D.alloc _) (U wr.heap.size 0) 1 1 [O q] rfl rfl (ZV _ _ _) qR au a6 a7 (by have:=A.lt;simp;omega) (wr.heap.size+1) aq ?_);intro g' a0 w3 M F a8 ak;have a9:Hid (Bl w2 w3):=(A.alloc _).B (bz.B F) λk e=>(D.lt k e.symm).1;have aa:Hid (w3.ownsRow w2.heap.size 163 1 (dk (G g') (j+1) a0) (j+1) ((X.dd.take (j+1)).map λc=>ptr (qb c.gH))):=by unfold Hid;rw[HT.o];simpa [fS]using M
  clear M F a8;go_wp2;go_roundw
  case rel=>exact⟨j+1,C,aq,aa,a9⟩
  exact gW
 have an:¬((j:Int)<(X.dd.length:Int)):=C;have ab:j=X.dd.length:=C;subst ab;rw[bZ]at D;go_wp2;go_ret;exact⟨_,rfl,⟨D.1,D.2.imp (λe=>e) λ⟨g,c,ac,e,l,r⟩=>⟨g,c,ac,e,aF HB.lt l,r⟩⟩,HB.H A⟩
end
def JU(l:List jf):List Int:=(l.filter λc=>c.kind==5).map λc=>c.unit
def LX(l:List jf)(j)(h:j<l.length):JU (l.take (j+1))=JU (l.take j)++if l[j].kind==5 then [l[j].unit]else []:=by unfold JU;rw[aM h,cz,aZ];simp only[cT];split<;>rfl
def Im(l):(JU l).length<=l.length:=by unfold JU;rw[ay];exact bF _ _
def pP{b1 j:Nat}(h:w.ownsRow j e k v n xs)(y:b1<=j):w.ownsRow b1 e k v n xs:=
 ⟨h.1,h.2.imp (λe=>e) λ⟨g,c,i,e,l,r⟩=>⟨g,c,i,e,aF y l,r⟩⟩
section
variable{t:Nat}
theorem zj(h:iN w aY t p qb X V)(hr:X.res.length<=1000000000)(h8:X.dd.length<=8):ib 152 #[ptr p] w λen w'=>∃v,en=gG v/\w'.ownsRow w.heap.size 3 1 v X.jN.length (X.jN.map I)/\Bl w w':=by
 obtain⟨i3,ji,a1,a2,a3⟩:=fx Tryz.sU;obtain⟨HS,H⟩:=fl (yx h hr h8) h;clear h;go_enter func152,ntmps152;go_wp2_with(go_at_call 192;refine HS.L ?_;rintro e w2⟨v,rfl,ho,Q⟩;obtain⟨a,cap,rfl⟩:=ja ho;obtain⟨HO,HB⟩:=fl ho Q;clear HS Q ho);go_loopw[3,9](λv i wr=>∃j:Nat,j<=X.dd.length/\i=I j/\Hid (wr.ownsRow w2.heap.size 3 1 v (JU (X.dd.take j)).length ((JU (X.dd.take j)).map I))/\Hid (Bl w2 wr)) λ_ i _=>X.dd.length-(Go.RowKit.intOf i).toNat
 case atStart=>exact⟨0,jd,rfl,mC,jo⟩
 obtain⟨j,hj,rfl,F,A⟩:=hrel;by_cases iV:j<X.dd.length
 .have ac:(j:Int)<(X.dd.length:Int):=C;have hB:=HB.H A;obtain⟨g,ad,T⟩:=lL HO C;simp at T;obtain⟨rfl,rfl⟩:=T;have D:=HO.cellAt j C;rw[aK,ah iV]at D;have Y:=(HO.lt g rfl).2;have k1:=(A.cell Y).H D;simp only[bG]at k1;have ag:=af Y A.lt;obtain⟨dv,hk⟩:=(H.bl hB (bp:=aY) gK).r.a X.dd[j] (aL iV);obtain⟨e0,e4⟩:=hk.M 0 4 rfl;have lq:=hk.lt;have a4:=Im (X.dd.take j);rw[bH]at a4;have HT:=fu (LX X.dd j iV);have a5:Hid ((JU (X.dd.take j)).length+1<=maxLen):=mQ;have a6:Hid (((JU (X.dd.take j)).length+1)*8<=140737488355328):=lQ;generalize X.dd[j]=d at*;generalize qb d.gH=q at*;clear hB D hk;by_cases Z:d.kind=5
  .have y:=HT.o;rw[Z]at y e0;have a7:=fu y;clear y HT;go_wp2_with(at_builtin;refine fm _ rfl _ _ 24 rfl w2.heap.size 3 i3 (I 0) 1 8 underlying24 ji a1 a2 a3 rfl au u3 (JU (X.dd.take j)).length _ rfl (F.alloc _) (U wr.heap.size 0) 1 1 [I d.unit] rfl rfl (ZV _ _ _) qR au a5 a6 (by have:=A.lt;simp;omega) (wr.heap.size+1) aq ?_);intro g' a0 w3 M L a8 ai;have a9:Hid (Bl w2 w3):=(A.alloc _).B (bz.B L) λk e=>(F.lt k e.symm).1;have P:Hid (w3.ownsRow w2.heap.size 3 1 (dk (G g') ((JU (X.dd.take j)).length+1) a0) (JU (X.dd.take (j+1))).length ((JU (X.dd.take (j+1))).map I)):=by unfold Hid;rw[a7.o];simpa using M
   clear M L a8;go_wp2;go_roundw
   case rel=>exact⟨j+1,C,aq,P,a9⟩
   exact gW
  have aa:(d.kind==5)=false:=by simpa using Z
  have y:=HT.o;rw[aa]at y;simp at y;rw[<-y]at F;have P:=F;clear y HT;go_wp2;go_roundw
  case rel=>exact⟨j+1,C,aq,P,A⟩
  exact gW
 have ak:¬((j:Int)<(X.dd.length:Int)):=C;have ab:j=X.dd.length:=C;subst ab;rw[bZ]at F;go_wp2;go_ret;exact⟨_,rfl,pP F HB.lt,HB.H A⟩
def NT(X:Cx):X.iO=decide (0<(X.jN.length:Int)):=by
 unfold Cx.iO
 cases X.jN<;>simp
theorem mf(h:iN w aY t p qb X V)(j:X.res.length<=1000000000)(y:X.dd.length<=8):ib 91 #[ptr p] w λA w'=>A=gG (.bool X.iO)/\Bl w w':=by
 have D:=fu (zj h j y);rw[NT];clear h;go_enter func91,ntmps91;go_wp2_with(refine D.L ?_;rintro e w2⟨v,rfl,F,i⟩;obtain⟨a,cap,rfl⟩:=ja F);go_ret;exact⟨aq,(fu i).o⟩
end
def BC(v)(zs:List Int)(x)(w)(i:Sl w v (zs.map I))(y:zs.length<=1000):ib 153 #[v,I x] w λe w'=>e=gG (.bool (decide (x∈zs)))/\w'=w:=by
 obtain⟨a,c,rfl,A⟩|⟨b,o,c,rfl,P,Q⟩:=i
 .have:zs=[]:=by simpa using A
  subst this;exact(Bw w a c x).L λe w'⟨D,F⟩=>⟨nI D,F⟩
 rw[ay];refine AA w b o c zs x y λj d H=>?_;have M:=(aj.1 H).1;simp_all
def Ec(w:World)(v:Value)(xss:List (List Int)):Prop:=
 ∃ms,Sl w v ms/\ms.length=xss.length/\∀i (h:i<ms.length) (h':i<xss.length),Sl w ms[i] (xss[i].map I)
def Ec.bl{xss:List (List Int)}(h:Ec w v xss)(j:Bl w w'):Ec w' v xss:=by obtain⟨ms,y,A,D⟩:=h;exact⟨ms,y.bl j,A,λi h F=>(D i h F).bl j⟩
def Ec.empty(h:Ec w v []):∃a c,v=dk a 0 c:=by obtain⟨ms,i,j,y⟩:=h;have:ms=[]:=aW.1 j;subst this;exact i.empty
def Ec.some{i:List (List Int)}(h:Ec w v i)(L:0<i.length):∃b o c,v=dk (some (U b o)) i.length c/\b<w.heap.size/\∀j,(h:j<i.length)->∃m,w.cell? (U b (o+j))=some m/\Sl w m (i[j].map I):=by
 obtain⟨ms,y,A,D⟩:=h;obtain⟨M,P,rfl,Q⟩|⟨b,o,c,rfl,F,H⟩:=y
 .simp_all
 exact⟨b,o,c,qz A,F,λj T=>⟨ms[j],H j C,D j _ _⟩⟩
def pZ(L:List (List Int))(x:Int):Bool:=L.any λc=>decide (x∈c)
def qa(L:List (List Int))(x:Int):Bool:=L.any λc=>decide (x∈c)&&decide (c.length=1)
def E6(L:List (List Int))(x)(k)(h:k<L.length):pZ (L.take (k+1)) x=(pZ (L.take k) x||decide (x∈L[k])):=by unfold pZ;rw[aM h,fB];simp
def EA(L:List (List Int))(x)(k)(h:k<L.length):qa (L.take (k+1)) x=(qa (L.take k) x||(decide (x∈L[k])&&decide (L[k].length=1))):=by unfold qa;rw[aM h,fB];simp
def mV(L:List (List Int))(x:Int):Int:=if pZ L x=false then 3 else if qa L x=true then 4 else 0
theorem uJ(v)(L)(x)(w)(H:Ec w v L)(hn:L.length<=1000)(Z:∀c∈L,c.length<=1000):ib 217 #[v,I x] w λe w'=>e=gG (I (mV L x))/\w'=w:=by
 by_cases h0:L.length=0
 .have M:L=[]:=aW.1 h0;subst M;obtain⟨a,c,rfl⟩:=H.empty;go_enter func217,ntmps217;go_wp2;refine Z6 1 ?_;rw[ZZ];go_wp2;go_ret;exact⟨rfl,rfl⟩
 obtain⟨b,o,c,rfl,hb,hc⟩:=H.some C;clear H;go_enter func217,ntmps217;go_wp2;go_loop[5,6,12] (λs l i=>∃k:Nat,k<=L.length/\i=I k/\s=.bool (pZ (L.take k) x)/\l=.bool (qa (L.take k) x)) λ_ _ i=>L.length-(Go.RowKit.intOf i).toNat
 case atStart=>exact⟨0,jd,rfl,rfl,rfl⟩
 obtain⟨k,hk,rfl,rfl,rfl⟩:=hrel;by_cases F:k<L.length
 .obtain⟨m,hm,j⟩:=hc k F;have M:=Z _ (aL F);have H1:=E6 L x k F;have H2:=EA L x k F;obtain⟨s',y⟩:=dS (pZ (L.take (k+1)) x);obtain⟨l',A⟩:=dS (qa (L.take (k+1)) x);rw[y]at H1;rw[A]at H2;have HS:Hid (pZ (L.take (k+1)) x=s'):=y;have HL:Hid (qa (L.take (k+1)) x=l'):=A;clear y A;obtain⟨a,c',D⟩:=j.len;simp only[ay]at D;have P:Hid (Sl w m (L[k].map I)):=j;generalize Q:L[k]=ch at*;clear Q hc j Z;subst D;generalize pZ (L.take k) x=T at*;generalize qa (L.take k) x=Y at*;have hd:((ch.length:Int)==1)=decide (ch.length=1):=by
   by_cases h:ch.length=1
   .simp[h]
   simp[h];omega
  generalize decide (ch.length=1)=q1 at*;go_wp2_with fail;refine(BC _ ch x _ P M).L ?_;generalize decide (x∈ch)=q0 at*;rintro e w'⟨rfl,rfl⟩;subst H1 H2
  cases T<;>cases Y<;>cases q0<;>cases q1;all_goals
   go_wp2;go_round
   case rel=>exact⟨k+1,C,gX,by rw[HS.o];rfl,by rw[HL.o];rfl⟩
   exact gW
 have ht:L.take k=L:=bI C;rw[ht];have hl:Hid (mV L x=if pZ L x=false then 3 else if qa L x=true then 4 else 0):=rfl;generalize pZ L x=T at*;generalize qa L x=Y at*
 cases T<;>cases Y;all_goals
  go_wp2;go_ret;refine⟨?_,rfl⟩;rw[hl.o];rfl
def Tryz.Gz:(prog.info? 24).map (λi=>(i.zero,i.size,i.bytes))=some (some OO,1,24):=rfl
structure lS(base:Nat)(w:World)(g n:Nat)(ms:List Value)(R:List (List Int)):Prop where
 gZ:w.ownsRow base 24 1 (.slice (G g) n n) n ms
 len:R.length=n
 row:∀i (h:i<ms.length) (h':i<R.length),w.ownsRow base 3 1 ms[i] R[i].length (R[i].map I)
 lM:∀i j (hi:i<ms.length) (hj:j<ms.length) b,i≠j->ms[i].ownBlock=some b->ms[j].ownBlock≠some b
def lS.xH{base:Nat}(h:lS base w g n ms R):ms.length=n:=by have:=h.gZ.1;omega
def lS.TO{base:Nat}(h:lS base w g n ms R):Ec w (dk (G g) n n) R:=
 ⟨ms,iC h.gZ,by rw[h.xH,h.len],λi y j=>iC (h.row i y j)⟩
def lS.only{base:Nat}(h:lS base w g n ms R)(D:bz S w w')(F:∀b,base<=b->b<w.heap.size->¬S b):lS base w' g n ms R:=
 ⟨D.iJ h.gZ λb y=>F b (h.gZ.lt b y).1 (h.gZ.lt b y).2,h.len,λi A j=>D.iJ (h.row i A j) λb y=>F b ((h.row i A j).lt b y).1 ((h.row i A j).lt b y).2,h.lM⟩
def lS.bl{base:Nat}(h:lS base w g n ms R)(i:Bl w w'):lS base w' g n ms R:=
 h.only (bz.E i) λ_ _ _ e=>e
def lS.push{base:Nat}(h:lS base w g n ms R)(hk:k<n)(F:k<ms.length)(a2:k<R.length){H c:Nat}(hg:w.grownBy w1 ms[k].ownBlock)(hv:ms[k].ownBlock=some H\/w.heap.size<=H)(ho:w1.ownsRow base 3 1 (dk (G H) (R[k].length+1) c) (R[k].length+1) (R[k].map I++[I x])):lS base (w1.setCell (U g k) (dk (G H) (R[k].length+1) c)) g n (ms.set k (dk (G H) (R[k].length+1) c)) (R.set k (R[k]++[x])):=by
 have D:=bz.B hg;have A:w1.ownsRow base 24 1 (dk (G g) n n) n ms:=D.iJ h.gZ λb y e=>j6 h.gZ (h.row k F a2) au b y e.symm;obtain⟨a3,a4⟩:=A.stored k (dk (G H) (R[k].length+1) c);have Q:=bz.B a4;have Y:∀b,(dk (G H) (R[k].length+1) c).ownBlock=some b->¬some b=some g:=by intro b y e;exact j6 ho A au b y (by simp[Value.ownBlock];simpa using e.symm)
 refine⟨a3,by simpa using h.len,λi Z a0=>?_,λi j Z hj b T y=>?_⟩
 .simp only[bK]at Z a0;by_cases L:i=k
  .subst L;simp only[cA];have:=Q.iJ ho λb y=>Y b y;simpa using this
  rw[cC C,cC C];have hr:=h.row i Z a0;have a1:=D.iJ hr λb y e=>h.lM i k Z F b L y e.symm;exact Q.iJ a1 λb y e=>j6 a1 A au b y (by simp[Value.ownBlock];simpa using e.symm)
 have M:i<ms.length:=by simpa using Z
 have P:j<ms.length:=iG hj;by_cases L:i=k
 .subst L;rw[cA]at y;rw[cC C];simp[Value.ownBlock]at y;subst y;intro e;obtain hv|hv:=hv
  .exact h.lM i j F P H T hv e
  have:=(h.row j P (by rw[h.len,<-h.xH];exact P)).lt _ e;omega
 rw[cC C]at y;by_cases a5:j=k
 .subst a5;rw[cA];intro e;simp[Value.ownBlock]at e;subst e;obtain hv|hv:=hv
  .exact h.lM i j M F H T y hv
  have:=(h.row i M (by rw[h.len,<-h.xH];exact M)).lt _ y;omega
 rw[cC C];exact h.lM i j M P b T y
def qI(x u:Int):Bool:=decide (x=-1)||decide (u≠x)
def rm(x:Int)(c:List Int):List Int:=c.filter (qI x)
def pw(x:Int)(L:List (List Int))(k:Nat):List (List Int):=L.mapIdx λi c=>if i<k then rm x c else []
def My(h:qI x u=true):(x==-1)=true\/((x==-1)=false/\(u !=x)=true):=by simp[qI]at h|-;omega
def PR(h:qI x u=false):(x==-1)=false/\(u !=x)=false:=by simp[qI]at h|-;omega
def MM(x)(L)(k):(pw x L k).length=L.length:=by simp[pw]
def Kj(x)(L):pw x L 0=List.replicate L.length []:=by
 apply eP
 .simp[pw]
 intro i j y;simp[pw]
def Nn(x)(L):pw x L L.length=L.map (rm x):=by
 apply eP
 .simp[pw]
 intro i y j;simp at j;simp[pw,j]
def Fv(x)(L)(k):(pw x L k).set k (rm x [])=pw x L k:=by
 apply eP
 .simp
 intro i j y;rw[List.getElem_set];split
 .rename_i e;subst e;simp[pw,rm]
 rfl
def KV(x)(L)(k)(h:k<L.length):(pw x L k).set k (rm x L[k])=pw x L (k+1):=by
 apply eP
 .simp[pw]
 intro i j y;rw[List.getElem_set];split
 .rename_i e;subst e;simp[pw]
 rename_i e;simp only[pw,List.getElem_mapIdx];by_cases l:i<k
 .rw[aE l,aE C]
 rw[az l,az C]
def Dl(x)(c:List Int)(k)(h:k<c.length)(i:qI x c[k]=true):rm x (c.take (k+1))=rm x (c.take k)++[c[k]]:=by unfold rm;rw[aM h,cz];simp[i]
def GN(x)(c:List Int)(k)(h:k<c.length)(i:qI x c[k]=false):rm x (c.take (k+1))=rm x (c.take k):=by unfold rm;rw[aM h,cz];simp[i]
def SL(x)(c:List Int)(k):(rm x (c.take k)).length<=k:=aF (bF _ _) gM
def lS.Cr{base:Nat}(h:w.ownsRow base 24 1 (dk (G g) n n) n (List.replicate n OO)):lS base w g n (List.replicate n OO) (List.replicate n []):=
 ⟨h,aq,λi y A=>by simpa using mC,λi j y F b _ D=>mX D⟩
def lS.CW{wr:World}(h:lS w.heap.size wr g n ms R)(M:Bl w wr)(Y:k<n)(y:k<ms.length)(A:k<R.length){mk:Value}(P:ms[k]=mk)(Q:R[k]=rr){D c:Nat}{o:Obj}(T:(wr.alloc o).grownBy w1 mk.ownBlock)(Z:mk.ownBlock=some D\/D=wr.heap.size+1)(ho:w1.ownsRow w.heap.size 3 1 (dk (G D) (rr.length+1) c) (rr.length+1) (rr.map I++[I x])):w1.cell? (U g k)=some mk/\w1.frozen? (U g k)=false/\lS w.heap.size (w1.setCell (U g k) (dk (G D) (rr.length+1) c)) g n (ms.set k (dk (G D) (rr.length+1) c)) (R.set k (rr++[x]))/\Bl w (w1.setCell (U g k) (dk (G D) (rr.length+1) c)):=by
 subst P Q;have L:lS w.heap.size (wr.alloc o) g n ms R:=h.bl (jo.alloc _);have i:=bz.B T;have j:w1.ownsRow w.heap.size 24 1 (dk (G g) n n) n ms:=i.iJ L.gZ λb F e=>j6 L.gZ (L.row k y A) au b F e.symm;have iV:=h.gZ.lt g rfl;have H:∀b,ms[k].ownBlock=some b->w.heap.size<=b:=λb F=>((h.row k y A).lt b F).1;refine⟨?_,j.frozenAt k,L.push Y y A T (Z.imp id λe=>gM) ho,?_⟩
 .rw[j.cellAt k C,ah y]
 have b1:Bl w w1:=(M.alloc o).B i λb F=>H b F.symm;exact ZY b1 iV.1 _
theorem E8(v)(L)(x)(w)(hv:Ec w v L)(hn:L.length<=1000)(hs:∀c∈L,c.length<=1000):ib 218 #[v,I x] w λe w'=>∃g ms,e=gG (dk (G g) L.length L.length)/\Bl w w'/\lS w.heap.size w' g L.length ms (L.map (rm x)):=by
 obtain⟨a4,hi,D,ab,av⟩:=fx Tryz.Gz;obtain⟨i3,ji,aw,b0,b2⟩:=fx Tryz.sU;by_cases h0:L.length=0
 .have hz:L=[]:=aW.1 h0;subst hz;obtain⟨a,c,rfl⟩:=hv.empty;go_enter func218,ntmps218;go_wp2_with(at_make;refine wpList_make_full _ rfl _ _ 89 rfl w.heap.size 24 a4 _ 1 underlying89 hi D ab _ _ _ _ 0 rfl rfl aq aq C (by unfold maxLen;omega) aq ?_);intro w1 M A;go_wp2;refine Z6 1 ?_;rw[ZZ];go_wp2;go_ret;have y:Bl w w1:=(bz.B A).qp aq;exact⟨_,_,rfl,y,lS.Cr (by simpa [toList_madeCells_one]using M)⟩
 obtain⟨b,o,c,rfl,hb,hc⟩:=hv.some C;clear hv;have a5:Hid (a4.bytes*L.length<=281474976710656):=by rw[av];unfold Hid;omega
 have F:Hid (L.length<=maxLen):=mQ;go_enter func218,ntmps218;go_wp2_with(at_make;refine wpList_make_full _ rfl _ _ 89 rfl w.heap.size 24 a4 _ 1 underlying89 hi D ab _ _ _ _ L.length rfl rfl rfl rfl a5 F aq ?_);intro w1 M A;have y:Bl w w1:=(bz.B A).qp aq;have R0:lS w.heap.size w1 w.heap.size L.length _ _:=lS.Cr (by simpa [toList_madeCells_one]using M);clear M A;go_wp2;go_loopw[15](λi wr=>∃(k:Nat) (ms:List Value),k<=L.length/\i=I k/\Bl w wr/\lS w.heap.size wr w.heap.size L.length ms (pw x L k)) λi _=>L.length-(Go.RowKit.intOf i).toNat
 case atStart=>exact⟨0,_,jd,rfl,y,by rw[Kj];exact R0⟩
 clear y R0;obtain⟨k,ms,hk,rfl,y,R⟩:=hrel;by_cases iV:k<L.length
 .obtain⟨m,hm,F⟩:=hc k iV;have hz:=hs _ (aL iV);have a6:=(y.cell hb).H hm;have HL:Hid ((pw x L k).set k (rm x L[k])=pw x L (k+1)):=KV x L k iV;have b3:Hid ((pw x L k).length=L.length):=MM x L k;have R:lS w.heap.size wr w.heap.size L.length ms ((pw x L k).set k (rm x (L[k].take 0))):=by rw[eE,Fv];exact R
  obtain⟨a,c',ac⟩:=F.len;simp only[ay]at ac;have ad:Hid (Sl w m (L[k].map I)):=F;generalize L[k]=ch at*;clear hm F hs hc;subst ac;go_wp2;go_loopw[22](λi wx=>∃(j:Nat) (ms:List Value),j<=ch.length/\i=I j/\Bl w wx/\lS w.heap.size wx w.heap.size L.length ms ((pw x L k).set k (rm x (ch.take j)))) λi _=>ch.length-(Go.RowKit.intOf i).toNat
  case atStart=>exact⟨0,_,jd,rfl,y,R⟩
  clear R y a6;obtain⟨j,ms,hj,rfl,y,R⟩:=hrel;by_cases P:j<ch.length
  .cases Q:qI x ch[j]
   .have b4:=PR Q;have a1:Hid (rm x (ch.take (j+1))=rm x (ch.take j)):=GN x ch j P Q;obtain⟨ag,b5⟩:=b4;clear Q;obtain⟨a9,c9,b6,D⟩|⟨b1,o1,c1,Y,a7,T⟩:=ad.o
    .simp at D;simp[D]at P
    have a2:=(y.cell a7).H (T j (iG P));simp only[dC]at a2;simp only[bO]at Y;obtain⟨rfl,a8,rfl⟩:=Y;clear a8;clear T;have HR:Hid (lS w.heap.size wr w.heap.size L.length ms ((pw x L k).set k (rm x (ch.take (j+1))))):=jP a1.o R;clear R;go_wp2;go_roundw
    case rel=>exact⟨j+1,ms,C,gX,y,HR⟩
    exact gW
   obtain⟨a9,c9,b6,D⟩|⟨b1,o1,c1,Y,a7,T⟩:=ad.o
   .simp at D;simp[D]at P
   have a2:=(y.cell a7).H (T j (iG P));simp only[dC]at a2;simp only[bO]at Y;obtain⟨rfl,a8,rfl⟩:=Y;clear a8;clear T;have aa:k<ms.length:=by rw[R.xH];exact iV
   have ai:k<(pw x L k).length:=jP b3.o iV;have ak:=R.gZ.cellAt k C;rw[ah aa]at ak;have Z:=R.row k aa (iG ai);simp only[cA]at Z;generalize al:ms[k]=mk at*;have am:=(show Hid (ms[k]=mk)from al);clear al;have HR:Hid (lS w.heap.size wr w.heap.size L.length ms ((pw x L k).set k (rm x (ch.take j)))):=R;have a3:Hid (wr.ownsRow w.heap.size 3 1 mk (rm x (ch.take j)).length ((rm x (ch.take j)).map I)):=Z;have bb:=SL x ch j;clear R Z;generalize an:rm x (ch.take j)=rr at*;have ap:=(show Hid (rm x (ch.take j)=rr)from an);clear an;have bc:=y.lt;have a1:Hid (rm x (ch.take (j+1))=rr++[ch[j]]):=by rw[<-ap.o];exact Dl x ch j P Q
   have a5:Hid ((rr.length+1)*8<=140737488355328):=lQ;have F:Hid (rr.length+1<=maxLen):=mQ;have b7:=My Q;clear Q;obtain ag|⟨ag,b5⟩:=b7;all_goals
    go_wp2_with(at_builtin;refine fm _ rfl _ _ 24 rfl w.heap.size 3 i3 (I 0) 1 8 underlying24 ji aw b0 b2 rfl au mk rr.length _ rfl (a3.alloc _) (U wr.heap.size 0) 1 1 [I ch[j]] rfl rfl (ZV _ _ _) qR au F a5 gM (wr.heap.size+1) aq ?_);intro g' cap w1 a0 A ar bd;have HP:=HR.CW y iV aa (iG ai) am aq A ar a0;obtain⟨T,be,R1,b1⟩:=HP;rw[fk,<-a1.o]at R1;have b8:=(show Hid _ from R1);have b9:=(show Hid _ from b1);clear a0 A ar HR a3 R1 b1 a1 am ap ak a2;go_wp2;go_roundw
    case rel=>exact⟨j+1,_,C,gX,b9,b8⟩
    exact gW
  have R2:lS w.heap.size wr w.heap.size L.length ms (pw x L (k+1)):=by have:=R;rwa[bI C,HL.o]at this
  clear R;go_wp2;go_roundw
  case rel=>exact⟨k+1,ms,C,gX,y,R2⟩
  exact gW
 have ba:k=L.length:=C;subst ba;rw[Nn]at R;go_wp2;go_ret;exact⟨_,_,rfl,y,R⟩
def T9:Keyed prog 3:=int_keyed underlying3
def Rr(w):(zeroValue 346).run prog w=.ok (.agg #[]) w:=rfl
def Sd (zs:List Int):DataW Unit:=setOf (.agg []) (zs.map (Lit.int .i64))
def SQ:Sd []=.map []:=rfl
def Ra(zs)(x):Sd (zs++[x])=(Sd zs).put (.int .i64 x) (.agg []):=by unfold Sd;rw[aZ,List.map_singleton,setOf_snoc]
theorem IA(x):∀l:List Int,l.any ((λy:Lit=>y.sameKey (.int .i64 x))∘Lit.int .i64)=decide (x∈l)
 |[]=>rfl
 |a::r=>by
  rw[eM,IA x r];show(decide (IntKind.i64=IntKind.i64/\a=x)||decide (x∈r))=_;by_cases e:a=x
  .subst e;simp
  have i:¬x=a:=λh=>e h.symm;simp_all
def TD(zs)(x):Maps.has (Sd zs) (.int .i64 x)=decide (x∈zs):=by unfold Sd;rw[has_setOf _ _ _ λy i=>by obtain⟨_,_,rfl⟩:=aD.1 i;trivial,fY];exact IA x _
structure qS(w:World)(p b:Nat)(zs:List Int):Prop where
 gZ:w.ownsMap prog 3 (unitElem (H:=Unit)) b zs.length (Sd zs)
 var:w.cell? (U p 0)=some (.map (some b))
 lt:p<w.heap.size
 VV:b<w.heap.size
def rQ(zs:List Int):Prop:=∀z∈zs,(Lit.int .i64 z).wf=true
def qS.bl{b:Nat}(h:qS w p b zs)(i:Bl w w'):qS w' p b zs:=⟨(h.gZ.kept (row:=none) ⟨i.os,i.tape,i.output,i.size,λk j _=>i.block k j⟩ aq),(i.cell h.lt).H h.var,af h.lt i.lt,af h.VV i.lt⟩
theorem vq(u)(p b)(zs)(w)(h:qS w p b zs)(j:(Lit.int .i64 u).wf=true):ib 255 #[.int .i64 u,.pointer (some ⟨p,0,none⟩)] w λe w'=>e=gG (.bool (decide (u∈zs)))/\Bl w w':=by
 have y:=h.var;have i:keyOf prog 3 (.int .i64 u)=some (.int .i64 u):=keyOf_int_mk underlying3 j;have A:=TD zs u;go_enter func255,ntmps255;go_wp2_with(at_lookup;refine wpList_lookup_own_unit _ rfl _ _ 345 rfl 3 346 T9 underlying345 (Rr _) b zs.length _ rfl h.gZ _ _ rfl i ?_);go_ret;exact⟨rfl,jo.alloc _⟩
theorem Ai(v)(us)(p b)(zs)(w)(hv:Sl w v (us.map I))(h:qS w p b zs)(hu:rQ us)(hs:us.length<=1000):ib 283 #[v,.func (.func 255) #[] #[O p]] w λe w'=>∃n:Int,e=gG (I n)/\(0<=n↔∃u∈us,u∈zs)/\Bl w w':=by
 by_cases h0:us.length=0
 .have Q:us=[]:=aW.1 h0;subst Q;obtain⟨a,c,rfl⟩:=hv.empty;go_enter func283,ntmps283;go_wp2;refine Z6 1 ?_;rw[ZZ];go_wp2;go_ret;exact⟨_,rfl,aq,jo⟩
 obtain⟨a9,c9,rfl,Q⟩|⟨b1,o,c,rfl,hb,hc⟩:=hv
 .simp at Q;simp[Q]at h0
 simp only[ay]at hc|-;have Hs:Hid (qS w p b zs):=h;clear h;go_enter func283,ntmps283;go_wp2;go_loopw[8](λi wr=>∃k:Nat,k<=us.length/\i=I k/\Bl w wr/\∀u∈us.take k,¬u∈zs) λi _=>us.length-(Go.RowKit.intOf i).toNat
 case atStart=>exact⟨0,jd,rfl,jo,aq⟩
 obtain⟨k,hk,rfl,j,F⟩:=hrel;by_cases Y:k<us.length
 .have M:=(j.cell hb).H (hc k Y);simp only[dC]at M;have T:=hu _ (aL Y);have P:Hid (∀u∈us.take k,¬u∈zs):=F;have a1:Hid (rQ us):=hu;clear hc F hu;have Hm:Hid (us[k]∈us):=aL Y;have Ht:Hid (us.take (k+1)=us.take k++[us[k]]):=aM Y;generalize us[k]=u at*;by_cases A:u∈zs
  .have Z:decide (u∈zs)=true:=by simpa using A
   clear A;go_wp2_with fail;refine(vq u p b zs _ (Hs.bl j) T).L ?_;rw[Z];rintro e w'⟨rfl,D⟩;go_wp2;go_ret;exact⟨_,rfl,iff_of_true C ⟨u,Hm,iG Z⟩,j.H D⟩
  have Z:decide (u∈zs)=false:=by simpa using A
  have a0:Hid (¬u∈zs):=A;clear A;go_wp2_with fail;refine(vq u p b zs _ (Hs.bl j) T).L ?_;rw[Z];rintro e w'⟨rfl,D⟩;go_wp2;go_roundw
  case rel=>
   refine⟨k+1,C,gX,j.H D,?_⟩;rw[Ht.o];intro y hy;obtain hy|hy:=aT.1 hy
   .exact P y hy
   simp at hy;subst hy;exact a0
  case measure=>exact gW
 have P:Hid (∀u∈us.take k,¬u∈zs):=F;clear F;go_wp2;go_ret;refine⟨_,rfl,iff_of_false C ?_,j⟩;rintro⟨y,hy,Q⟩;refine P y ?_ Q;rw[bI C];exact hy
theorem qK(v)(us)(p b)(zs)(w)(y:Sl w v (us.map I))(h:qS w p b zs)(A:rQ us)(D:us.length<=1000):ib 256 #[v,.func (.func 255) #[] #[O p]] w λe w'=>e=gG (.bool (us.any λu=>decide (u∈zs)))/\Bl w w':=by
 go_enter func256,ntmps256;go_wp2_with fail;refine(Ai v us p b zs _ y h A D).L ?_;rintro e w'⟨n,rfl,j,i⟩;have F:Hid (0<=n↔∃u∈us,u∈zs):=j;clear j;go_wp2;go_ret;refine⟨kG ?_,i⟩;rw[dr];simpa using F.o
def Ec.len{L:List (List Int)}(h:Ec w v L):∃a c,v=dk a L.length c:=by obtain⟨ms,i,j,_⟩:=h;obtain⟨a,c,rfl⟩:=i.len;simp_all
def vk(n)(w):(Instr.makeMap 345 (some (I n))).run prog w=.ok (.map (some w.heap.size)) (w.alloc (.map #[] 0)):=rfl
theorem yM(v u)(L)(zs)(w)(hv:Ec w v L)(hu:Sl w u (zs.map (Value.int .i64)))(hn:L.length<=1000)(hs:∀c∈L,c.length<=1000/\rQ c)(hz:zs.length<=1000)(hw:rQ zs):ib 219 #[v,u] w λe w'=>e=gG (.bool (L.all λc=>c.any λu=>decide (u∈zs)))/\Bl w w':=by
 have b6:=vk;obtain⟨a1,c1,a7⟩:=hu.len;simp only[ay]at a7;obtain⟨a2,c2,a0⟩:=hv.len;subst a7 a0;have Hu:Hid (Sl w (lI a1 zs c1) (zs.map (Value.int .i64))):=hu;have Hv:Hid (Ec w (lI a2 L c2) L):=hv;have Hw:Hid (rQ zs):=hw;have HL:Hid (∀c∈L,c.length<=1000/\rQ c):=hs;clear hu hv hw hs;go_enter func219,ntmps219;go_wp2;go_loopw[16](λi wr=>∃k:Nat,k<=zs.length/\i=.int .i64 k/\Bl w wr/\qS wr (w.heap.size+1) w.heap.size (zs.take k)) λi _=>zs.length-(Go.RowKit.intOf i).toNat
 case atStart=>refine⟨0,jd,rfl,(jo.alloc _).alloc _,?_⟩;rw[eE];refine⟨?_,aq,aq,gM⟩;rw[SQ];exact(World.ownsMap_made _ _ _ _).alloc _
 case round=>
  obtain⟨k,hk,rfl,y,Z⟩:=hrel;by_cases iV:k<zs.length
  .obtain⟨a9,c9,b7,a8⟩|⟨b1,o1,b8,a0,ar,aa⟩:=Hu.o
   .simp at a8;simp[a8]at iV
   have ab:=(y.cell ar).H (aa k (iG iV));simp only[dC]at ab;simp only[bO]at a0;obtain⟨rfl,a6,rfl⟩:=a0;clear a6 aa;have av:=Hw _ (aL iV);have ac:keyOf prog 3 (.int .i64 zs[k])=some (.int .i64 zs[k]):=keyOf_int_mk underlying3 av;have b5:=Z.var;have a3:=Z.gZ;have aw:Hid ((zs.take k).length<maxLen):=by unfold Hid maxLen;simp;omega
   have b9:=y.lt;have Q:Hid (qS wr (w.heap.size+1) w.heap.size (zs.take k)):=Z;have Ht:Hid (zs.take (k+1)=zs.take k++[zs[k]]):=aM iV;clear Z;generalize zs[k]=x at*;generalize b0:zs.take k=ys at*;clear b0;have T:Hid (wr.ownsMap prog 3 (unitElem (H:=Unit)) w.heap.size ys.length (Sd ys)):=a3;clear a3;go_wp2_with(at_mapUpdate;refine wpList_mapUpdate_own _ rfl _ _ _ 345 rfl 3 346 T9 underlying345 (unitElem (H:=Unit)) w.heap.size ys.length _ rfl T aw _ _ _ rfl rfl ac _ [] unitElem_mk ?_);intro w1 Y j;have ad:Hid (Bl w w1):=y.B (bz.B j) (λn hn=>by cases hn;exact jc);have b3:Hid (qS w1 (w.heap.size+1) w.heap.size (zs.take (k+1))):=by have h1:=Q.lt;have h2:=Q.VV;refine⟨?_,((bz.B j).cell h1 aq).H Q.var,af h1 j.size,af h2 j.size⟩;rw[Ht.o,Ra,aO];exact Y
   clear Y j T Q Ht y;go_wp2;go_roundw
   case rel=>exact⟨k+1,C,gX,ad,b3⟩
   exact gW
  have ht:zs.take k=zs:=bI C;rw[ht]at Z;have Q:Hid (qS wr (w.heap.size+1) w.heap.size zs):=Z;have Hb:Hid (Bl w wr):=y;clear Z y ht;go_wp2;rename_i wx;go_loopw[27](λi wr=>∃k:Nat,k<=L.length/\i=.int .i64 k/\Bl w wr/\qS wr (w.heap.size+1) w.heap.size zs/\((L.take k).all λc=>c.any λu=>decide (u∈zs))=true) λi _=>L.length-(Go.RowKit.intOf i).toNat
  case atStart=>exact⟨0,jd,rfl,Hb,Q,aq⟩
  clear Q Hb;obtain⟨m,hm,rfl,y,Z,a4⟩:=hrel;have Q:Hid (qS wr (w.heap.size+1) w.heap.size zs):=Z;have a5:Hid (((L.take m).all λc=>c.any λu=>decide (u∈zs))=true):=a4;clear Z a4;by_cases D:m<L.length
  .obtain⟨b2,o2,ba,ag,b4,ai⟩:=Hv.some C;obtain⟨mv,ak,al⟩:=ai m D;have ab:=(y.cell b4).H ak;simp only[bO]at ag;obtain⟨rfl,a6,rfl⟩:=ag;clear a6 ai ak;have am:=HL _ (aL D);have an:Hid (Sl wr mv (L[m].map (Value.int .i64))):=al.bl y;have F:=(show Hid _ from am);have Ht:Hid (L.take (m+1)=L.take m++[L[m]]):=aM D;have ap:Hid (L[m]∈L):=aL D;clear am al;generalize L[m]=ch at*
   cases M:(ch.any λu=>decide (u∈zs))
   .have A:=(show Hid _ from M);clear M;go_wp2_with fail;refine(qK mv ch _ _ zs _ an Q F.2 F.1).L ?_;rw[A.o];rintro e w'⟨rfl,P⟩;go_wp2;go_ret;refine⟨kG ?_,y.H P⟩
    symm
    rw[List.all_eq_false];exact⟨ch,ap,nI A.o⟩
   have A:=(show Hid _ from M);clear M;go_wp2_with fail;refine(qK mv ch _ _ zs _ an Q F.2 F.1).L ?_;rw[A.o];rintro e w'⟨rfl,P⟩;go_wp2;go_roundw
   case rel=>refine⟨m+1,C,gX,y.H P,Q.bl P,?_⟩;rw[Ht.o,List.all_append,a5.o,List.all_cons,A.o];rfl
   case measure=>exact gW
  go_wp2;go_ret;refine⟨kG ?_,y⟩;have:=a5.o;rw[bI C]at this;exact this.symm
def pN(L:List (List Int))(zs:List Int):Bool:=L.all λc=>c.any λu=>decide (u∈zs)
def vw(L:List (List Int))(x:Int)(zs:List Int):Int:=
 if x≠-1/\mV L x≠0 then mV L x else if pN (L.map (rm x)) zs=true then 0 else 5
def Ch(L:List (List Int))(x:Int)(zs:List Int):List (List Int):=if vw L x zs=0 then L.map (rm x)else []
def VF(base:Nat)(w:World)(r:Value)(R:List (List Int)):Prop:=
 (r= OO/\R=[])\/∃g n ms,r=.slice (G g) n n/\lS base w g n ms R
def SF(L)(x):mV L x=3\/mV L x=4\/mV L x=0:=by unfold mV;split;exact .inl rfl;split;exact .inr (.inl rfl);exact .inr (.inr rfl)
def Un{c:List Int}(h:rQ c)(x):rQ (rm x c):=λz i=>h z (aU.1 i).1
def UA(x)(c):(rm x c).length<=c.length:=bF _ _
theorem Ey(v u)(L)(x)(zs)(w)(hv:Ec w v L)(hu:Sl w u (zs.map I))(Q:L.length<=1000)(hs:∀c∈L,c.length<=1000/\rQ c)(hz:zs.length<=1000)(hw:rQ zs):ib 164 #[v,I x,u] w λe w'=>∃r,e=gG (.tuple #[r,I (vw L x zs)])/\Bl w w'/\VF w.heap.size w' r (Ch L x zs):=by
 have M:∀c∈L,c.length<=1000:=λc hc=>(hs c hc).1;by_cases D:x≠-1/\mV L x≠0
 .have hx:(x !=-1)=true:=by simpa using D.1
  have j:vw L x zs=mV L x:=by simp[vw,D]
  have T:Ch L x zs=[]:=by simp[Ch,j,D.2]
  have hl:(mV L x !=0)=true:=iG D.2;rw[j,T];clear D j T;generalize hq:mV L x=q at*;have Hq:=(show Hid _ from hq);clear hq;go_enter func164,ntmps164;go_wp2_with fail;refine(uJ v L x _ hv Q M).L ?_;rw[Hq.o];rintro e w'⟨rfl,rfl⟩;go_wp2;go_ret2;exact⟨_,rfl,jo,.inl ⟨rfl,rfl⟩⟩
 .have j:vw L x zs=if pN (L.map (rm x)) zs=true then 0 else 5:=by simp only[vw,az D]
  have F:∀w1,Bl w w1->ib 218 #[v,I x] w1 λe w'=>∃g ms,e=gG (dk (G g) L.length L.length)/\Bl w1 w'/\lS w1.heap.size w' g L.length ms (L.map (rm x)):=λw1 hb=>E8 v L x w1 (hv.bl hb) Q M;have Y:=(show Hid _ from F);have P:=(show Hid _ from j);clear F j;have Z:(L.map (rm x)).length<=1000:=iG Q;have a2:Hid (∀c∈L.map (rm x),c.length<=1000/\rQ c):=by intro c hc;obtain⟨d,hd,rfl⟩:=aD.1 hc;exact⟨aF (UA x d) (hs d hd).1,Un (hs d hd).2 x⟩
  cases i:pN (L.map (rm x)) zs
  case' false=>
   have H:Hid (((L.map (rm x)).all λc=>c.any λu=>decide (u∈zs))=false):=i;have y:Hid (vw L x zs=5/\Ch L x zs=[]):=by
    have h5:vw L x zs=5:=by rw[P.o,i];simp
    exact⟨h5,by simp[Ch,h5]⟩
  case' true=>
   have H:Hid (((L.map (rm x)).all λc=>c.any λu=>decide (u∈zs))=true):=i;have y:Hid (vw L x zs=0/\Ch L x zs=L.map (rm x)):=by
    have h5:vw L x zs=0:=by rw[P.o,i];simp
    exact⟨h5,by simp[Ch,h5]⟩
  all_goals
   clear i P Z;by_cases A:x=-1
   case' pos=>have hx:(x !=-1)=false:=mY A;clear A D;go_enter func164,ntmps164;go_wp2_with fail
   case' neg=>
    have hx:(x !=-1)=true:=mY A;have Hl:Hid (mV L x=0):=by unfold Hid;by_cases h:mV L x=0;exact h;exact absurd ⟨A,h⟩ D
    clear A D;go_enter func164,ntmps164;go_wp2_with fail;refine(uJ v L x _ hv Q M).L ?_;rw[Hl.o];rintro e w'⟨rfl,rfl⟩;go_wp2_with fail
   all_goals
    refine(Y _ jo).L ?_;rintro e w1⟨g,ms,rfl,a0,R1⟩;have HR:=(show Hid _ from R1);clear R1;go_wp2_with fail;refine(yM _ u _ zs _ HR.TO (hu.bl a0) (iG Q) a2 hz hw).L ?_;rw[H.o];rintro e w2⟨rfl,a1⟩;go_wp2;go_ret2;exact⟨_,by rw[y.1];rfl,a0.H a1,by rw[y.2];first|exact .inl ⟨rfl,rfl⟩|exact .inr ⟨_,_,_,rfl,HR.bl a1⟩⟩
theorem rH(us:List Int)(u:Int):∀d,iL (us++[u]) d=match(iL us d).2 with
 |[]=>((iL us d).1,[])
 |x::r=>if x=u then((iL us d).1++[u],r)else((iL us d).1,x::r):=by
 induction us with
 |nil=>
  intro d
  cases d with
  |nil=>rfl
  |cons x r=>simp[iL]
 |cons v us i=>
  intro d
  cases d with
  |nil=>exact i []
  |cons x r=>
   simp only[dV,iL];by_cases h:x=v
   .rw[aE h,aE h,i];generalize iL us r=z;obtain⟨A,j⟩:=z
    cases j with
    |nil=>rfl
    |cons y j=>simp only;split<;>rfl
   simp_all
def B9{us:List Int}(h:(iL us d).2=[]):iL (us++[u]) d=((iL us d).1,[]):=by rw[rH,h]
def Fi{us:List Int}(h:(iL us d).2=u::r):iL (us++[u]) d=((iL us d).1++[u],r):=by rw[rH,h];simp
def Cb{us:List Int}(h:(iL us d).2=x::r)(i:x≠u):iL (us++[u]) d=((iL us d).1,x::r):=by rw[rH,h];simp[i]
theorem pJ:∀(us d:List Int),(iL us d).2=d.drop (iL us d).1.length/\(iL us d).1.length<=d.length/\(iL us d).1.length<=us.length
 |[],d=>by simp[iL]
 |u::us,[]=>by have:=pJ us [];simp only[iL];simp_all
 |u::us,x::d=>by
  simp only[iL];by_cases h:x=u
  .rw[aE h];have:=pJ us d;simp_all
  rw[az h];have:=pJ us (x::d);exact⟨this.1,this.2.1,aF this.2.2 aq⟩
def Dt(b o c:Nat)(d:List Int)(v:Value)(m:Nat):Prop:=
 m<=d.length/\∃ad,v=.slice ad (d.length-m) (c-m)/\(m<d.length->ad=some (U b (o+m)))
def Rd.dt{t:Nat}(h:Rd w aY t 5 v (d.map B8)):∃b o c,Dt b o c d v 0/\d.length<=c/\c<=maxLen/\(0<d.length->b<w.heap.size/\∀j x,d[j]?=some x->w.cell? (U b (o+j))=some (B8 x)):=by
 obtain⟨rfl,h⟩|⟨b,o,c,i,f,y,H,A,D,F,L⟩:=h
 .have:d=[]:=by simpa using h
  subst this;exact⟨0,0,0,⟨jd,none,rfl,λh=>lY h⟩,jd,jd,λh=>lY h⟩
 rw[ay]at y D;refine⟨b,o,c,⟨jd,_,y,λ_=>rfl⟩,D,F,λ_=>⟨(ae.1 A).1,λj x M=>?_⟩⟩;rw[ax w b _ i 5 f A];simp_all
def ET(L:List (List Int))(d)(k)(i:k<L.length):within (L.drop k) d=if(iL L[k] d).1=[]then none else(within (L.drop (k+1)) (iL L[k] d).2).map ((iL L[k] d).1::·):=by rw[cm i];rfl
def wX(base:Nat)(w:World)(n:Nat)(e:Ending):Option (List (List Int))->Prop
 |none=>e=.returned (.tuple #[OO,.bool false])
 |some R=>∃g ms,e=.returned (.tuple #[.slice (G g) n n,.bool true])/\lS base w g n ms R
theorem yi(v)(L)(dv)(d)(w)(hv:Ec w v L){t:Nat}(hd:Rd w aY t 5 dv (d.map B8))(hB:mA d)(h0:0<L.length)(hn:L.length<=1000)(hs:∀c∈L,c.length<=1000):ib 295 #[v,dv] w λe w'=>wX w.heap.size w' L.length e (within L d)/\Bl w w':=by
 obtain⟨b6,hi,a7,bB,bC⟩:=fx Tryz.Gz;obtain⟨i3,ji,bD,bE,bR⟩:=fx Tryz.sU;obtain⟨b,o,c,rfl,hb,hc⟩:=hv.some h0;obtain⟨bd,od,cd,⟨_,ad,rfl,kS⟩,cx,cP,a4⟩:=hd.dt;obtain⟨Y,hY⟩:=dS (within L d);rw[hY];obtain⟨HY,Hd,bT,bV⟩:=ju hY a4 hB kS;clear hv hd hY a4 hB kS;have ar:Hid (b6.bytes*L.length<=281474976710656):=by rw[bC];unfold Hid;omega
 have av:Hid (L.length<=maxLen):=mQ;go_enter func295,ntmps295;go_wp2_with(at_make;refine wpList_make_full _ rfl _ _ 89 rfl w.heap.size 24 b6 _ 1 underlying89 hi a7 bB _ _ _ _ L.length rfl rfl rfl rfl ar av aq ?_);intro w1 ak D;have b7:Bl w w1:=(bz.B D).qp aq;have R0:lS w.heap.size w1 w.heap.size L.length _ _:=lS.Cr (by simpa [toList_madeCells_one]using ak);obtain⟨b8,b9⟩:=fl R0 b7;clear ak D b7 R0;go_wp2;go_loopw[1,16](λx i wr=>∃(k m:Nat) (rows:List (List Int)) (ms:List Value),k<=L.length/\i=I k/\rows.length=k/\Hid (Dt bd od cd d x m)/\Hid (Y=(within (L.drop k) (d.drop m)).map (rows++·))/\Hid (Bl w wr)/\Hid (lS w.heap.size wr w.heap.size L.length ms (rows++List.replicate (L.length-k) []))) λ_ i _=>L.length-(Go.RowKit.intOf i).toNat
 case atStart=>exact⟨0,0,[],_,jd,rfl,rfl,⟨jd,ad,rfl,bV⟩,by show Y=_;rw[<-HY.o];simp,b9,b8⟩
 clear b8 b9;obtain⟨k,m,rows,ms,hk,rfl,ba,HD,HE,T,M⟩:=hrel;obtain⟨hm,bW,rfl,al⟩:=HD.o;have bb:=fu al;clear HD al;by_cases iV:k<L.length
 .obtain⟨mv,bc,aw⟩:=hc k iV;have hz:=hs _ (aL iV);have b0:=(T.cell hb).H bc;have hE:=HE.o;rw[ET L _ k iV]at hE;have HE:=fu hE;clear hE;obtain⟨a9,c9,am⟩:=aw.len;simp only[ay]at am;have bX:=fu aw;generalize L[k]=ch at*;subst am;clear bc aw hs hc;have cl:(k:Int)<(L.length:Int):=C;go_wp2;go_loopw[1,23](λx i wx=>∃(j A:Nat) (ms:List Value),j<=ch.length/\i=I j/\Hid (Dt bd od cd d x A)/\Hid ((iL (ch.take j) (d.drop m)).2=d.drop A)/\Hid (Bl w wx)/\Hid (lS w.heap.size wx w.heap.size L.length ms ((rows++List.replicate (L.length-k) []).set k (iL (ch.take j) (d.drop m)).1))) λ_ i _=>ch.length-(Go.RowKit.intOf i).toNat
  case atStart=>
   refine⟨0,m,ms,jd,rfl,⟨hm,bW,rfl,bb⟩,rfl,T,?_⟩;have e1:(rows++List.replicate (L.length-k) []).set k (iL (ch.take 0) (d.drop m)).1=rows++List.replicate (L.length-k) []:=by show List.set _ k []=_;rw[eA _ _ C,ba,dR,show L.length-k=(L.length-k-1)+1 by omega,gB];rfl
   rw[e1];exact M
  case round=>
   clear T M b0;obtain⟨j,A,ms,hj,rfl,be,HW,T,M⟩:=hrel;obtain⟨b2,cS,rfl,an⟩:=be.o;have a1:=fu an;clear be an;by_cases b3:j<ch.length
   .have cV:(j:Int)<(ch.length:Int):=C;obtain⟨a8,c8,d0,a7⟩|⟨b1,o1,c1,bg,bi,b4⟩:=bX.o
    .simp at a7;simp[a7]at b3
    have bl:=(T.cell bi).H (b4 j (iG b3));simp only[dC]at bl;simp only[bO]at bg;obtain⟨rfl,c0,rfl⟩:=bg;clear c0 b4;have a2:=aM b3;have Z:=(pJ (ch.take j) (d.drop m)).2.2;rw[bH]at Z;have d1:=af bi T.lt;by_cases P:A<d.length
    .have aa:=cm P;have hr:(iL (ch.take j) (d.drop m)).2=d[A]::d.drop (A+1):=j4 HW.o aa;obtain⟨bm,a4⟩:=Hd C;have hx:=a4 A d[A] (ah P);have c2:=bT d[A] (aL P);have bn:=(T.cell bm).H hx;have bo:=a1 P;subst bo;have cn:=af bm T.lt;have bq:(0:Int)<((d.length-A:Nat):Int):=C;simp only[B8]at bn;have c3:IntKind.i64.wrap d[A]=d[A]:=Z3 _ C;clear hx a4;by_cases he:d[A]=ch[j]
     .have Q:Hid (iL (ch.take (j+1)) (d.drop m)=((iL (ch.take j) (d.drop m)).1++[ch[j]],d.drop (A+1))):=by unfold Hid;rw[a2];exact Fi (qO he hr)
      have c4:(rows++List.replicate (L.length-k) ([]:List Int)).length=L.length:=gM;have a3:k<ms.length:=by rw[M.xH];exact iV
      have ab:k<(rows++List.replicate (L.length-k) ([]:List Int)).length:=C;have ac:=M.gZ.cellAt k C;rw[ah a3]at ac;have F:=M.row k a3 (iG ab);simp only[cA]at F;generalize ag:ms[k]=mk at*;have bs:=fu ag;clear ag a2 hr aa;have ap:=fu F;have c5:=M.gZ.lt w.heap.size rfl;generalize bv:(iL (ch.take j) (d.drop m)).1=rr at*;have d2:=fu bv;clear bv F;have ar:Hid ((rr.length+1)*8<=140737488355328):=lQ;have av:Hid (rr.length+1<=maxLen):=mQ;have co:=T.lt;rw[he]at bn c3 c2;have cp:((1:Nat):Int)<=((cd-A:Nat):Int):=C;have cq:(1:Int)<=((d.length-A:Nat):Int):=C;clear he;generalize ch[j]=y at*;go_wp2_with(at_builtin;refine fm _ rfl _ _ 24 rfl w.heap.size 3 i3 (I 0) 1 8 underlying24 ji bD bE bR rfl au mk rr.length _ rfl (ap.alloc _) (U wr.heap.size 0) 1 1 [I y] rfl rfl (ZV _ _ _) qR au av ar gM (wr.heap.size+1) aq ?_);intro g' cap w1 a5 D bw cr;have HP:=M.CW T iV a3 (iG ab) bs aq D bw a5;obtain⟨b4,d3,R1,b1⟩:=HP;rw[fk]at R1;obtain⟨c6,c7⟩:=fl R1 b1;clear a5 D bw M ap R1 b1 bs ac bl;go_wp2;refine⟨⟨j+1,A+1,_,C,aq,⟨C,_,by rw[fs,fs],λh=>by rw[az C,cG]⟩,by rw[Q.o];rfl,c7,jP Q.o c6⟩,gW⟩
     have Q:Hid (iL (ch.take (j+1)) (d.drop m)=((iL (ch.take j) (d.drop m)).1,d[A]::d.drop (A+1))):=by unfold Hid;rw[a2];exact Cb hr he
     have ca:=fu aa;clear a2 hr aa Z;generalize ch[j]=y at*;generalize d[A]=x at*;have d4:(x==y)=false:=iG he;go_wp2;go_roundw
     case rel=>exact⟨j+1,A,ms,C,gX,⟨b2,_,rfl,a1⟩,by rw[Q.o];exact ca.symm,T,jP Q.o M⟩
     exact gW
    have cb:¬(0:Int)<((d.length-A:Nat):Int):=C;have hr:(iL (ch.take j) (d.drop m)).2=[]:=by rw[HW.o];exact eo C
    have Q:Hid (iL (ch.take (j+1)) (d.drop m)=((iL (ch.take j) (d.drop m)).1,[])):=by unfold Hid;rw[a2];exact B9 hr
    have Hr:=fu hr;clear a2 hr Z;go_wp2;go_roundw
    case rel=>exact⟨j+1,A,ms,C,gX,⟨b2,_,rfl,a1⟩,by rw[Q.o,<-HW.o,Hr.o];rfl,T,jP Q.o M⟩
    exact gW
   have cc:j=ch.length:=C;subst cc;have ce:¬(ch.length:Int)<(ch.length:Int):=C;rw[bZ]at HW M;have c4:(rows++List.replicate (L.length-k) ([]:List Int)).length=L.length:=gM;have a3:k<ms.length:=by rw[M.xH];exact iV
   have ab:k<(rows++List.replicate (L.length-k) ([]:List Int)).length:=C;have ac:=M.gZ.cellAt k C;rw[ah a3]at ac;have F:=M.row k a3 (iG ab);simp only[cA]at F;have c5:=M.gZ.lt w.heap.size rfl;generalize ag:ms[k]=mk at*;obtain⟨ma,mc,rfl⟩:=ja F;clear F ag;have a0:=HE.o;rw[HW.o]at a0;generalize (iL ch (d.drop m)).1=rr at*;by_cases ai:rr=[]
   .rw[aE ai]at a0;have cf:=fu a0;subst ai;clear HE a0 HW;go_wp2;go_ret2;rw[cf.o];exact⟨rfl,T⟩
   rw[az ai]at a0;have bA:¬((rr.length:Nat):Int)=0:=by intro e;exact ai (aW.1 C)
   have ct:(((rr.length:Nat):Int)==0)=false:=iG bA;have cg:Hid (Y=(within (L.drop (k+1)) (d.drop A)).map ((rows++[rr])++·)):=by
    unfold Hid;rw[a0]
    cases within (L.drop (k+1)) (d.drop A)<;>simp
   have ci:Hid (lS w.heap.size wr w.heap.size L.length ms ((rows++[rr])++List.replicate (L.length-(k+1)) [])):=by
    have e1:(rows++List.replicate (L.length-k) []).set k rr=(rows++[rr])++List.replicate (L.length-(k+1)) []:=by rw[eA _ _ C,ba,dR,show L.length-k=(L.length-(k+1))+1 by omega,gB];simp
    unfold Hid;rw[<-e1];exact M
   clear HE a0 HW M;go_wp2;go_roundw
   case rel=>exact⟨k+1,A,rows++[rr],ms,C,gX,gM,⟨b2,_,rfl,a1⟩,cg,T,ci⟩
   exact gW
 have ck:k=L.length:=C;subst ck;have ce:¬(L.length:Int)<(L.length:Int):=C;have hE:=HE.o;rw[eQ]at hE;rw[dR,List.replicate_zero,cF]at M;by_cases P:m<d.length
 .have bq:(0:Int)<((d.length-m:Nat):Int):=C;have a6:Y=none:=by rw[hE];unfold within;rw[az (by intro e;have:=Z5 List.length e;simp at this;omega)];rfl
  have b5:=fu a6;clear hE HE a6;go_wp2;go_ret2;rw[b5.o];exact⟨rfl,T⟩
 have cb:¬(0:Int)<((d.length-m:Nat):Int):=C;have a6:Y=some rows:=by rw[hE];unfold within;rw[aE (eo C)];simp
 have b5:=fu a6;clear hE HE a6;go_wp2;go_ret2;rw[b5.o];exact⟨⟨_,_,rfl,M⟩,T⟩
def Kh(w):Calls prog 265 #[OO,I 0] w λe w'=>e=gG OO/\w'=w:=by go_wp2;go_ret;simp_all
def Gf(w):Calls prog 235 #[OO] w λe w'=>e=gG OO/\w'=w:=by have j:=fu Kh;go_wp2;refine Z6 1 ?_;rw[ZZ];go_wp2_with(go_at_call 265;refine gF (j _) λw' i=>?_;have y:=i.symm;clear i;subst y);refine Z6 1 ?_;rw[ZZ];go_wp2;go_ret;exact⟨rfl,rfl⟩
theorem all_nil(w):ib 191 #[OO] w λe w'=>e=gG OO/\w'=w:=by go_enter func191,ntmps191;go_wp2_with(refine gF ((fu Gf).o _) λw' i=>?_;have j:=i.symm;clear i;subst j);go_ret;exact⟨rfl,rfl⟩
theorem J6(w):ib 304 #[OO] w λe w'=>e=gG OO/\w'=w:=by go_enter func304,ntmps304;go_wp2_with(refine gF ((fu all_nil).o _) λw' i=>?_;have j:=i.symm;clear i;subst j);refine Z6 1 ?_;rw[ZZ];go_wp2;go_ret;exact⟨rfl,rfl⟩
theorem Lt{tc:Nat}{lay:List (List Int)}(h:pj w aY tc v lay)(n1:1<=lay.length)(n3:lay.length<=3)(M:∀ch∈lay,1<=ch.length/\ch.length<=3)(hB:mA (kz lay)):ib 304 #[v] w λe w'=>∃a c,e=gG (dk a (kz lay).length c)/\w'.ownsRow w.heap.size 5 1 (dk a (kz lay).length c) (kz lay).length ((kz lay).map B8)/\Bl w w':=by
 obtain⟨i5,ji,Y,Z,a0⟩:=fx Tryz.Be;have HA:=fu (xW h n1 n3 M);have a8:(kz lay).length<=9:=by have:=FZ (lay:=lay) (λch hc=>(M ch hc).2) lay.length;unfold tk at this;rw[bZ]at this;show lay.flatten.length<=9;omega
 obtain⟨g0,ad,a9,f0,rfl,_⟩:=h;clear M;generalize kz lay=us at*;have a1:=fu hB;clear hB;go_enter func304,ntmps304;go_wp2_with(go_at_call 191;refine HA.L ?_;rintro e w2⟨g,cap,rfl,ho,P⟩;obtain⟨HO,HB⟩:=fl ho P;clear HA ho P);go_loopw[3,9](λv i wr=>∃j:Nat,j<=us.length/\i=I j/\Hid (wr.ownsRow w2.heap.size 5 1 v j ((us.take j).map B8))/\Hid (Bl w2 wr)) λ_ i _=>us.length-(Go.RowKit.intOf i).toNat
 case atStart=>exact⟨0,jd,rfl,mC,jo⟩
 obtain⟨j,hj,rfl,A,D⟩:=hrel;by_cases iV:j<us.length
 .have aa:(j:Int)<(us.length:Int):=C;have y:=HO.cellAt j C;rw[aK,ah iV]at y;have Q:=(HO.lt g rfl).2;have k1:=(D.cell Q).H y;simp only[bG]at k1;have ab:=af Q D.lt;have ag:=a1 us[j] (aL iV);have ai:IntKind.u8.wrap us[j]=us[j]:=IntWalk.u8_in _ C;have HT:=fu (tV us B8 j iV);have a2:Hid (j+1<=maxLen):=mQ;have a3:Hid ((j+1)*1<=140737488355328):=lQ;generalize us[j]=x at*;clear y;go_wp2_with(at_builtin;refine fm _ rfl _ _ 40 rfl w2.heap.size 5 i5 (.int .u8 0) 1 1 underlying40 ji Y Z a0 rfl au u3 j _ rfl (A.alloc _) (U wr.heap.size 0) 1 1 [.int .u8 x] rfl rfl (ZV _ _ _) qR au a2 a3 (by have:=D.lt;simp;omega) (wr.heap.size+1) aq ?_);intro g' T w3 L F a4 ac;have a5:Hid (Bl w2 w3):=(D.alloc _).B (bz.B F) λk e=>(A.lt k e.symm).1;have a6:Hid (w3.ownsRow w2.heap.size 5 1 (dk (G g') (j+1) T) (j+1) ((us.take (j+1)).map B8)):=by unfold Hid;rw[HT.o];simpa [fS,B8]using L
  clear L F a4;go_wp2;go_roundw
  case rel=>exact⟨j+1,C,aq,a6,a5⟩
  exact gW
 have ak:¬((j:Int)<(us.length:Int)):=C;have a7:j=us.length:=C;subst a7;rw[bZ]at A;obtain⟨a,c,rfl⟩:=ja A;go_wp2;go_ret;exact⟨a,c,rfl,pP A HB.lt,HB.H D⟩
def lS.lay{base:Nat}(h:lS base w g n ms R){t:Nat}(F:∀b,base<=b->aY b=t):pj w aY t (dk (G g) n n) R:=by
 have P:=h.xH;obtain⟨e,_⟩|⟨Z,cap,i,e,Q,H,h1,T,h3,h4⟩:=h.gZ.2
 .simp at e
 simp at e;obtain⟨rfl,rfl⟩:=e;refine⟨g,i,n,(0,0),by rw[h.len],by rw[h.len];exact jc,T,F g Q,H,λk ch y=>?_⟩;have j:=(aj.1 y).1;have L:=h.len;have M:=h.gZ.cellAt k C;rw[ax w g k i 24 (0,0) H]at M;refine⟨ms[k]' C,by rw[M,ah C],?_⟩;have A:=h.row k C j;have Y:R[k]=ch:=by rw[ah j]at y;simpa using y
 rw[Y]at A;exact Rd.pB A λb D=>F b (A.lt b D).1
def Rd.sl{t:Nat}(h:Rd w aY t e v cs):Sl w v cs:=by
 obtain⟨rfl,rfl⟩|⟨b,o,c,i,f,rfl,F,y,H,L,A⟩:=h
 .exact .inl ⟨none,0,rfl,rfl⟩
 exact .inr ⟨b,o,c,rfl,(ae.1 y).1,λj D=>by rw[ax w b _ i e f y];exact A j _ (ah D)⟩
def pj.TO{t:Nat}{lay:List (List Int)}(h:pj w aY t v lay):Ec w v lay:=by
 obtain⟨g,y,cap,f,rfl,Z,h2,h3,L,M⟩:=h;have P:lay.length<=y.size:=by
  by_cases h0:lay.length=0
  .omega
  obtain⟨x,A,_⟩:=M (lay.length-1) lay[lay.length-1] (ah C);have:=(ae.1 A).1;omega
 have D:(y.toList.take lay.length).length=lay.length:=by rw[bH];simp;omega
 have F:∀i (h:i<(y.toList.take lay.length).length),y[i]?=some (y.toList.take lay.length)[i]:=λi h=>by rw[dM,Array.getElem_toList];exact dW C
 refine⟨y.toList.take lay.length,.inr ⟨g,0,cap,qz D,(ae.1 L).1,λj Q=>?_⟩,D,λi T H=>?_⟩
 .rw[ax w g _ y 24 f L,bP];exact F j Q
 obtain⟨x,A,Y⟩:=M i lay[i] (ah H);rw[F i T]at A;simp only[aJ]at A;rw[A];exact Y.sl
def Tryz.GH:Go.Shelf.Ren:=⟨fun|5=>293|7=>312|n=>n,fun|23=>104|25=>3|3=>222|4=>4|20=>20|n=>n,fun|n=>n⟩
def Tryz.Md:Go.Proofs.SlLaysW.n5 prog Tryz.GH:={
 mixed:=by kernel_rfl
 f5:=⟨Tryz.f293.name,by decide,func293.trans (congrArg some (by kernel_rfl))⟩
 f7:=func312.trans (congrArg some (by kernel_rfl))
 t4:=underlying4
 a4:=Tryz.isAgg4
 z4:=Tryz.sizeOf4
 v4:=Tryz.zeroValue4
 t20:=underlying20
 a20:=Tryz.isAgg20
 z20:=Tryz.sizeOf20
 v20:=Tryz.zeroValue20
 t23:=underlying104
 a23:=Tryz.isAgg104
 z23:=Tryz.sizeOf104
 v23:=Tryz.zeroValue104}
def Tryz.vW:Go.Shelf.Ren:=⟨fun|7=>316|10=>317|n=>n,fun|23=>101|26=>3|3=>215|28=>326|0=>0|27=>325|33=>131|4=>4|n=>n,fun|n=>n⟩
def Tryz.Ny:Go.Proofs.SlLaysZI.n7 prog Tryz.vW:={
 mixed:=by kernel_rfl
 f7:=⟨Tryz.f316.name,by decide,func316.trans (congrArg some (by kernel_rfl))⟩
 f10:=⟨Tryz.f317.name,by decide,func317.trans (congrArg some (by kernel_rfl))⟩
 t0:=underlying0
 a0:=Tryz.isAgg0
 z0:=Tryz.sizeOf0
 v0:=Tryz.zeroValue0
 t4:=underlying4
 a4:=Tryz.isAgg4
 z4:=Tryz.sizeOf4
 v4:=Tryz.zeroValue4
 t23:=underlying101
 a23:=Tryz.isAgg101
 z23:=Tryz.sizeOf101
 v23:=Tryz.zeroValue101
 t26:=underlying3
 a26:=Tryz.isAgg3
 z26:=Tryz.sizeOf3
 v26:=Tryz.zeroValue3
 t27:=underlying325
 a27:=Tryz.isAgg325
 z27:=Tryz.sizeOf325
 v27:=Tryz.zeroValue325
 t28:=underlying326
 a28:=Tryz.isAgg326
 z28:=Tryz.sizeOf326
 v28:=Tryz.zeroValue326
 t33:=underlying131
 a33:=Tryz.isAgg131
 z33:=Tryz.sizeOf131
 v33:=Tryz.zeroValue131}
def Tryz.BD:Go.Shelf.Ren:=⟨fun|8=>266|11=>286|n=>n,fun|26=>3|28=>326|24=>24|0=>0|33=>131|4=>4|n=>n,fun|n=>n⟩
def Tryz.Eb:Go.Proofs.SlLaysZI.n8 prog Tryz.BD:={
 mixed:=by kernel_rfl
 f8:=⟨Tryz.f266.name,by decide,func266.trans (congrArg some (by kernel_rfl))⟩
 f11:=⟨Tryz.f286.name,by decide,func286.trans (congrArg some (by kernel_rfl))⟩
 t0:=underlying0
 a0:=Tryz.isAgg0
 z0:=Tryz.sizeOf0
 v0:=Tryz.zeroValue0
 t24:=underlying24
 a24:=Tryz.isAgg24
 z24:=Tryz.sizeOf24
 v24:=Tryz.zeroValue24
 t26:=underlying3
 a26:=Tryz.isAgg3
 z26:=Tryz.sizeOf3
 v26:=Tryz.zeroValue3
 t28:=underlying326
 a28:=Tryz.isAgg326
 z28:=Tryz.sizeOf326
 v28:=Tryz.zeroValue326
 i26:=by kernel_rfl}
def Jp(mb)(W):ib 316 #[.map mb] W λe w'=>e=gG (.func (.func 317) #[] #[O W.heap.size])/\w'=W.alloc (gO #[.map mb] 101):=
 callsIn_wide.1 (AnyZI.keys_in Tryz.Ny Fence.wide 5 trivial rfl mb W)
def D3{g0 t:Nat}{zz:List (Int×An)}(h:nM w aY g0 t v zz)(hk:∀z∈zz,0<=z.1/\z.1<=1000000000000000)(hl:zz.length<=1000)(g)(Q:g<w.heap.size)(T:w.cell? (U g 0)=some v):ib 266 #[.func (.func 317) #[] #[O g]] w λe w'=>∃(v:Value) (us:List Int),e=gG v/\w'.ownsRow w.heap.size 3 1 v us.length (us.map I)/\us.Perm (zz.map (·.1))/\Bl w w':=by
 obtain⟨rfl,rfl⟩|⟨gm,clk,l,rfl,_,h⟩:=h
 .have j:=AnyZI.keys_gives_nil (ρ:=Tryz.vW) {Tryz.Ny with} Fence.wide 3 trivial rfl g w Q T;have H:=AnyZI.collect_in Tryz.Eb Fence.wide 5 trivial trivial rfl C 317 #[O g] trivial (enters_of func317 ij rfl) _ _ au au _ j;change CallsIn _ _ prog 266 _ _ _ at H;refine(callsIn_wide.1 H).L ?_;rintro e w'⟨v,P,rfl,rfl,y,M,A⟩;exact⟨v,[],rfl,y,fK _,A⟩
 have F:l.map (·.k)=zz.map (·.1):=by
  refine bJ λi=>?_;rw[aK,aK];have hl:=h.len;by_cases Y:i<l.length
  .have:=h.f i l[i] zz[i] (ah Y) (ah C);rw[ah Y,ah C];exact Z5 some this.1
  rw[cB C,cB C];rfl
 have Z:=h.len;obtain⟨D,h1,h2,h3⟩:=DD h.mp h.bo h.nd (by rw[F];exact h.ky) (λe he=>by
  have:e.k∈zz.map (·.1):=by rw[<-F];exact aD.2 ⟨e,he,rfl⟩
  obtain⟨z,hz,e1⟩:=aD.1 this
  rw[<-e1];exact hk z hz) C
 have j:SeqGives Fence.wide 3 prog 317 #[O g] encZ (λP=>P.Perm (intKeys D)) (Maps.size D) w:=
  AnyZI.keys_gives (ρ:=Tryz.vW) {Tryz.Ny with} Fence.wide _ trivial rfl C g gm l.length D _ Q T h1
 have H:=AnyZI.collect_in Tryz.Eb Fence.wide 5 trivial trivial rfl C 317 #[O g] trivial (enters_of func317 ij rfl) _ _ (aF h3 (aF (show l.length<=1000 by omega) au)) C _ j;change CallsIn _ _ prog 266 _ _ _ at H;refine(callsIn_wide.1 H).L ?_;rintro e w'⟨v,P,rfl,hS,y,M,A⟩;exact⟨v,P,rfl,y,by rw[<-F];exact hS.H h2,A⟩
section
variable{t:Nat}
structure yh(X:Cx):Prop where
 ids:∀z∈X.mv.b.B,0<=z.1/\z.1<=255
 len:X.mv.b.B.length<=100
theorem sN(h:iN w aY t p qb X V)(H:yh X):ib 314 #[ptr p] w λe w'=>∃(a:Option Addr) (n:Nat) (us:List Int),e=gG (dk a us.length n)/\w'.ownsRow w.heap.size 3 1 (dk a us.length n) us.length (us.map I)/\us.Perm X.jH/\Bl w w':=by
 have Q:=fu Jp;have j:=(Bl.refl w).alloc (gO #[V.sl.av] 101);have M:=h.bl j (bp:=aY) gK;have y:=fu (D3 M.r.sl.B (λz T=>by have:=H.ids z T;omega) (gI H.len) w.heap.size aq (ax _ w.heap.size 0 _ 101 (0,0) (ao w _)));have A:=h.cellAt 40 rfl;have lp:=h.B;obtain⟨mb,D⟩:∃mb,V.sl.av=.map mb:=by
  obtain⟨e,_⟩|⟨gm,_,_,e,_⟩:=h.r.sl.B
  .exact⟨_,e⟩
  exact⟨_,e⟩
 rw[D]at A y j;have Y:=fu j;clear h M j;go_enter func314,ntmps314;go_wp2_with(first|(go_at_call 316;refine(Q _ _).L ?_;rintro e w'⟨rfl,rfl⟩)|(go_at_call 266;refine y.L ?_;rintro e w2⟨v,us,rfl,F,P,i⟩;obtain⟨a,cap,rfl⟩:=ja F;obtain⟨Z,HP,HB⟩:=gV F P (Y.H i);clear y i F P));go_ret;exact⟨a,cap,us,rfl,pP Z aq,HP,HB⟩
end
theorem zy:∀x:List Int,tG x x=false
 |[]=>rfl
 |x::xs=>by simp[tG,zy xs]
theorem Kf:∀{x y:List Int},tG x y=true->tG y x=false
 |[],[],h=>by simp[tG]at h
 |[],_::_,_=>rfl
 |_::_,[],h=>by simp[tG]at h
 |x::xs,y::ys,h=>by
  simp only[tG]at h|-;split at h
  .rename_i i;rw[az C,aE i]
  rename_i i;split at h
  .simp at h
  rename_i j;rw[az j,az i];exact Kf h
theorem AF:∀{x y z:List Int},tG x y=true->tG y z=true->tG x z=true
 |_,[],_,h,_=>by simp[tG]at h
 |_,_::_,[],_,h=>by simp[tG]at h
 |[],_::_,_::_,_,_=>rfl
 |x::xs,y::ys,z::zs,h,k=>by
  simp only[tG]at h k|-;split at h<;>split at k
  .rw[aE C]
  .split at k
   .simp at k
   rw[aE C]
  .split at h
   .simp at h
   rw[aE C]
  split at h
  .simp at h
  split at k
  .simp at k
  rw[az C,az C];exact AF h k
theorem A7:∀{x y:List Int},tG x y=false->tG y x=false->x=y
 |[],[],_,_=>rfl
 |[],_::_,h,_=>by simp[tG]at h
 |_::_,[],_,h=>by simp[tG]at h
 |x::xs,y::ys,h,k=>by
  simp only[tG]at h k;split at h
  .simp at h
  rename_i i;rw[az i]at k;split at k
  .simp at k
  rename_i j;rw[az j]at h;have e:x=y:=C;rw[e,A7 h k]
def L4(p q:Int×List Int):Prop:=p.1<q.1\/(p.1=q.1/\tG p.2 q.2=true)
def Bf{p q r:Int×List Int}(h:L4 p q)(k:L4 q r):L4 p r:=by
 obtain h|⟨y,i⟩:=h<;>obtain k|⟨A,j⟩:=k
 .exact .inl C
 .exact .inl C
 .exact .inl C
 exact .inr ⟨C,AF i j⟩
def AW{p q:Int×List Int}(h:¬L4 p q)(k:¬L4 q p):p=q:=by
 have e:p.1=q.1:=by have A:¬p.1<q.1:=λe=>h (.inl e);have D:¬q.1<p.1:=λe=>k (.inl e);omega
 have j:tG p.2 q.2=false:=by
  cases i:tG p.2 q.2
  .rfl
  exact absurd (.inr ⟨e,i⟩) h
 have y:tG q.2 p.2=false:=by
  cases i:tG q.2 p.2
  .rfl
  exact absurd (.inr ⟨e.symm,i⟩) k
 exact Prod.ext e (A7 j y)
def yQ{v:Vo}(h:L4 b (v.ba,v.val)):rT b v=(v.ba,v.val):=by unfold rT;obtain h|⟨i,j⟩:=h;all_goals simp_all
def Cj{v:Vo}(h:¬L4 b (v.ba,v.val)):rT b v=b:=by
 unfold rT;rw[az];intro e;simp at e;obtain e|⟨i,j⟩:=e
 .exact h (.inl e)
 exact h (.inr ⟨i.symm,j⟩)
def xT(b:Int×List Int)(l:List Vo):Int×List Int:=l.foldl rT b
def yI(l):jF l=xT (0,[]) (l.map (·.2)):=by unfold jF xT;rw[List.foldl_map]
theorem BI(l):∀b,(xT b l=b\/∃v∈l,xT b l=(v.ba,v.val))/\¬L4 (xT b l) b/\∀v∈l,¬L4 (xT b l) (v.ba,v.val):=by
 induction l with
 |nil=>exact λb=>⟨.inl rfl,λh=>by
  obtain h|⟨_,h⟩:=h
  .exact absurd h (Int.lt_irrefl _)
  .have h:tG b.2 b.2=true:=h
   rw[zy]at h;simp at h,λv H=>lY H⟩
 |cons v l L=>
  intro b;obtain⟨i,j,F⟩:=L (rT b v);have e:xT b (v::l)=xT (rT b v) l:=rfl;rw[e];generalize M:xT (rT b v) l=m at*;by_cases y:L4 b (v.ba,v.val)
  .rw[yQ y]at i j;refine⟨.inr ?_,λA=>j (Bf A y),λu hu=>?_⟩
   .simp_all
   obtain rfl|hu:=bh.1 hu
   .exact j
   exact F u hu
  rw[Cj y]at i j;refine⟨?_,j,λu hu=>?_⟩
  .obtain i|⟨u,hu,i⟩:=i
   .exact .inl i
   exact .inr ⟨u,aX _ hu,i⟩
  obtain rfl|hu:=bh.1 hu
  .intro A;by_cases D:L4 b m
   .exact y (Bf D A)
   rw[AW j D]at A;exact y A
  exact F u hu
def DC(h:l1.Perm l2)(b):xT b l1=xT b l2:=by
 obtain⟨i,D,y⟩:=BI l1 b;obtain⟨b1,F,A⟩:=BI l2 b;refine AW ?_ ?_
 .obtain b1|⟨v,j,b1⟩:=b1
  .simp_all
  rw[b1];exact y v (h.mem_iff.2 j)
 obtain i|⟨v,j,i⟩:=i
 .simp_all
 rw[i];exact A v (h.mem_iff.1 j)
def N0(b)(v)(l):xT b (v::l)=rT (xT b l) v:=by have e:xT b (v::l)=xT b _:=DC (gk (l₁:=[v])) b;rw[e];unfold xT;simp_all
def pI{α:Type}[nA α](w:World)(aY:Nat->Nat)(t:Nat)(v:Value)(zz:List (Int×α)):Prop:=
 (v=.map none/\zz=[])\/∃gm clk l,v=.map (some gm)/\Mm w gm clk l zz (nA.ev w aY t)
def nM.t{α:Type}[nA α]{t:Nat}{zz:List (Int×α)}(h:nM w aY g t v zz):pI w aY t v zz:=by
 obtain h|⟨gm,clk,l,i,_,j⟩:=h
 .exact .inl h
 exact .inr ⟨gm,clk,l,i,j⟩
def Mm.bl{α:Type}[nA α]{t clk:Nat}{zz:List (Int×α)}(h:Mm w gm clk l zz (nA.ev w aY t))(j:Bl w w'):Mm w' gm clk l zz (nA.ev w' aY t):=
 ⟨(j.heap (ae.1 h.mp).1).H h.mp,h.len,λi e z y A=>⟨(h.f i e z y A).1,nA.only (h.f i e z y A).2 (iD j) (λ_ _ e=>e.elim) λ_ _ e=>e⟩,h.bo,h.nd,h.ky⟩
def pI.bl{α:Type}[nA α]{t:Nat}{zz:List (Int×α)}(h:pI w aY t v zz)(i:Bl w w'):pI w' aY t v zz:=by
 obtain h|⟨gm,clk,l,j,y⟩:=h
 .exact .inl h
 exact .inr ⟨gm,clk,l,j,y.bl i⟩
def Rd.uniq{t:Nat}{ds:List Value}(h:Rd w aY t e v cs)(k:Rd w aY t e v ds):cs=ds:=by
 obtain⟨y,rfl⟩|⟨b,o,c,L,f,y,Y,M,Z,h5,P⟩:=h<;>obtain⟨i,rfl⟩|⟨b',o',c',D,f',i,k2,A,k4,k5,Q⟩:=k
 .rfl
 .rw[y]at i;simp at i
 .rw[y]at i;simp at i
 rw[y]at i;simp at i;obtain⟨⟨rfl,rfl⟩,hl,_⟩:=i;rw[M]at A;simp at A;obtain⟨rfl,_⟩:=A;refine bJ λj=>?_;by_cases F:j<cs.length
 .have T:=P j cs[j] (ah F);have H:=Q j ds[j] (ah C);rw[T]at H;rw[ah F,ah C];exact H
 rw[cB C,cB C]
def G6{xs:List Int}(h:xs.map B8=ys.map B8):xs=ys:=List.map_inj_right (λx y e=>by simpa [B8]using e)|>.1 h
def RP{t:Nat}{A B:Vo}(h:nA.ev w aY t A v)(k:nA.ev w aY t B v):A=B:=by
 obtain⟨s,j,y⟩:=h;obtain⟨F,i,D⟩:=k;rw[j]at i;simp at i;obtain⟨H,L,M,rfl⟩:=i;have:=G6 (y.uniq D)
 cases A;simp_all
def CG(w)(aY)(t):∃f:Value->Vo,∀v A,nA.ev w aY t A v->f v=A:=by
 classical
 exact⟨λv=>if h:∃A:Vo,nA.ev w aY t A v then h.choose else⟨0,0,0,[]⟩,λv A i=>by
  simp only[dif_pos (⟨A,i⟩:∃A:Vo,nA.ev w aY t A v)]
  exact RP (Exists.choose_spec (⟨A,i⟩:∃A:Vo,nA.ev w aY t A v)) i⟩
def Mm.Vk{t clk:Nat}(h:Mm w gm clk l zz (nA.ev w aY t))(y:∀v A,nA.ev w aY t A v->f v=A):(gR l).toList.map (λx=>f x.val)=zz.map (·.2):=by
 have D:(gR l).toList=l.map Ae.B:=by simp[gR]
 rw[D,br];refine bJ λi=>?_;rw[aK,aK];have F:=h.len;by_cases j:i<l.length
 .have:=h.f i l[i] zz[i] (ah j) (ah C);rw[ah j,ah C];show some (f l[i].v)=some zz[i].2;rw[y _ _ this.2]
 simp_all
def Mm.Vq{t clk:Nat}(h:Mm w gm clk l zz (nA.ev w aY t)):∀x∈(gR l).toList,∃A:Vo,A∈zz.map (·.2)/\nA.ev w aY t A x.val:=λx y=>by obtain⟨e,D,rfl⟩:=kZ y;obtain⟨i,F,rfl⟩:=aV.1 D;have H:=h.len;have j:i<zz.length:=C;exact⟨zz[i].2,aD.2 ⟨_,aL j,rfl⟩,(h.f i l[i] zz[i] (ah F) (ah j)).2⟩
theorem Nr:∀{xs ys:List Int},mA xs->mA ys->(0<Lib.compareBytes (Lib.bytesOf xs) (Lib.bytesOf ys)↔tG ys xs=true)
 |[],[],_,_=>by simp[Lib.bytesOf,Lib.compareBytes,tG]
 |[],_::_,_,_=>by simp[Lib.bytesOf,Lib.compareBytes,tG]
 |_::_,[],_,_=>by simp[Lib.bytesOf,Lib.compareBytes,tG]
 |x::xs,y::ys,D,F=>by
  have T:=D x aN;have Y:=F y aN;have H:=Nr (xs:=xs) (ys:=ys) (λd A=>D d (aX _ A)) λd A=>F d (aX _ A);have L:(x.toNat.toUInt8<y.toNat.toUInt8)↔x<y:=by rw[UInt8.lt_iff_toNat_lt];simp;omega
  have M:(y.toNat.toUInt8<x.toNat.toUInt8)↔y<x:=by rw[UInt8.lt_iff_toNat_lt];simp;omega
  have P:Lib.bytesOf (x::xs)=x.toNat.toUInt8::Lib.bytesOf xs:=rfl;have Q:Lib.bytesOf (y::ys)=y.toNat.toUInt8::Lib.bytesOf ys:=rfl;rw[P,Q];simp only[Lib.compareBytes,tG,L,M];by_cases i:x<y
  .rw[aE i,az C,aE i];simp
  rw[az i];by_cases j:y<x
  .rw[aE j,aE j];simp
  rw[az j,az j,az i];exact H
def AU{t:Nat}{xs:List Int}(h:Rd w aY t 5 v (xs.map B8)):(Extern.Bytes.bytesOf v).run prog w=.ok ⟨(Lib.bytesOf xs).toArray⟩ w:=by
 obtain⟨rfl,e⟩|⟨a,c,rfl,i⟩:=h.bs
 .have:xs=[]:=by simpa using e
  subst this;rfl
 have:=Lib.run_loadBytesX (P:=prog) w xs a .empty λj x y=>i j _ (by rw[aK,y];rfl);rw[ay];show(Extern.Bytes.loadBytes a xs.length .empty).run prog w=_;simp_all
theorem EE{t:Nat}{u:Value}{xs:List Int}(h:Rd w aY t 5 u (xs.map B8))(k:Rd w aY t 5 v (ys.map B8))(j:mA xs)(y:mA ys):ib 297 #[u,v] w λA w'=>∃r:Int,A=gG (I r)/\(0<r↔tG ys xs=true)/\w'=w:=by
 have i:(Extern.BytealgCompare.compare #[u,v]).run prog w=.ok (I (Lib.compareBytes (Lib.bytesOf xs) (Lib.bytesOf ys))) w:=by change Sem.run prog (do pure (Go.goInt (Extern.BytealgCompare.cmp (<-Extern.Bytes.bytesOf u) (<-Extern.Bytes.bytesOf v)))) w=_;simp only[Sem.run_bind,AU h,AU k,Result.andThen,Lib.cmp_eq];rfl
 have D:=fu (Nr j y);obtain⟨a,c,rfl⟩:=h.E;obtain⟨b,d,rfl⟩:=k.E;clear h k;simp only[ay]at i|-;go_enter func297,ntmps297;go_wp2;rw[run_callFunc_extern func313 ij ij ij (e:=Extern.BytealgCompare.compare) ij,i];simp only[Result.andThen];rw[Oper.upon_value];go_wp2;go_ret;exact⟨_,rfl,D,rfl⟩
abbrev zV:Array Value:=#[I 0,I 0,I 0,OO]
def It.yG{r clk:Nat}{i:List MapEntry}(h:It w r gm es clk i):(w.iterSeen r).size=i.length:=by
 have:w.iterSeen r=(i.map (·.born)).reverse.toArray:=by unfold World.iterSeen;rw[h.it]
 simp_all
def VU(w:World)(aY:Nat->Nat)(t gm clk r0:Nat)(es:Array MapEntry)(f:Value->Vo)(wr:World):Prop:=∃(done:List MapEntry) (x0 x1:Int) (s:Value),Hid (wr.heap[w.heap.size+1]?=some (.cells #[I x0,I x1,I (xT (0,[]) (done.map λx=>f x.val)).1,s] 222 (0,0)))/\Hid (Rd w aY t 5 s ((xT (0,[]) (done.map λx=>f x.val)).2.map B8))/\Hid (wr.heap[w.heap.size]?=some (.cells zV 222 (0,0)))/\Hid (Bl w wr)/\Hid (It wr r0 gm es clk done)/\Hid (mA (xT (0,[]) (done.map λx=>f x.val)).2)
theorem F0{t clk:Nat}(h:Mm w gm clk l zz (nA.ev w aY t))(hB:∀z∈zz,mA z.2.val):ib 277 #[.map (some gm)] w λen w'=>∃(x0 x1:Int) (s:Value),en=gG (.agg #[I x0,I x1,I (jF zz).1,s])/\Rd w' aY t 5 s ((jF zz).2.map B8)/\Bl w w':=by
 obtain⟨f,hf⟩:=CG w aY t;obtain⟨HV,HE,Hf⟩:=gV (h.Vk hf) h.Vq hf;have ab:Hid (∀A∈zz.map (·.2),mA A.val):=λA hA=>by obtain⟨z,hz,rfl⟩:=aD.1 hA;exact hB z hz
 obtain⟨bo,nd⟩:=h.born;rw[yI];obtain⟨W0,Z⟩:=dS ((w.alloc (gO zV 222)).alloc (gO zV 222));have bW:Bl w W0:=by rw[<-Z];exact(jo.alloc _).alloc _
 have HM:=fu ((bW.heap (ae.1 h.mp).1).H h.mp);have h2:W0.heap[w.heap.size]?=some (gO zV 222 (0,0)):=by rw[<-Z];exact(cL _ _ aq).H (ao w _)
 have h3:W0.heap[w.heap.size+1]?=some (gO zV 222 (0,0)):=by rw[<-Z];have:=ao (w.alloc (gO zV 222)) (gO zV 222);simpa using this
 have hs:W0.heap.size=w.heap.size+1+1:=by rw[<-Z];simp
 have Q:=fu hs;have aw:=(ae.1 h.mp).1;generalize gR l=es at*;obtain⟨am,an,ap⟩:=gV bo nd Z;obtain⟨H2,H3,BW⟩:=gV h2 h3 bW;clear h bo nd hf hB Z h2 h3 bW hs;generalize zz.map (·.2)=vs at*;generalize ac:xT (0,[]) vs=bb;have ar:=fu ac;clear ac;obtain⟨a6,a7⟩:=bb;go_enter func277,ntmps277;go_upto_region 2 with fail;rw[ap.o];go_wp2_with(at_range;refine jS _ rfl _ 104 rfl 3 222 underlying104 gm es clk rfl HM am an ?_;intro hI;have HI:=fu hI;clear hI);go_frame;go_loopw[8](λ_ wr=>VU w aY t gm clk W0.heap.size es f wr) λ_ wr=>es.size-(wr.iterSeen W0.heap.size).size
 case atStart=>exact⟨[],0,0,OO,(cL W0 _ (gI Q.o)).H H3,Rd.nil,(cL W0 _ (gI Q.o)).H H2,BW.alloc _,HI,λd hd=>by simp[xT]at hd⟩
 obtain⟨j,x0,x1,s,K3,KR,K2,HB,HJ,KB⟩:=hrel;obtain⟨sa,sc,ad⟩:=KR.E;rw[ay]at ad;subst ad;go_wp2_with(at_next;refine kl _ rfl _ rfl W0.heap.size gm clk es j rfl HJ ?_ ?_)
 .intro h0;have e0:(j.map λx=>f x.val).Perm vs:=by rw[<-HV.o];exact h0.map _
  have e1:=(DC e0 (0,[])).H ar;rw[e1]at K3 KR;obtain⟨r0,r1,r2,r3,lr⟩:=qP K3;obtain⟨y0,y1,y2,y3,ly⟩:=qP K2;obtain⟨f0,f1,f2,f3⟩:=xj K2 0 1 2 3;have b0:¬w.heap.size+1=w.heap.size:=gI Q.o;obtain⟨HZ,OZ⟩:=fl (jY [I x0,I x1,I a6,dk sa a7.length sc] 0 wr _ K2) (jw (S:=λb=>b=w.heap.size) (.inl rfl) [I x0,I x1,I a6,dk sa a7.length sc] 0 wr (bz.refl _ wr));clear HV e0 e1 h0;go_wp2;obtain⟨q0,q1,q2,q3⟩:=nN HZ 0 1 2 3 rfl;simp only[jX,vC]at q0 q1 q2 q3;refine aG (v:= .agg (qe x0 x1 a6 sa a7 sc)) (by simp[results,results277,go_sem,q0,q1,q2,q3]) rfl ?_;exact⟨x0,x1,_,rfl,KR.bl (HB.B OZ λb e=>gI Q.o) λ_ _ e=>e,HB.B OZ λb e=>gI Q.o⟩
 intro e W he ag hO ai;obtain⟨A,hA,sv,a8,a3⟩:=HE e (iG he);have ak:f e.val=A:=Hf _ _ ⟨sv,a8,a3⟩;obtain⟨va,vc,al⟩:=a3.E;rw[ay]at al;subst al;have a0:xT (0,[]) ((e::j).map λx=>f x.val)=rT (xT (0,[]) (j.map λx=>f x.val)) A:=by rw[bj,N0,ak]
 have a9:=fu (ab A hA);rw[a8]at ai|-;have i:=fu a0;have HW:Hid (Bl w W):=HB.B hO λb hb=>gI Q.o;have F:=fu ((hO.block (w.heap.size+1) (ae.1 K3).1 (gI Q.o)).H K3);have a4:=fu ((hO.block w.heap.size (ae.1 K2).1 (gI Q.o)).H K2);obtain⟨a5,aa⟩:=fl ag a3;obtain⟨T,Y,L,P⟩:=A;simp only at ai|-;have bA:=(Bl.refl W).alloc (gO (qe T Y L va P vc) 222);obtain⟨r0,r1,r2,r3,lr⟩:=qP F;obtain⟨f0,f1,f2,f3⟩:=xj F 0 1 2 3;obtain⟨BA,HO⟩:=fl bA hO;have b3:=(ae.1 F).1;have b4:¬w.heap.size+1=W.heap.size:=gI Q.o;have b5:¬W.heap.size=w.heap.size+1:=gI Q.o;generalize xT (0,[]) (j.map λx=>f x.val)=b at*;obtain⟨b1,b2⟩:=b;simp only at r2 r3 KR F KB;have a1:=fu (EE (w:=W.alloc (gO (qe T Y L va P vc) 222)) (aa.bl (HW.H BA) (bp:=aY) λ_ _ e=>e) (KR.bl (HW.H BA) (bp:=aY) λ_ _ e=>e) a9 KB);simp only at a1;have M:Hid (j.length+1<=es.size/\(wr.iterSeen W0.heap.size).size=j.length):=⟨by simpa using a5.len,HJ.yG⟩;clear a3 a0 ak a8 hO ag he hA bA HE HV;have y:Hid (rT (b1,b2) ⟨T,Y,L,P⟩=(L,P)->VU w aY t gm clk W0.heap.size es f ((jX W (w.heap.size+1) 0 [I T,I Y,I L,dk va P.length vc]).alloc (gO (qe T Y L va P vc) 222))/\es.size-(((jX W (w.heap.size+1) 0 [I T,I Y,I L,dk va P.length vc]).alloc (gO (qe T Y L va P vc) 222)).iterSeen W0.heap.size).size<es.size-(wr.iterSeen W0.heap.size).size):=λhb=>by
  have HZ:=jY [I T,I Y,I L,dk va P.length vc] 0 _ _ F;have OZ:=(jw (S:=λb=>b=w.heap.size+1) (.inl rfl) [I T,I Y,I L,dk va P.length vc] 0 W sQ).alloc (gO (qe T Y L va P vc) 222);have a2:=a5.only OZ (gI Q.o) (gI Q.o);refine⟨⟨e::j,T,Y,dk va P.length vc,?_,?_,(OZ.block w.heap.size (gI Q.o) (gI Q.o)).H a4,HW.B OZ λb e=>gI Q.o,a2,?_⟩,?_⟩
  .rw[i.o,hb];exact(cL _ _ (ae.1 HZ).1).H HZ
  .rw[i.o,hb];exact aa
  .rw[i.o,hb];exact a9
  rw[a2.yG,M.2];have:=M.1;simp;omega
 have D:Hid (rT (b1,b2) ⟨T,Y,L,P⟩=(b1,b2)->VU w aY t gm clk W0.heap.size es f (W.alloc (gO (qe T Y L va P vc) 222))/\es.size-((W.alloc (gO (qe T Y L va P vc) 222)).iterSeen W0.heap.size).size<es.size-(wr.iterSeen W0.heap.size).size):=λhb=>by
  have a2:=a5.bl BA;refine⟨⟨e::j,x0,x1,dk sa b2.length sc,?_,?_,(BA.heap (ae.1 a4).1).H a4,HW.H BA,a2,?_⟩,?_⟩
  .rw[i.o,hb];exact(BA.heap (ae.1 F).1).H F
  .rw[i.o,hb];exact KR
  .rw[i.o,hb];exact KB
  rw[a2.yG,M.2];have:=M.1;simp;omega
 clear i F a4 a5 HJ KR KB aa ab a9 BA HW HO K3 K2 HB Hf M;by_cases h1:b1<L
 .have HF:=fu (y (yQ (.inl h1)));clear a1 D y;go_wp2;go_roundw
  case rel=>exact HF.1
  exact HF.2
 by_cases h2:L=b1
 .subst h2;clear h1;by_cases h4:tG b2 P=true
  .have HF:=fu (y (yQ (.inr ⟨rfl,h4⟩)));clear D y;go_wp2_with(go_at_call 297;refine a1.L ?_;rintro en w2⟨r,rfl,hr,h5⟩;have e5:=h5.symm;clear h5;subst e5;have av:=hr.2 h4;clear hr);go_roundw
   case rel=>exact HF.1
   exact HF.2
  have HF:=fu (D (Cj λe=>by
   obtain e|⟨_,e⟩:=e
   .exact absurd e (Int.lt_irrefl _)
   .exact h4 e))
  clear D y;go_wp2_with(go_at_call 297;refine a1.L ?_;rintro en w2⟨r,rfl,hr,h5⟩;have e5:=h5.symm;clear h5;subst e5;have av:¬0<r:=λe=>h4 (hr.1 e);clear hr);go_roundw
  case rel=>exact HF.1
  exact HF.2
 have HF:=fu (D (Cj λe=>by
  obtain e|⟨e,_⟩:=e
  .exact h1 e
  .exact h2 e.symm))
 have b6:(L==b1)=false:=iG h2;clear a1 D y;go_wp2;go_roundw
 case rel=>exact HF.1
 exact HF.2
abbrev RU(p0:World)(p1):=(p0.alloc (gO #[I p1] 3)).alloc (gO zV 222)
theorem ED(w):ib 277 #[.map none] w λj w'=>j=gG (.agg zV)/\Bl w w':=by
 have y:=run_range_nilMap (P:=prog) ((w.alloc (gO zV 222)).alloc (gO zV 222)) 104 _ _ underlying104;have A:∀i,(Instr.next (O (w.heap.size+1+1)) false i).run prog (((w.alloc (gO zV 222)).alloc (gO zV 222)).alloc (.mapIter none 0 #[] 0))=_:=λi=>by have:=run_next_nilMap (P:=prog) ((w.alloc (gO zV 222)).alloc (gO zV 222)) i 0 0 #[];simpa using this
 go_enter func277,ntmps277;go_wp2;refine Z6 1 ?_;rw[ZZ];go_wp2;refine aG (v:= .agg zV) (by simp[results,results277,go_sem]) rfl ?_;refine⟨rfl,?_⟩;repeat(first|exact jo|refine Bl.alloc ?_ _)
def qu{t:Nat}(h:pI w aY t v zz)(j:∀z∈zz,mA z.2.val):ib 277 #[v] w λi w'=>∃(y A:Int) (s:Value),i=gG (.agg #[I y,I A,I (jF zz).1,s])/\Rd w' aY t 5 s ((jF zz).2.map B8)/\Bl w w':=by
 obtain⟨rfl,rfl⟩|⟨gm,clk,l,rfl,h⟩:=h
 .exact(ED w).L λi w'⟨e,D⟩=>⟨0,0,OO,e,Rd.nil,D⟩
 exact F0 h j
def IJ(l:List Vo):Int:=l.foldl (λb z=>max b z.pr) 0
def xi(l):ki l=IJ (l.map (·.2)):=by unfold ki IJ;rw[List.foldl_map]
theorem Dk(l:List Vo):∀b:Int,l.foldl (λb z=>max b z.pr) b=l.foldr (λz b=>max b z.pr) b:=by
 induction l with
 |nil=>intro b;rfl
 |cons v l i=>
  intro b;have:∀(l:List Vo) (a c),l.foldr (λz b=>max b z.pr) (max a c)=max (l.foldr (λz b=>max b z.pr) a) c:=λl=>by
   induction l with
   |nil=>intro a c;rfl
   |cons u l i=>intro a c;rw[fA,fA,i];omega
  simp_all
def pq(v)(l):IJ (v::l)=max (IJ l) v.pr:=by unfold IJ;rw[Dk,Dk];rfl
theorem OA(h:l1.Perm l2):IJ l1=IJ l2:=by
 induction h with
 |nil=>rfl
 |cons x _ i=>rw[pq,pq,i]
 |swap x y l=>rw[pq,pq,pq,pq];omega
 |trans _ _ j A=>exact j.H A
def CO(w):Calls prog 306 #[.map none] w λj w'=>j=gG (I 0)/\Bl w w':=by have y:=run_range_nilMap (P:=prog) w 104 _ _ underlying104;have A:∀i,(Instr.next _ false i).run prog _=_:=λi=>run_next_nilMap (P:=prog) w i 0 0 #[];go_wp2;refine Z6 1 ?_;rw[ZZ];go_wp2;go_ret;exact⟨rfl,jo.alloc _⟩
theorem Cm{t:Nat}(h:pI w aY t v zz):ib 306 #[v] w λen w'=>en=gG (I (ki zz))/\Bl w w':=by
 obtain⟨rfl,rfl⟩|⟨gm,clk,l,rfl,h⟩:=h
 .exact CO w
 obtain⟨f,Y⟩:=CG w aY t;obtain⟨HV,HE,Hf⟩:=gV (h.Vk Y) h.Vq Y;obtain⟨bo,nd⟩:=h.born;have HM:=fu h.mp;rw[xi];generalize gR l=es at*;obtain⟨Z,a0⟩:=fl bo nd;have a3:=(ae.1 h.mp).1;clear h bo nd Y;generalize zz.map (·.2)=vs at*;generalize M:IJ vs=bb;have a1:=fu M;clear M;go_enter func306,ntmps306;go_wp2_with(at_range;refine jS _ rfl _ 104 rfl 3 222 underlying104 gm es clk rfl HM Z a0 ?_;intro hI;have HI:=fu hI;clear hI);go_frame;go_loopw[3](λv wr=>∃i:List MapEntry,v=I (IJ (i.map λx=>f x.val))/\Hid (Bl w wr)/\Hid (It wr w.heap.size gm es clk i)) λ_ wr=>es.size-(wr.iterSeen w.heap.size).size
 case atStart=>exact⟨[],rfl,jo.alloc _,HI⟩
 obtain⟨i,rfl,HB,HJ⟩:=hrel;go_wp2_with(at_next;refine kl _ rfl _ rfl w.heap.size gm clk es i rfl HJ ?_ ?_)
 .intro h0;have e0:(i.map λx=>f x.val).Perm vs:=by rw[<-HV.o];exact h0.map _
  rw[(OA e0).H a1.o];go_wp2;go_ret;exact⟨rfl,HB⟩
 intro e W he P hO Q;obtain⟨A,hA,sv,D,F⟩:=HE e (iG he);have T:f e.val=A:=Hf _ _ ⟨sv,D,F⟩;obtain⟨va,vc,a2⟩:=F.E;subst a2;have j:Hid (IJ ((e::i).map λx=>f x.val)=max (IJ (i.map λx=>f x.val)) A.pr):=by unfold Hid;rw[bj,pq,T]
 rw[D]at Q|-;have HW:Hid (Bl w W):=HB.B hO λb hb=>C;have L:=fu P;obtain⟨A0,A1,A2,A3⟩:=A;simp only at Q j|-;have y:Hid (i.length+1<=es.size/\(wr.iterSeen w.heap.size).size=i.length):=⟨by simpa using L.len,HJ.yG⟩;generalize IJ (i.map λx=>f x.val)=b at*;clear F T D hO P he hA HE HV HJ;go_wp2;go_roundw
 case rel=>exact⟨e::i,qz j.o,HW.alloc _,L.bl (jo.alloc _)⟩
 rw[(L.bl (jo.alloc _)).yG,y.2];have:=y.1;simp;omega
end Go.Proofs.YtbghhbpacijmmaaGreat
