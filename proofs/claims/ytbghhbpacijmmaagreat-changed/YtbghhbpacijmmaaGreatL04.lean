import Derived.Deep.RegionHeld3
import Derived.Deep.DeepCutAuto
import Derived.Deep.RegionLaw
import Derived.Maps.RangeWalk
import Derived.Maps.RangeRun
import Derived.Maps.Range
import Derived.Lib.SliceRun
import Derived.Test.YtbghhbpacijmmaaGreatL03
open Go.Proofs.Tryz
namespace Go.Proofs.YtbghhbpacijmmaaGreat
set_option maxRecDepth 99999
set_option maxHeartbeats 0
set_option linter.defProp false
set_option linter.unusedVariables false
open Go.RowKit Go.Maps
open Go.ChangeMaps (setBlock)
attribute [local go_sem ↓] Go.wp_at_zero Go.wp_at_succ
variable {rs:List Rc} {gH gI:Nat->Nat} {S S':Nat->Int->Ep} {xs:List Value} {w' W w2:World} {ps:List (Int×List Int)} {v iv ov vi:Value} {tg p tb g tn gm clk k n b r i bm sc:Nat} {T P:Nat->Prop} {e:Qv} {M:Int->Value} {l l1 l2:List Qv} {t:TypeId} {sa xa ba:Option Addr} {c cl ln a d nr:Int} {E' E:Int->Ep} {cs:Array Value} {x y:MapEntry} {ds:List Int}
structure Qz where
 cl:Int
 ln:Int
 nr:Int
 data:List Int
def wk(w:World)(gH:Nat->Nat)(tb:Nat)(e:Qv)(z:Qz):Prop:=
 e.cl=z.cl/\e.ln=z.ln/\∃a c,e.v=.agg #[I z.nr,.slice a z.data.length c]/\w.ownsRow 0 5 1 (.slice a z.data.length c) z.data.length (z.data.map B8)/\∀b,(Value.slice a z.data.length c).ownBlock=some b->gH b=tb
def Qv.xU(e:Qv):Option Nat:=match e.v with
 | .agg a=>(a[1]?).bind Value.ownBlock
 |_=>none
def vQ(l:List Qv):List Value:=l.flatMap λe=>[I e.cl,I e.ln]
structure Qm(w:World)(gH:Nat->Nat)(tn tb g gm clk:Nat)(iv ov:Value)(l:List Qv)(q:List Qz):Prop where
 hp:w.heap[g]?=some (.cells #[iv,.map (some gm),ov] 127 (0,0))
 tg:gH g=tn
 mp:w.heap[gm]?=some (.map (kR l) clk)
 tm:gH gm=tn
 ie:w.ownsRow 0 294 2 ov l.length (vQ l)
 tw:∀b,ov.ownBlock=some b->gH b=tn
 len:l.length=q.length
 vs:∀(i:Nat) e z,l[i]?=some e->q[i]?=some z->wk w gH tb e z
 ap:l.Pairwise λe f=>∀b,e.xU=some b->f.xU≠some b
 ky:l.Pairwise λa b=>¬(a.cl=b.cl/\a.ln=b.ln)
def Pb{j A:Value}(h:W.heap[g]?=some (im #[j,A] t (0,0))):W.cell? (U g 0)=some j/\W.cell? (U g 1)=some A/\g<W.heap.size:=
 ⟨ax W g 0 _ t _ h,ax W g 1 _ t (0,0) h,(ae.1 h).1⟩
def wk.xU{w:World}{z:Qz}(h:wk w gH tb e z)(j:e.xU=some b):b<w.heap.size/\gH b=tb:=by let⟨_,_,a,c,A,F,H⟩:=h;unfold Qv.xU at j;rw[A]at j;exact⟨(F.lt b j).2,H b j⟩
def wk.only{w:World}{z:Qz}(h:wk w gH tb e z){S:Nat->Prop}(H:gL S w w')(L:∀b,b<w.heap.size->S b->gH b≠tb)(Q:∀b,b<w.heap.size->gI b=gH b):wk w' gI tb e z:=by let⟨V,Y,a,c,Z,A,F⟩:=h;exact⟨V,Y,a,c,Z,H.iX A λb j e=>L b (A.lt b j).2 e (F b j),λb j=>by rw[Q b (A.lt b j).2];exact F b j⟩
section
variable{w wx:World}{q q1 q2:List Qz}{z z':Qz}
def Qm.lg(h:Qm w gH tn tb g gm clk iv ov l q):g<w.heap.size:=(ae.1 h.hp).1
def Qm.lm(h:Qm w gH tn tb g gm clk iv ov l q):gm<w.heap.size:=(ae.1 h.mp).1
def Qm.Tq(h:Qm w gH tn tb g gm clk iv ov l q):g≠gm:=λe=>by have:=h.hp;rw[e,h.mp]at this;simp at this
def Qm.only(h:Qm w gH tn tb g gm clk iv ov l q){S:Nat->Prop}(A:gL S w w')(F:∀b,b<w.heap.size->S b->gH b≠tn/\gH b≠tb)(L:∀b,b<w.heap.size->gI b=gH b):Qm w' gI tn tb g gm clk iv ov l q:=
 ⟨(A.block g h.lg λe=>(F g h.lg e).1 h.tg).H h.hp,(L g h.lg).H h.tg,(A.block gm h.lm λe=>(F gm h.lm e).1 h.tm).H h.mp,(L gm h.lm).H h.tm,A.iX h.ie λb j e=>(F b (h.ie.lt b j).2 e).1 (h.tw b j),λb j=>(L b (h.ie.lt b j).2).H (h.tw b j),h.len,λi e z Q V=>(h.vs i e z Q V).only A (λb j e=>(F b j e).2) L,h.ap,h.ky⟩
def Qm.bl(h:Qm w gH tn tb g gm clk iv ov l q)(j:Bl w w')(A:∀b,b<w.heap.size->gI b=gH b):Qm w' gI tn tb g gm clk iv ov l q:=h.only (iT j) (λ_ _ e=>e.elim) A
def j7(w)(r)(o):gL (λk=>k=r) w (setBlock w r o):=
 ⟨rfl,rfl,rfl,by simp[setBlock],λk _ h=>by simp[setBlock,Ne.symm h]⟩
def nW{w:World}(h:r<w.heap.size)(o):(setBlock w r o).heap[r]?=some o:=by simp[setBlock,h]
def nX(A:∃j k,w.heap[b]?=some (.map j k)){base:Nat}{e:TypeId}{size:Nat}{l:Nat}(h:w.ownsRow base e size v l xs):v.ownBlock≠some b:=by intro e';let⟨cc,F⟩:=nZ h b e';simp_all
def Qm.vj(h:Qm w gH tn tb g gm clk iv ov (l1++e::l2) (q1++z::q2))(hl:l1.length=q1.length)(hz:wk w gH tb ⟨e.cl,e.ln,v,e.bo⟩ z')(L:∀x∈l1++e::l2,∀b,x.xU=some b->(Qv.mk e.cl e.ln v e.bo).xU≠some b):Qm (setBlock w gm (.map (kR (l1++{e with v:=v}::l2)) clk)) gH tn tb g gm clk iv ov (l1++{e with v:=v}::l2) (q1++z'::q2):=by
 have Y:=j7 w gm (.map (kR (l1++{e with v:=v}::l2)) clk);have hv:∀{x:Qv} {y:Qz},wk w gH tb x y->wk (setBlock w gm (.map (kR (l1++{e with v:=v}::l2)) clk)) gH tb x y:=fun{x y} k=>by let⟨k1,k2,a,c,k3,k4,k5⟩:=k;exact⟨k1,k2,a,c,k3,Y.iX k4 λb F e=>nX ⟨_,_,h.mp⟩ k4 (jS F e),k5⟩
 refine⟨(Y.block g h.lg h.Tq).H h.hp,h.tg,nW h.lm _,h.tm,?_,h.tw,by have:=h.len;simp at this|-;omega,λi x y A hy=>?_,?_,?_⟩
 .have:=Y.iX h.ie λb F e=>nX ⟨_,_,h.mp⟩ h.ie (jS F e);simpa [vQ]using this
 .by_cases hi:i=l1.length
  .subst hi;rw[aC jl]at A;rw[hl,aC jl]at hy;simp at A hy;subst A;subst hy;exact hv hz
  refine hv (h.vs i x y ?_ ?_)
  .rw[<-A];by_cases Q:i<l1.length
   .rw[aB Q,aB Q]
   rw[aC C,aC C];obtain⟨j,Z⟩:∃j,i-l1.length=j+1:=⟨i-l1.length-1,C⟩;rw[Z];rfl
  rw[<-hy];by_cases Q:i<q1.length
  .rw[aB Q,aB Q]
  rw[aC C,aC C];obtain⟨j,Z⟩:∃j,i-q1.length=j+1:=⟨i-q1.length-1,C⟩;rw[Z];rfl
 .have:=h.ap;rw[cu,cI]at this|-;obtain⟨a1,⟨a2,a3⟩,V⟩:=this;refine⟨a1,⟨λy hy b F a0=>L y (nN hy) b a0 F,a3⟩,λx A y hy=>?_⟩;obtain rfl|hy:=bh.1 hy
  .exact λb F=>L x (nN A) b F
  exact V x A y (aX _ hy)
 have:=h.ky;rw[cu,cI]at this|-;obtain⟨a1,⟨a2,a3⟩,V⟩:=this;refine⟨a1,⟨a2,a3⟩,λx A y hy=>?_⟩;obtain rfl|hy:=bh.1 hy
 .exact V x A e aN
 exact V x A y (aX _ hy)
def Qm.push(h:Qm w gH tn tb g gm clk iv ov l q){w6:World}(bW:Bl w W){gg cap:Nat}(Y:W.grownBy w6 ov.ownBlock)(V:w6.ownsRow 0 294 2 (gN (G gg) (l.length+1) cap) (l.length+1) (vQ l++[I cl,I ln]))(a2:ov.ownBlock=some gg\/w.heap.size<=gg)(hz:wk w gH tb ⟨cl,ln,v,clk⟩ z)(a3:∀x∈l,∀b,x.xU=some b->(Qv.mk cl ln v clk).xU≠some b)(a4:∀x∈l,¬(x.cl=cl/\x.ln=ln))(a5:tb≠tn):Qm (setBlock (w6.setCell (U g 2) (gN (G gg) (l.length+1) cap)).drew gm (.map (kR (l++[⟨cl,ln,v,clk⟩])) (clk+1))) (iq gH w.heap.size tn) tn tb g gm (clk+1) iv (gN (G gg) (l.length+1) cap) (l++[⟨cl,ln,v,clk⟩]) (q++[z])
 /\gL (λb=>gH b=tn) w (setBlock (w6.setCell (U g 2) (gN (G gg) (l.length+1) cap)).drew gm (.map (kR (l++[⟨cl,ln,v,clk⟩])) (clk+1))):=by
 have o6:gL (λb=>ov.ownBlock=some b) w w6:=(gL.B bW).H ((gL.A Y).L λx _ e=>e.symm);have a6:ov.ownBlock≠some g:=gY h.ie h.hp gF;have a7:ov.ownBlock≠some gm:=nX ⟨_,_,h.mp⟩ h.ie;have Z:w6.heap[g]?=some (im [iv,.map (some gm),ov].toArray 127 (0,0)):=(o6.block g h.lg a6).H h.hp;have a8:=(o6.block gm h.lm a7).H h.mp;have a0:=jx 2 (gN (G gg) (l.length+1) cap) w6 _ Z;let⟨w7,a1⟩:=gJ (w6.setCell (U g 2) (gN (G gg) (l.length+1) cap));have o7:gL (λb=>b=g) w6 w7:=by rw[<-a1];exact(gL.refl (λb=>b=g) w6).setCell (U g 2) (.inl rfl) _
 rw[a1]at a0|-;have o8:=j7 w7.drew gm (.map (kR (l++[⟨cl,ln,v,clk⟩])) (clk+1));have s6:=o6.size;have s7:=o7.size;have a9:gm<w7.drew.heap.size:=by have:=h.lm;simp;omega
 have aa:g<w7.drew.heap.size:=by have:=h.lg;simp;omega
 have ab:w7.drew.heap[gm]?=some (.map (kR l) clk):=(o7.block gm (gS h.lm) λe=>h.Tq e.symm).H a8;have oA:gL (λb=>ov.ownBlock=some b\/b=g\/b=gm) w (setBlock w7.drew gm (.map (kR (l++[⟨cl,ln,v,clk⟩])) (clk+1))):=
  ((o6.L λ_ _ e=>.inl e).H (o7.L λ_ _ e=>.inr (.inl e))).H ((gL.B ((Bl.refl w7).drew)).H (o8.L λ_ _ e=>.inr (.inr e)))
 have j:gL (λb=>gH b=tn) w (setBlock w7.drew gm (.map (kR (l++[⟨cl,ln,v,clk⟩])) (clk+1))):=oA.L λb _ e=>by
  obtain e|e|e:=e
  .exact h.tw b e
  .rw[e];exact h.tg
  rw[e];exact h.tm
 have hv:∀{x:Qv} {y:Qz},wk w gH tb x y->wk (setBlock w7.drew gm (.map (kR (l++[⟨cl,ln,v,clk⟩])) (clk+1))) (iq gH w.heap.size tn) tb x y:=fun{x y} k=>k.only j (λb _ e=>by rw[e];exact Ne.symm a5) λb F=>gV _ _ _ _ F;refine⟨⟨(o8.block g aa h.Tq).H a0,(gV _ _ _ _ h.lg).H h.tg,nW a9 _,(gV _ _ _ _ h.lm).H h.tm,?_,λb F=>?_,by simp[h.len],λi x y Q A=>?_,?_,?_⟩,j⟩
 .have k7:w7.ownsRow 0 294 2 (gN (G gg) (l.length+1) cap) (l.length+1) (vQ l++[I cl,I ln]):=o7.iX V λb F e=>gY V Z gF (jS F e);have k8:=o8.iX (k7.drew) λb F e=>nX ⟨_,_,ab⟩ k7.drew (jS F e);simpa [vQ]using k8
 .simp[Value.ownBlock]at F;subst F;obtain e|e:=a2
  .have:=(h.ie.lt _ e).2;rw[gV _ _ _ _ this];exact h.tw _ e
  exact iJ _ _ _ _ e
 .by_cases hi:i<l.length
  .rw[aB hi]at Q;rw[aB (by rw[<-h.len];exact hi)]at A;exact hv (h.vs i x y Q A)
  have ac:=(aj.1 Q).1;simp at ac;have:i=l.length:=C;subst this;rw[aC jl]at Q;rw[h.len,aC jl]at A;simp at Q A;subst Q;subst A;exact hv hz
 .rw[cu];exact⟨h.ap,gG,λx Q y A=>by
   simp at A;subst A
   exact λb F=>a3 x Q b F⟩
 rw[cu];exact⟨h.ky,gG,λx Q y A=>by
  simp at A;subst A
  exact a4 x Q⟩
end
def oX(w)(r)(o):gL (λk=>k=r) w (setBlock w r o):=
 ⟨rfl,rfl,rfl,by simp[setBlock],λk _ h=>by simp[setBlock,Ne.symm h]⟩
structure It(w:World)(r gm:Nat)(es:Array MapEntry)(clk:Nat)(done:List MapEntry):Prop where
 it:w.heap[r]?=some (.mapIter (some gm) clk ((done.map (·.born)).reverse.toArray) clk)
 mp:w.heap[gm]?=some (.map es clk)
 ne:r≠gm
 bo:∀x∈es.toList,x.born<clk
 nd:(es.toList.map (·.born)).Nodup
 sub:∀x∈done,x∈es.toList
 dn:(done.map (·.born)).Nodup
section
variable{w:World}{es:Array MapEntry}{done:List MapEntry}
def It.lr(h:It w r gm es clk done):r<w.heap.size:=(ae.1 h.it).1
def It.lm(h:It w r gm es clk done):gm<w.heap.size:=(ae.1 h.mp).1
def It.only(h:It w r gm es clk done){S:Nat->Prop}(j:gL S w w')(A:¬S r)(F:¬S gm):It w' r gm es clk done:=
 ⟨(j.block r h.lr A).H h.it,(j.block gm h.lm F).H h.mp,h.ne,h.bo,h.nd,h.sub,h.dn⟩
def It.bl(h:It w r gm es clk done)(j:Bl w w'):It w' r gm es clk done:=h.only (iT j) (λe=>e) λe=>e
theorem BH:∀{l:List MapEntry},(l.map (·.born)).Nodup->x∈l->y∈l->x.born=y.born->x=y
 |[],_,A,_,_=>mi A
 |z::l,j,A,F,h=>by
  rw[bj,bY]at j;obtain rfl|hx':=bh.1 A<;>obtain rfl|hy':=bh.1 F
  .rfl
  .exact absurd (aD.2 ⟨y,hy',h.symm⟩) j.1
  .exact absurd (aD.2 ⟨x,hx',h⟩) j.1
  exact BH j.2 hx' hy' h
def Qa(j:(es.toList.map (·.born)).Nodup)(A:x∈es.toList)(F:y∈es.toList)(h:x.born=y.born):x=y:=BH j A F h
theorem vM{α:Type}:∀{l1 l2:List α},l1.Nodup->(∀x∈l1,x∈l2)->l1.length<=l2.length
 |[],_,_,_=>ju
 |x::l1,l2,j,A=>by
  obtain⟨a,b,rfl⟩:=fe (A x aN);rw[bY]at j;have:=vM (l2:=a++b) j.2 λy F=>by
   have:=A y (aX _ F);simp at this|-;obtain h|rfl|h:=this
   .simp_all
   .simp_all
   simp_all
  simp at this|-;omega
theorem pQ:∀{l:List MapEntry},(l.map (·.born)).Nodup->l.Nodup
 |[],_=>fH
 |x::l,h=>by rw[bj,bY]at h;exact bY.2 ⟨λj=>h.1 (aD.2 ⟨x,j,rfl⟩),pQ h.2⟩
def It.len(h:It w r gm es clk done):done.length<=es.size:=by have:=vM (pQ h.dn) h.sub;omega
def It.start(h:w.heap[gm]?=some (.map es clk))(j:∀x∈es.toList,x.born<clk)(A:(es.toList.map (·.born)).Nodup):It (w.alloc (.mapIter (some gm) clk #[] clk)) w.heap.size gm es clk []:=by have F:=(ae.1 h).1;exact⟨ao w _,(cL w _ F).H h,C,j,A,λx L=>mi L,gG⟩
end
section
variable{P:Program}(w:World){ops:Array Oper}{rest:List Oper}{o:Oper}{a:Act}{Q:Exit->Act->World->Prop}
def j9(F:o.guard=none)(m)(t)(h:o.op=Op.range t m)(k e)(H:P.underlying t=some (.map k e))(b)(es)(clock)(L:a.eval m=.map (some b))(A:w.heap[b]?=some (.map es clock))(V:∀x∈es.toList,x.born<clock)(Y:(es.toList.map (·.born)).Nodup)(Z:It (w.alloc (.mapIter (some b) clock #[] clock)) w.heap.size b es clock []->wpList P ops Q rest (a.put o.dst (O w.heap.size)) (w.alloc (.mapIter (some b) clock #[] clock))):wpList P ops Q (o::rest) a w:=by
 refine wpList_plain F λK' j=>?_;unfold Oper.wp;simp[execOp,h,L,run_range_map w t k e b es clock H A];exact j _ _ (Z (It.start A V Y))
def kQ(hg:o.guard=none)(it)(a0:o.op=Op.next it false)(r gm clk)(es)(done)(a1:a.eval it= O r)(h:It w r gm es clk done)(F:done.Perm es.toList->wpList P ops Q rest (a.put o.dst (.tuple #[.bool false])) w)(L:∀(e:MapEntry) (W:World),e∈es.toList->It W r gm es clk (e::done)->gL (λb=>b=r) w W->(Instr.entry (O r)).run P W=.ok (.tuple #[e.key,e.val]) W->
 wpList P ops Q rest (a.put o.dst (.tuple #[.bool true,e.key,e.val])) W):wpList P ops Q (o::rest) a w:=by
 refine wpList_plain hg λK' a2=>?_;unfold Oper.wp;let⟨sn,A⟩:=gJ ((done.map (·.born)).reverse.toArray);have hi:=h.it;rw[A]at hi;obtain⟨h0,j⟩|⟨e,he,w1,hw,j⟩:=run_next_at (P:=P) w o.type r gm clk clk sn es clk hi h.mp h.bo jl
 .simp[execOp,a0,a1,j,Result.andThen];refine a2 _ _ (F ?_);rw[fG (pQ h.dn) (pQ h.nd)];refine λx=>⟨h.sub x,λhx=>?_⟩;have h1:es.filter (λx=> !sn.contains x.born)=#[]:=gf.1 h0;have h2:=fP.1 h1 x (iU hx);rw[<-A]at h2;simp at h2;let⟨y,hy,V⟩:=h2;rw[<-Qa h.nd (h.sub y hy) hx V];exact hy
 simp[execOp,a0,a1,j,Result.andThen];obtain⟨Y,Z⟩:=mem_left he;have ja:r<w.heap.size:=h.lr;have hh:w1.heap=w.heap:=by obtain rfl|rfl:=hw<;>rfl
 have e1:sn.push e.born=((e::done).map (·.born)).reverse.toArray:=by rw[<-A];simp
 have hI:(setBlock w1 r (.mapIter (some gm) clk (sn.push e.born) clk)).heap[r]?=some (.mapIter (some gm) clk (sn.push e.born) clk):=by simp[setBlock,hh,ja]
 have hM:(setBlock w1 r (.mapIter (some gm) clk (sn.push e.born) clk)).heap[gm]?=some (.map es clk):=by simp[setBlock,hh,h.ne,h.mp]
 refine a2 _ _ (L e _ Y ⟨jS hI e1,hM,h.ne,h.bo,h.nd,λx hx=>?_,?_⟩ ?_ ?_)
 .obtain rfl|hx:=bh.1 hx
  .exact Y
  exact h.sub x hx
 .rw[bj,bY];refine⟨λhx=>?_,h.dn⟩;rw[<-A]at Z;simp at Z;let⟨y,hy,V⟩:=aD.1 hx;exact Z y hy V
 .obtain rfl|rfl:=hw
  .exact oX _ _ _
  exact(gL.B (jC.drew)).H (oX _ _ _)
 exact run_entry_at _ r gm clk _ es clk e hI hM Y h.nd
end
def Vs.mu{S:Nat->Prop}{base:Nat}{w:World}{A:List Int}(h:Vs base w p bm n E A M vi t)(j:gL S w w')(V:¬S p)(Y:¬S bm)(F:∀g,g<w.heap.size->Dj M vi g->¬S g):Vs base w' p bm n E A M vi t:=by refine⟨(j.block p h.lt V).H h.jU,h.ty,h.mp.only j Y,λe=>?_,j.iX h.ie λb e=>F b (h.ie.lt b e).2 (.inl e)⟩;obtain⟨Z,L,Q,k3⟩:=h.ep e;exact⟨Z,L,j.iX Q λb e'=>F b (Q.lt b e').2 (.inr ⟨e,jk L e'⟩),k3⟩
def Vs.WE{base:Nat}{w:World}{j:List Int}(h:Vs base w p bm n E j M vi t):Vs 0 w p bm n E j M vi t:=by refine⟨h.jU,h.ty,h.mp,λe=>?_,gZ h.ie λ_ _=>ju⟩;obtain⟨A,F,H,L⟩:=h.ep e;exact⟨A,F,gZ H λ_ _=>ju,L⟩
def pX.snoc(h:pX rs S){r:Rc}(F:tK (S rs.length) r E')(H:r.Ok FM):pX (rs++[r]) (λj=>if j=rs.length+1 then E' else S j) where
 zero:=by simp[h.zero]
 step:=λj A=>by
  rw[aO,dD]at A;by_cases e:j<rs.length
  .rw[az C,az C,dI e];exact h.step j e
  obtain rfl:j=rs.length:=C;simp_all
 ok:=λx hx=>by
  obtain hx|hx:=aT.1 hx
  .exact h.ok x hx
  simp_all
def NZ(e b)(h:(Lit.int .i64 e).wf=true)(j:(Lit.int .i64 b).wf=true):Rc.Ok FM ⟨1,[e,b],[]⟩:=
 ⟨gG,gG,gG,gG,gG,by simp;exact⟨h,j⟩,gG,(1,2,0),gF,rfl,rfl,gG⟩
def SJ(e b)(ys)(j:(Lit.int .i64 e).wf=true)(A:(Lit.int .i64 b).wf=true)(F:ys.length<=255)(h:∀d∈ys,0<=d/\d<=255):Rc.Ok FM ⟨2,[e,b],ys⟩:=
 ⟨gG,gG,gG,gG,F,by simp;exact⟨j,A⟩,h,(2,2,255),gF,rfl,rfl,ig⟩
def Vt(w:World)(gH:Nat->Nat)(tg p:Nat)(rs:List Rc)(S:Nat->Int->Ep):Prop:=
 ∃bm M vi,Vs 0 w p bm rs.length (S rs.length) (iE rs) M vi 253/\pX rs S/\gH p=tg/\gH bm=tg/\∀g,Dj M vi g->gH g=tg
def Vt.V7{w:World}(h:Vt w gH tg p rs S):pX rs S:=by let⟨bm,M,vi,_,j,_⟩:=h;omega
def Vt.only{w:World}(h:Vt w gH tg p rs S)(V:gL T w w')(A:∀b,b<w.heap.size->T b->gH b≠tg)(F:∀b,b<w.heap.size->gI b=gH b):Vt w' gI tg p rs S:=by let⟨bm,M,vi,j,Y,H,L,Q⟩:=h;exact⟨bm,M,vi,j.mu V (λe=>A p j.lt e H) (λe=>A bm j.mp.lt e L) λg Z hF e=>A g Z e (Q g hF),Y,by rw[F p j.lt,H],by rw[F bm j.mp.lt,L],λg hF=>by rw[F g (j.wT hF).2,Q g hF]⟩
def Vt.bl{w:World}(h:Vt w gH tg p rs S)(j:Bl w w'):Vt w' gH tg p rs S:=h.only (iT j) (λ_ _ e=>e.elim) hU
def Vt.xH{w:World}(h:Vt w gH tg p rs S)(e):(S rs.length e).val.length<=255/\∀d∈(S rs.length e).val,0<=d/\d<=255:=h.V7.xH _ jl e
def T7(S:Nat->Int->Ep)(n:Nat)(E':Int->Ep):Nat->Int->Ep:=λj=>if j=n+1 then E' else S j
def zd(S)(rs)(r:Rc)(E'):T7 S rs.length E' (rs++[r]).length=E':=by simp[T7]
def Vt.step{w:World}{j:Int->Value}{h:Value}{r:Rc}(A:Vs 0 w p bm rs.length (S rs.length) (iE rs) M vi 253)(V:pX rs S)(Y:gH p=tg)(Z:gH bm=tg)(L:∀g,Dj M vi g->gH g=tg)(F:tK (S rs.length) r E')(ho:r.Ok FM)(H:Vs 0 w' p bm (rs.length+1) E' (iE rs++r.bytes) j h 253)(Q:ui p bm M vi j h w w'):(∀v:Value,(∀g,v.ownBlock=some g->¬Dj j h g)->Vt w' (uS gH w.heap.size tg v) tg p (rs++[r]) (T7 S rs.length E'))/\gL (λb=>gH b=tg) w w':=by
 have oQ:gL (λb=>gH b=tg) w w':=Q.only.L λb _ e=>by
  obtain rfl|rfl|e:=e
  .omega
  .omega
  exact L b (.inl e)
 refine⟨λv hd=>⟨bm,j,h,?_,V.snoc F ho,by rw[nz _ _ _ _ _ A.lt,Y],by rw[nz _ _ _ _ _ A.mp.lt,Z],λg hF=>?_⟩,oQ⟩
 .rw[zd];simpa [iE]using H
 obtain h1|h1:=Q.a g hF
 .rw[nz _ _ _ _ _ (A.wT h1).2,L g h1]
 exact zC _ _ _ _ _ h1 λe=>hd g e hF
def qQ{w:World}{B:Nat}(h:w.ownsRow B 5 1 v n xs):∃a c,v=gN a n c:=by obtain⟨e,e'⟩|⟨g,cap,j,e,_⟩:=h.2;all_goals simp_all
theorem pX.xN(h:pX rs S):∀j,j<=rs.length->∀e,(S j e).ba<=(S j e).pr
 |0,_,e=>by rw[h.zero];simp[UE]
 |j+1,Q,e=>by
  have A:=pX.xN h j C;have:=h.step j C;generalize rs[j]=r at this;generalize S (j+1)=E' at this
  cases this with
  |prep e' b F H L=>
   unfold mS;split
   .have:=A e';simp;omega
   simp_all
  |acc e' b ys F H L=>
   unfold mS;split
   .simp
   exact A e
def pj(rs:List Rc):Int:=rs.foldl (λm r=>max m (r.ns.headD 0)) 0
def FZ(rs)(r):pj (rs++[r])=max (pj rs) (r.ns.headD 0):=by simp[pj]
theorem pX.lt(h:pX rs S):∀j,j<=rs.length->0<=pj (rs.take j)/\(∀e,(S j e).pr≠0->e<=pj (rs.take j))/\(pj (rs.take j)=0\/(S j (pj (rs.take j))).pr≠0)
 |0,_=>⟨by simp[pj],λe V=>absurd (by rw[h.zero];rfl) V,.inl (by simp[pj])⟩
 |j+1,hj=>by
  let⟨i0,Y,i2⟩:=pX.lt h j C;have H:=h.step j C;have Z:rs.take (j+1)=rs.take j++[rs[j]]:=aM C;rw[Z,FZ];generalize pj (rs.take j)=m at*;generalize rs[j]=r at H;generalize S (j+1)=E' at H;have F:∀(e':Int) (s:Ep),1<=e'->s.pr≠0->0<=max m e'/\(∀e,(mS (S j) e' s e).pr≠0->e<=max m e')/\(max m e'=0\/(mS (S j) e' s (max m e')).pr≠0):=λe' s V L=>by
   refine⟨C,λe A=>?_,.inr ?_⟩
   .unfold mS at A;by_cases ee:e=e'
    .omega
    rw[az ee]at A;have:=Y e A;omega
   unfold mS;split
   .exact L
   rename_i a0;have hm:max m e'=m:=C;rw[hm];obtain i2|i2:=i2
   .omega
   exact i2
  cases H with
  |prep e' b Q h2 h3=>exact F e' ⟨b,_,_⟩ Q (by show b≠0;omega)
  |acc e' b ys Q h2 h3=>exact F e' ⟨b,b,ys⟩ Q (by show b≠0;omega)
structure Vo where
 wh:Int
 pr:Int
 ba:Int
 val:List Int
def oD(E:Int->Ep)(kd e b:Int)(ys:List Int):Vo×(Int->Ep):=
 if kd=5 then(if e<1\/b<1\/b<=(E e).pr then(⟨6,(E e).pr,0,[]⟩,E)else(⟨1,b,(E e).ba,(E e).val⟩,mS E e ⟨b,(E e).ba,(E e).val⟩))
 else if kd=6 then(if e<1\/b<1\/b<(E e).pr\/¬(1<=ys.length/\ys.length<=255)then(⟨6,(E e).pr,0,[]⟩,E)else(⟨1,b,0,[]⟩,mS E e ⟨b,b,ys⟩))
 else(⟨1,(E e).pr,(E e).ba,(E e).val⟩,E)
def ve(rs:List Rc)(S:Nat->Int->Ep)(rs':List Rc)(S':Nat->Int->Ep):Prop:=
 (rs'=rs/\S'=S)\/∃r E,rs'=rs++[r]/\S'=T7 S rs.length E
def rN(f:Nat)(args:Array Value)(w:World)(gH:Nat->Nat)(tg p:Nat)(rs:List Rc)(S:Nat->Int->Ep)(R:Vo×(Int->Ep)):Prop:=
 Calls prog f args w λen w'=>∃va vc rs' S' gI,en=gX (lJ R.1.wh R.1.pr R.1.ba (.slice va R.1.val.length vc))/\w'.ownsRow w.heap.size 5 1 (.slice va R.1.val.length vc) R.1.val.length (R.1.val.map B8)/\(∀g,(Value.slice va R.1.val.length vc).ownBlock=some g->gI g=1)/\(∀g,g<w.heap.size->gI g=gH g)/\ve rs S rs' S'/\S' rs'.length=R.2/\(iE rs').length<=(iE rs).length+300/\Vt w' gI tg p rs' S'/\gL (λg=>gH g=tg) w w'
section
variable{w:World}
def RX(h:Vt w gH tg p rs S)(e b)(ys)(A:(Lit.int .i64 e).wf=true)(Q:(Lit.int .i64 b).wf=true)(hl:(iE rs).length<=1000000000000)(hn:rs.length<=1000000000000):rN 180 #[O p,I e,I b] w gH tg p rs S (oD (S rs.length) 5 e b ys):=by
 have hV:=h.xH e;let⟨bm,M,vi,V,hw,hp,hb,H⟩:=h;unfold oD;rw[aE rfl];by_cases F:e<1\/b<1\/b<=(S rs.length e).pr
 .rw[aE F];refine(Bf 0 p bm rs.length (S rs.length) (iE rs) M vi 253 e b w V A F).L ?_;rintro en w'⟨rfl,j,Y⟩;exact⟨none,0,rs,S,gH,rfl,mT,λg e=>ny e,λ_ _=>rfl,.inl ⟨rfl,rfl⟩,rfl,C,⟨bm,M,vi,j,hw,hp,hb,H⟩,gL.B Y⟩
 rw[az F];have h1:1<=e:=C;have h2:1<=b:=C;have h3:(S rs.length e).pr<b:=C;refine(uj 0 p bm rs.length (S rs.length) (iE rs) M vi 253 e b w V ju hl hn A hV.1 h1 h2 h3).L ?_;rintro en w'⟨M',a0,v',rfl,j,Z,hG,hd⟩;let⟨r1,r2⟩:=Vt.step V hw hp hb H (tK.prep (S rs.length) e b h1 h2 h3) (NZ e b A Q) Z hG;obtain⟨a,c,rfl⟩:=qQ j;refine⟨a,c,_,_,_,rfl,j,λg e=>EY _ _ _ _ _ (j.lt g e).1 e,λg H=>nz _ _ _ _ _ H,.inr ⟨_,_,rfl,rfl⟩,zd _ _ _ _,?_,r1 _ hd,r2⟩;rw[lO];simp[iE,Rc.bytes,oH]
theorem UH(h:Vt w gH tg p rs S)(e b)(va)(vc)(ys)(F:(Lit.int .i64 e).wf=true)(ab:(Lit.int .i64 b).wf=true)(hl:(iE rs).length<=1000000000000)(hn:rs.length<=1000000000000)(hv:Bs w (gN va ys.length vc) (ys.map B8))(ac:∀g,(gN va ys.length vc).ownBlock=some g->g<w.heap.size/\gH g≠tg)(H:ys.length<=255)(Q:∀d∈ys,0<=d/\d<=255):rN 182 #[O p,I e,I b,gN va ys.length vc] w gH tg p rs S (oD (S rs.length) 6 e b ys):=by
 have hV:=h.xH e;let⟨bm,M,vi,V,hw,hp,hb,hg⟩:=h;have Y:∀g,(lF va ys vc).ownBlock=some g->g<w.heap.size/\vi.ownBlock≠some g/\g≠bm:=λg e=>by let⟨a1,a2⟩:=ac g e;exact⟨a1,λe'=>a2 (hg g (.inl e')),λe'=>a2 (jk e' hb)⟩
 unfold oD;rw[az gF,aE rfl];by_cases a6:e<1\/b<1\/b<(S rs.length e).pr\/¬(1<=ys.length/\ys.length<=255)
 .rw[aE a6];refine(D4 0 p bm rs.length (S rs.length) (iE rs) M vi 253 e b va ys.length vc w V F C a6).L ?_;rintro en w'⟨rfl,a7,a8⟩;exact⟨none,0,rs,S,gH,rfl,mT,λg e=>ny e,λ_ _=>rfl,.inl ⟨rfl,rfl⟩,rfl,C,⟨bm,M,vi,a7,hw,hp,hb,hg⟩,gL.B a8⟩
 rw[az a6];have h1:1<=e:=C;have h2:1<=b:=C;have h3:(S rs.length e).pr<=b:=C;have a0:1<=ys.length:=C;have fin:(b≠(S rs.length e).ba\/ys≠(S rs.length e).val)->∀w' M' A,Vs 0 w' p bm (rs.length+1) (mS (S rs.length) e ⟨b,b,ys⟩) (iE rs++iV 2 [e,b] ys) M' A 253->ui p bm M vi M' A w w'->∃va vc a4 S' gI,gX (lJ 1 b 0 OO)=gX (lJ 1 b 0 (gN va 0 vc))/\w'.ownsRow w.heap.size 5 1 (gN va 0 vc) 0 (([]:List Int).map B8)/\(∀g,(gN va 0 vc).ownBlock=some g->gI g=1)/\(∀g,g<w.heap.size->gI g=gH g)/\ve rs S a4 S'/\S' a4.length=mS (S rs.length) e ⟨b,b,ys⟩/\(iE a4).length<=(iE rs).length+300/\Vt w' gI tg p a4 S'/\gL (λg=>gH g=tg) w w':=λad w' M' A Z hG=>by let⟨r1,r2⟩:=Vt.step V hw hp hb hg (tK.acc (S rs.length) e b ys h1 h2 h3 a0 H Q ad) (SJ e b ys F ab H Q) Z hG;refine⟨none,0,_,_,_,rfl,mT,λg e=>ny e,λg hg=>nz _ _ _ _ _ hg,.inr ⟨_,_,rfl,rfl⟩,zd _ _ _ _,?_,r1 OO λg e=>ny e,r2⟩;rw[lO];simp[iE,Rc.bytes,oH];omega
 by_cases hs:b=(S rs.length e).ba
 .by_cases a5:ys=(S rs.length e).val
  .refine(Aw 0 p bm rs.length (S rs.length) (iE rs) M vi 253 e b _ ys w V ju hl hn F hv a0 H Y Q hV.2 h1 h2 h3 hs a5).L ?_;rintro en w'⟨rfl,a7,a8⟩;have ag:(S rs.length e).ba<=(S rs.length e).pr:=hw.xN _ jl e;have a9:mS (S rs.length) e ⟨b,b,ys⟩=S rs.length:=by
    funext j;unfold mS;split
    .rename_i ej;subst ej;have aa:(S rs.length j).pr=b:=C;rw[a5]
     cases hx:S rs.length j with
     |mk a1 a2 a3=>rw[hx]at aa hs;simp at aa hs;simp[aa,<-hs]
    rfl
   exact⟨none,0,rs,S,gH,rfl,mT,λg e=>ny e,λ_ _=>rfl,.inl ⟨rfl,rfl⟩,a9.symm,C,⟨bm,M,vi,a7,hw,hp,hb,hg⟩,gL.B a8⟩
  refine(rV 0 p bm rs.length (S rs.length) (iE rs) M vi 253 e b _ ys w V ju hl hn F hv a0 H Y Q hV.2 h1 h2 h3 (.inr a5)).L ?_;rintro en w'⟨M',A,rfl,Z,hG⟩;exact fin (.inr a5) w' M' A Z hG
 refine(rV 0 p bm rs.length (S rs.length) (iE rs) M vi 253 e b _ ys w V ju hl hn F hv a0 H Y Q hV.2 h1 h2 h3 (.inl hs)).L ?_;rintro en w'⟨M',A,rfl,Z,hG⟩;exact fin (.inl hs) w' M' A Z hG
end
def Mp.raw{w:World}(h:Mp w b n M):∃A j,w.heap[b]?=some (.map A j)/\(∀x∈A.toList,x.born<j)/\(A.toList.map (·.born)).Nodup/\(∀x∈A.toList,∃k,x.key=.int .i64 k/\I2 (M k)≠0)/\∀k,I2 (M k)≠0->∃x∈A.toList,x.key=.int .i64 k:=by
 obtain⟨D,⟨A,j,hb,F,Y,rfl⟩,h2,h3,h4⟩:=h;have H:∀x∈A.toList,∃k,x.key=.int .i64 k/\(WideElems.rg prog 3 Rv x).1=.int .i64 k:=λx L=>by obtain⟨y,Z⟩:=F.reads x L;obtain⟨k,Q,V,_⟩:=keyOf_int_inv underlying3 (WideElems.rd_key Z);exact⟨k,Q,by rw[WideElems.rg_of Z,V]⟩
 refine⟨A,j,hb,F.stamped.1,F.stamped.2.1,λx L=>?_,λk Q=>?_⟩
 .let⟨k,Q,V⟩:=H x L;refine⟨k,Q,h4 k ?_⟩;rw[has_eq,cK];exact⟨WideElems.rg prog 3 Rv x,mem_sorted.2 (aD.2 ⟨x,L,rfl⟩),by rw[V];simp[Lit.sameKey]⟩
 by_cases hh:has (DataW.map ((A.toList.map (WideElems.rg prog 3 Rv)).foldr DataW.insert [])) (.int .i64 k)=true
 .rw[has_eq,cK]at hh;let⟨y,Z,Y⟩:=hh;obtain⟨x,L,rfl⟩:=aD.1 (mem_sorted.1 Z);let⟨k',a0,V⟩:=H x L;refine⟨x,L,?_⟩;rw[V]at Y;simp[Lit.sameKey]at Y;rw[a0,Y]
 exfalso;have:=atKey_of_not_has (iU hh) (DataW.held VP);rw[h3]at this;simp at this;rw[this]at Q;exact Q rfl
def GF(l:List MapEntry):Int:=l.foldr (λx m=>max m (Go.RowKit.intOf x.key)) 0
theorem Ew:∀(l:List MapEntry),0<=GF l/\(∀x∈l,Go.RowKit.intOf x.key<=GF l)/\(GF l=0\/∃x∈l,GF l=Go.RowKit.intOf x.key)
 |[]=>⟨iK,λx hx=>mi hx,.inl rfl⟩
 |y::l=>by
  let⟨A,j,h⟩:=Ew l;have e:GF (y::l)=max (GF l) _:=rfl;rw[e];refine⟨C,λx hx=>?_,?_⟩
  .obtain rfl|hx:=bh.1 hx
   .omega
   have:=j x hx;omega
  by_cases F:GF l<Go.RowKit.intOf y.key
  .exact .inr ⟨y,aN,C⟩
  obtain h|⟨x,hx,h⟩:=h
  .omega
  exact .inr ⟨x,aX _ hx,C⟩
section
variable{w:World}
theorem Hy(h:Vt w gH tg p rs S):iB 339 #[O p] w λen w'=>en=gX (I (pj rs))/\Bl w w':=by
 let⟨bm,M,vi,L,hw,_⟩:=h;let⟨H,clk,hm,bo,nd,k1,k2⟩:=L.mp.raw;have ja:=hw.lt rs.length jl;rw[bZ]at ja;have hM:∀e,I2 (M e)=(S rs.length e).pr:=λe=>by obtain⟨vv,h1,_⟩:=L.ep e;rw[h1];rfl
 have Q:Hid (∀l:List MapEntry,l.Perm H.toList->GF l=pj rs):=λl hl=>by
  let⟨a1,a2,a3⟩:=Ew l;let⟨b1,b2,b3⟩:=ja;have c1:GF l<=pj rs:=by
   obtain a3|⟨x,V,a3⟩:=a3
   .omega
   let⟨k,A,a0⟩:=k1 x (hl.mem_iff.1 V);rw[a3,A];exact b2 k (jJ hM a0)
  have c2:pj rs<=GF l:=by
   obtain b3|b3:=b3
   .omega
   let⟨x,V,A⟩:=k2 (pj rs) (jk hM b3);have:=a2 x (hl.mem_iff.2 V);rwa[A]at this
  omega
 have Y:Hid (∀x∈H.toList,∃k,x.key=I k):=λx V=>by let⟨k,A,_⟩:=k1 x V;exact⟨k,A⟩
 have c0:=L.c0;have lp:=L.lt;let⟨HM,a4,a5⟩:=iz hm bo nd;clear L hw hm bo nd k1 k2 ja hM;go_enter func339,ntmps339;go_wp2_with(at_range;refine j9 _ rfl _ 251 rfl 3 311 underlying251 bm H clk rfl HM a4 a5 ?_;intro hI;have HI:=gP hI;clear hI);go_frame;go_loopw[3](λv wr=>∃j:List MapEntry,v=I (GF j)/\Hid (Bl w wr)/\Hid (It wr w.heap.size bm H clk j)) λ_ wr=>H.size-(wr.iterSeen w.heap.size).size
 case atStart=>exact⟨[],rfl,jC.alloc _,HI⟩
 obtain⟨j,rfl,HB,HJ⟩:=hrel;go_wp2_with(at_next;refine kQ _ rfl _ rfl w.heap.size bm clk H j rfl HJ ?_ ?_)
 .intro h0;have hL:=Q j h0;rw[hL];go_wp2;go_ret;exact⟨rfl,HB⟩
 intro e W he Z hO a6;let⟨k,A⟩:=Y e (iU he);rw[A]at a6|-;let⟨F,HO,He⟩:=iz Z hO A;clear Z hO A he;go_wp2;go_roundw
 case rel=>exact⟨e::j,by rw[show GF (e::j)=max (GF j) (Go.RowKit.intOf e.key)from rfl,He.o];exact Z5 I (by show(if GF j<k then k else GF j)=max (GF j) k;split<;>omega),HB.A HO λb hb=>C,F⟩
 have e1:W.iterSeen w.heap.size=((e::j).map (·.born)).reverse.toArray:=by unfold World.iterSeen;rw[F.it]
 have e2:wr.iterSeen w.heap.size=(j.map (·.born)).reverse.toArray:=by unfold World.iterSeen;rw[HJ.it]
 have:=F.len;rw[e1,e2];simp at this|-;omega
theorem LJ(h:Vt w gH tg p rs S)(e b)(ys)(a4:(Lit.int .i64 e).wf=true):rN 345 #[O p,I e] w gH tg p rs S (oD (S rs.length) 7 e b ys):=by
 have hV:=h.xH e;have HH:=gP h;let⟨bm,M,vi,hv,hw,hp,hb,Q⟩:=h;obtain⟨vv,hM,a0,_⟩:=hv.ep e;obtain⟨va,vc,rfl⟩:=qQ a0;have c0:=hv.c0;have lp:=hv.lt;have bA:=(Bl.refl w).alloc (im kx 222);have j:=(hv.mp.bl bA).qq e a4;rw[hM]at j;unfold kx at j;have HA:oD (S rs.length) 7 e b ys=(⟨1,(S rs.length e).pr,(S rs.length e).ba,(S rs.length e).val⟩,S rs.length):=by unfold oD;rw[az gF,az gF]
 rw[HA];generalize S rs.length e=E at*;let⟨W,hW⟩:=gJ ((w.alloc (im kx 222)).alloc (im #[I E.pr,I E.ba,gN va E.val.length vc] 311));have bW:Bl w W:=by rw[<-hW];exact bA.alloc _
 have hN:W.heap[w.heap.size]?=some (im kx 222 (0,0)):=by rw[<-hW];exact(cL _ _ gG).H (ao w _)
 have hX:W.heap[w.heap.size+1]?=some (im #[I E.pr,I E.ba,gN va E.val.length vc] 311 (0,0)):=by rw[<-hW];have:=ao (w.alloc (im kx 222)) (im #[I E.pr,I E.ba,gN va E.val.length vc] 311);rwa[show(w.alloc (im kx 222)).heap.size=w.heap.size+1 from by simp]at this
 let⟨n0,n1,n2,n3,f0,f1,f2,f3⟩:=nU hN;let⟨x0,x1,x2⟩:=oR hX 0 1 2 rfl;have lN:=(ae.1 hN).1;have lX:=(ae.1 hX).1;have HC:Hid (∀W',Bl W W'->iB 87 #[gN va E.val.length vc] W' λen w3=>∃Y uc,en=gX (gN Y E.val.length uc)/\Bl W w3/\w3.ownsRow W.heap.size 5 1 (gN Y E.val.length uc) E.val.length (E.val.map B8)):=λW' a1=>by refine(oS (gN va E.val.length vc) E.val W' (((mH a0).bl bW).bl a1) (gS hV.1)).L ?_;rintro en w3⟨u,rfl,a5,hu⟩;obtain⟨Y,uc,rfl⟩:=qQ hu;exact⟨Y,uc,rfl,a1.H a5,gZ hu λg e=>aF a1.lt (hu.lt g e).1⟩
 have HW:=gP hW;unfold kx at HW;let⟨HB,HN⟩:=gO bW hN;unfold rN;clear hv hw hp hb Q a0 hM HA bA bW hN hX hW hV;go_enter func345,ntmps345;go_upto_region 2 with fail;rw[HW.o];clear HW j c0;go_region_held3(λW'=>W'.cell? (U (w.heap.size+1) 0)=some (I E.pr)/\W'.cell? (U (w.heap.size+1) 1)=some (I E.ba)/\W'.cell? (U (w.heap.size+1) 2)=some (gN va E.val.length vc)) (go_keep) (first|(go_at_call 87;refine(HC _ ?hb).L ?_;(case hb=>exact jg);rintro en w3⟨Y,uc,rfl,F,a3⟩;let⟨y0,y1,y2⟩:=F.D lX x0 x1 x2;let⟨z0,z1,z2,z3⟩:=F.M lN n0 n1 n2 n3;have a2:=(F.heap lN).H HN;let⟨g0,g1,g2,g3⟩:=yo a2 0 1 2 3;have V:=my F a3 a2;clear F a3 a2));all_goals
  go_wp2;have Z:=((((gL.refl (λb=>b=w.heap.size) w3).setCell (U w.heap.size 0) (.inl rfl) (I 1)).setCell (U w.heap.size 1) (.inl rfl) (I E.pr)).setCell (U w.heap.size 2) (.inl rfl) (I E.ba)).setCell (U w.heap.size 3) (.inl rfl) (gN Y E.val.length uc);have hB:=(HB.H V.1).A Z λn e=>C;have hO:=Z.iX V.2.1 λb hb e=>gY V.2.1 V.2.2 gF (jS hb e);refine aG (v:=lJ 1 E.pr E.ba (gN Y E.val.length uc)) (by simp[results,results345,go_sem,lJ,z0,z1,z2,z3]) rfl ⟨Y,uc,rs,S,iq gH w.heap.size 1,rfl,gZ hO λg Q=>?_,λg Q=>iJ _ _ _ _ ?_,λg Q=>gV _ _ _ _ Q,.inl ⟨rfl,rfl⟩,rfl,C,HH.only (iT hB) (λ_ _ e=>e.elim) λg Q=>gV _ _ _ _ Q,gL.B hB⟩
  .have:=(hO.lt g Q).1;have:=HB.lt;omega
  have:=(hO.lt g Q).1;have:=HB.lt;omega
end
section
variable{w:World}
def M7{w3:World}{h:List Rc}{R:Vo×(Int->Ep)}{F:Nat}(L:tg≠3)(H:Bl w W)(a1:W.heap.size=w.heap.size+1+1+1)(hX:w2.heap[w.heap.size+1+1]?=some (im cs 222 (0,0)))(Q:w2.ownsRow W.heap.size 5 1 (gN xa R.1.val.length F) R.1.val.length (R.1.val.map B8))(V:∀g,(gN xa R.1.val.length F).ownBlock=some g->gI g=1)(j:∀g,g<W.heap.size->gI g=iq gH w.heap.size 3 g)(hM:ve rs S h S')(hE:S' h.length=R.2)(Y:(iE h).length<=(iE rs).length+300)(a0:Vt w2 gI tg p h S')(A:gL (λg=>iq gH w.heap.size 3 g=tg) W w2)(Z:gL (λb=>b=w.heap.size+1+1) w2 w3):∃va vc h S' gI,(gX (lJ R.1.wh R.1.pr R.1.ba (gN xa R.1.val.length F)):Ending)=gX (lJ R.1.wh R.1.pr R.1.ba (gN va R.1.val.length vc))/\w3.ownsRow w.heap.size 5 1 (gN va R.1.val.length vc) R.1.val.length (R.1.val.map B8)/\(∀g,(gN va R.1.val.length vc).ownBlock=some g->gI g=1)/\(∀g,g<w.heap.size->gI g=gH g)/\ve rs S h S'/\S' h.length=R.2/\(iE h).length<=(iE rs).length+300/\Vt w3 gI tg p h S'/\gL (λg=>gH g=tg) w w3:=by
 have s2:=A.size;refine⟨xa,F,h,S',gI,rfl,gZ (Z.iX Q λb hb e=>gY Q hX gF (jS hb e)) λg hg=>?_,V,λg hg=>by rw[j g C];exact gV _ _ _ _ hg,hM,hE,Y,a0.only Z (λg _ e=>?_) hU,?_⟩
 .have h1:=(Q.lt g hg).1;omega
 .rw[e,j _ C,iJ _ _ _ _ C];exact Ne.symm L
 have s3:=Z.size;refine⟨Z.os.H (A.os.H H.os),Z.tape.H (A.tape.H H.tape),Z.output.H (A.output.H H.output),C,λi hi hn=>?_⟩;rw[Z.block i C C,A.block i C λe=>hn (by rwa[gV _ _ _ _ hi]at e),H.heap hi]
theorem Aq(a0:tg≠3)(kd ln nr e x ck cl ca)(va)(vc)(ys:List Int)(R){F N:Nat}{A:Array Value}(hF:(F=341/\N=180/\A=#[.pointer (some ⟨p,0,none⟩),.int .i64 e,.int .i64 x])\/(F=342/\N=182/\A=#[.pointer (some ⟨p,0,none⟩),.int .i64 e,.int .i64 x,gN va ys.length vc])\/(F=343/\N=345/\A=#[.pointer (some ⟨p,0,none⟩),.int .i64 e]))(hK:∀W,Bl w W->rN N A W (iq gH w.heap.size 3) tg p rs S R):rN F #[.agg #[.pointer (some ⟨p,0,none⟩)],Fg kd ln nr e x ck cl ca (gN va ys.length vc)] w gH tg p rs S R:=by
 have b3:Bl w (((w.alloc (im #[.pointer (some ⟨p,0,none⟩)] 238)).alloc (AM kd ln nr e x ck cl ca va ys vc)).alloc (im kx 222)):=(((Bl.refl w).alloc _).alloc _).alloc _;obtain⟨W,hW⟩:∃W,W=(((w.alloc (im #[.pointer (some ⟨p,0,none⟩)] 238)).alloc (AM kd ln nr e x ck cl ca va ys vc)).alloc (im kx 222)):=⟨_,rfl⟩;have a1:W.heap.size=w.heap.size+1+1+1:=nG hW;have hX:W.heap[w.heap.size+1+1]?=some (im kx 222 (0,0)):=by rw[hW];have:=ao ((w.alloc (im #[.pointer (some ⟨p,0,none⟩)] 238)).alloc (AM kd ln nr e x ck cl ca va ys vc)) (im kx 222);have hz:((w.alloc (im #[.pointer (some ⟨p,0,none⟩)] 238)).alloc (AM kd ln nr e x ck cl ca va ys vc)).heap.size=w.heap.size+1+1:=gG;rwa[hz]at this
 rw[<-hW]at b3;have HK:=gP (hK W b3);unfold rN at HK;let⟨HX,HB,HW⟩:=iz hX b3 hW;rw[hW]at HK;clear hX b3 hK hW;unfold rN;unfold kx at HK;obtain⟨rfl,rfl,rfl⟩|⟨rfl,rfl,rfl⟩|⟨rfl,rfl,rfl⟩:=hF;all_goals
  first|go_enter func341,ntmps341|go_enter func342,ntmps342|go_enter func343,ntmps343
  go_wp2_with fail;refine HK.L ?_;rintro en w2⟨xa,xc,a2,S',gI,rfl,ho,L,h,hM,hE,Q,V,oQ⟩;have Y:=HW.o;unfold kx at Y;rw[<-Y]at ho oQ h;have j:w2.heap[w.heap.size+1+1]?=some (im #[.int .i64 0,.int .i64 0,.int .i64 0,gN none 0 0] 222 (0,0)):=(oQ.block _ C (by rw[iJ _ _ _ _ C];exact Ne.symm a0)).H HX;let⟨n0,n1,n2,n3,lN⟩:=rX j;let⟨f0,f1,f2,f3⟩:=yo j 0 1 2 3;have HP:=gP (And.intro ho (And.intro L (And.intro h (And.intro hM (And.intro hE (And.intro Q (And.intro V (And.intro oQ j))))))));clear ho L h hM hE Q V oQ j Y HK;unfold lJ;go_wp2;obtain⟨ho,L,h,hM,hE,Q,V,oQ,j⟩:=HP.o;have Z:=((((gL.refl (λb=>b=w.heap.size+1+1) w2).setCell ⟨w.heap.size+1+1,0,none⟩ (.inl rfl) (.int .i64 R.1.wh)).setCell ⟨w.heap.size+1+1,1,none⟩ (.inl rfl) (.int .i64 R.1.pr)).setCell ⟨w.heap.size+1+1,2,none⟩ (.inl rfl) (.int .i64 R.1.ba)).setCell ⟨w.heap.size+1+1,3,none⟩ (.inl rfl) (gN xa R.1.val.length xc);exact aG (v:=lJ R.1.wh R.1.pr R.1.ba (gN xa R.1.val.length xc)) (by simp[results,results341,results342,results343,go_sem,lJ,n0,n1,n2,n3]) rfl (M7 a0 HB a1 j ho L h hM hE Q V oQ Z)
def Ig(h:Vt w gH tg p rs S)(j:tg≠3)(kd ln nr e x ck cl ca)(va)(vc)(ys)(A:(Lit.int .i64 e).wf=true)(F:(Lit.int .i64 x).wf=true)(H:(iE rs).length<=1000000000000)(L:rs.length<=1000000000000):rN 341 #[.agg #[O p],Fg kd ln nr e x ck cl ca (gN va ys.length vc)] w gH tg p rs S (oD (S rs.length) 5 e x ys):=
 Aq j kd ln nr e x ck cl ca va vc ys _ (.inl ⟨rfl,rfl,rfl⟩) λ_ Q=>RX (h.only (iT Q) (λ_ _ e=>e.elim) λ_ V=>gV _ _ _ _ V) e x ys A F H L
def M4(h:Vt w gH tg p rs S)(F:tg≠3)(kd ln nr e x ck cl ca)(va)(vc)(ys)(H:(Lit.int .i64 e).wf=true)(L:(Lit.int .i64 x).wf=true)(Z:(iE rs).length<=1000000000000)(hn:rs.length<=1000000000000)(hv:Bs w (gN va ys.length vc) (ys.map B8))(j:∀g,(gN va ys.length vc).ownBlock=some g->g<w.heap.size/\gH g≠tg)(Q:ys.length<=255)(V:mR ys):rN 342 #[.agg #[O p],Fg kd ln nr e x ck cl ca (gN va ys.length vc)] w gH tg p rs S (oD (S rs.length) 6 e x ys):=
 Aq F kd ln nr e x ck cl ca va vc ys _ (.inr (.inl ⟨rfl,rfl,rfl⟩)) λ_ Y=>UH (h.only (iT Y) (λ_ _ e=>e.elim) λ_ A=>gV _ _ _ _ A) e x va vc ys H L Z hn (hv.bl Y) (λg A=>⟨af (j g A).1 Y.lt,by rw[gV _ _ _ _ (j g A).1];exact(j g A).2⟩) Q V
def Dy(h:Vt w gH tg p rs S)(j:tg≠3)(kd ln nr e x ck cl ca)(va)(vc)(ys)(A:(Lit.int .i64 e).wf=true):rN 343 #[.agg #[O p],Fg kd ln nr e x ck cl ca (gN va ys.length vc)] w gH tg p rs S (oD (S rs.length) 7 e x ys):=
 Aq j kd ln nr e x ck cl ca va vc ys _ (.inr (.inr ⟨rfl,rfl,rfl⟩)) λ_ F=>LJ (h.only (iT F) (λ_ _ e=>e.elim) λ_ H=>gV _ _ _ _ H) e x ys A
end
def S3(w):(Instr.makeMap 405 none).run prog w=.ok (.map (some w.heap.size)) (w.alloc (.map #[] 0)):=rfl
def IU(W:World)(g)(es)(n)(k)(f)(j:g=W.heap.size)(A:Instr.findNow (.int .i64) (.int .i64 k) es.toList 0=some none):(Instr.mapUpdate 405 (.map (some g)) (.int .i64 k) f).run prog (W.alloc (.map es n))=.ok () (W.alloc (.map (es.push ⟨.int .i64 k,f,n⟩) (n+1))):=by
 subst j;have h:(W.alloc (.map es n)).heap[W.heap.size]?=some (.map es n):=ao W _;simp only[Instr.mapUpdate,Sem.run_bind,Z4 underlying405,Result.andThen,aI h,(eW (P:=prog) (w:=W.alloc (.map es n)) (k:= .int .i64 k) underlying3 um false 9999),(fa (w:=W.alloc (.map es n)) underlying3 A)];rw[Z7 _ h,By]
def Ei:Array MapEntry:=#[⟨I 5,(Value.func (Fn.func 341) #[] #[]),0⟩,⟨I 6,(Value.func (Fn.func 342) #[] #[]),1⟩,⟨I 7,(Value.func (Fn.func 343) #[] #[]),2⟩]
def DS(w)(g)(k)(i)(f)(h:w.heap[g]?=some (.map Ei 3))(j:Instr.findNow (.int .i64) (.int .i64 k) Ei.toList 0=some (some (i,f))):(Instr.lookup 405 (.map (some g)) (.int .i64 k) true).run prog w=.ok (.tuple #[f,.bool true]) w:=by
 have A:=fa (w:=w) underlying3 j;have F:=eW (P:=prog) (w:=w) (k:= .int .i64 k) underlying3 um Ei.isEmpty 9999;simp[Instr.lookup,aI h,F,A]
section
variable{w:World}
def My(h:Vt w gH tg p rs S)(j:tg≠3)(kd ln nr e x ck cl ca)(H:kd=5\/kd=6\/kd=7)(va)(vc)(ys)(A:(Lit.int .i64 e).wf=true)(F:(Lit.int .i64 x).wf=true)(Y:(iE rs).length<=1000000000000)(Z:rs.length<=1000000000000)(hv:Bs w (gN va ys.length vc) (ys.map B8))(L:∀g,(gN va ys.length vc).ownBlock=some g->g<w.heap.size/\gH g≠tg)(Q:ys.length<=255)(V:mR ys):rN (336+kd.toNat) #[.agg #[O p],Fg kd ln nr e x ck cl ca (gN va ys.length vc)] w gH tg p rs S (oD (S rs.length) kd e x ys):=by
 obtain rfl|rfl|rfl:=H
 .exact Ig h j 5 ln nr e x ck cl ca va vc ys A F Y Z
 .exact M4 h j 6 ln nr e x ck cl ca va vc ys A F Y Z hv L Q V
 exact Dy h j 7 ln nr e x ck cl ca va vc ys A
def Q5{w3:World}{h:List Rc}{R:Vo×(Int->Ep)}{Y:Nat}(L:Bl w W)(Q:∀g,g<W.heap.size->gI g=iq gH w.heap.size 3 g)(hM:ve rs S h S')(hE:S' h.length=R.2)(Z:(iE h).length<=(iE rs).length+300)(a0:Vt w2 gI tg p h S')(V:gL (λg=>iq gH w.heap.size 3 g=tg) W w2)(H:Bl w2 w3)(ho:w3.ownsRow w2.heap.size 5 1 (gN ba (iV 102 [nr,pj h,R.1.wh,R.1.pr,R.1.ba] R.1.val).length Y) (iV 102 [nr,pj h,R.1.wh,R.1.pr,R.1.ba] R.1.val).length ((iV 102 [nr,pj h,R.1.wh,R.1.pr,R.1.ba] R.1.val).map B8)):∃j A h S' gI,(gX (.tuple #[gN ba (iV 102 [nr,pj h,R.1.wh,R.1.pr,R.1.ba] R.1.val).length Y,.bool true]):Ending)=gX (.tuple #[gN j (iV 102 [nr,pj h,R.1.wh,R.1.pr,R.1.ba] R.1.val).length A,.bool true])/\w3.ownsRow w.heap.size 5 1 (gN j (iV 102 [nr,pj h,R.1.wh,R.1.pr,R.1.ba] R.1.val).length A) (iV 102 [nr,pj h,R.1.wh,R.1.pr,R.1.ba] R.1.val).length ((iV 102 [nr,pj h,R.1.wh,R.1.pr,R.1.ba] R.1.val).map B8)/\(∀g,(gN j (iV 102 [nr,pj h,R.1.wh,R.1.pr,R.1.ba] R.1.val).length A).ownBlock=some g->gI g=4)/\(∀g,g<w.heap.size->gI g=gH g)/\ve rs S h S'/\S' h.length=R.2/\(iE h).length<=(iE rs).length+300/\Vt w3 gI tg p h S'/\gL (λg=>gH g=tg) w w3:=by
 have s1:=L.lt;have s2:=V.size;have s3:=H.lt;refine⟨ba,Y,h,S',iq gI w2.heap.size 4,rfl,gZ ho λg F=>?_,λg F=>iJ _ _ _ _ (ho.lt g F).1,λg F=>?_,hM,hE,Z,a0.only (iT H) (λ_ _ e=>e.elim) λg F=>gV _ _ _ _ F,?_⟩
 .have h1:=(ho.lt g F).1;omega
 .rw[gV _ _ _ _ C,Q g C,gV _ _ _ _ F]
 refine⟨H.os.H (V.os.H L.os),H.tape.H (V.tape.H L.tape),H.output.H (V.output.H L.output),C,λi hi hn=>?_⟩;rw[H.heap C,V.block i C λe=>hn (by rwa[gV _ _ _ _ hi]at e),L.heap hi]
theorem Ft(h:Vt w gH tg p rs S)(htg:tg≠3)(kd ln nr e x ck cl ca)(hkd:kd=5\/kd=6\/kd=7)(va)(vc)(ys)(hwf:(Lit.int .i64 e).wf=true)(hxf:(Lit.int .i64 x).wf=true)(hl:(iE rs).length<=1000000000000)(hn:rs.length<=1000000000000)(hv:Bs w (gN va ys.length vc) (ys.map B8))(hvb:∀g,(gN va ys.length vc).ownBlock=some g->g<w.heap.size/\gH g≠tg)(hy5:ys.length<=255)(hys:mR ys)(R)(hR:R=oD (S rs.length) kd e x ys)(hRl:R.1.val.length<=255):iB 340 #[.agg #[.pointer (some ⟨p,0,none⟩)],Fg kd ln nr e x ck cl ca (gN va ys.length vc)] w λen w'=>∃ba bc rs' S' gI,en=gX (.tuple #[gN ba (iV 102 [nr,pj rs',R.1.wh,R.1.pr,R.1.ba] R.1.val).length bc,.bool true])/\w'.ownsRow w.heap.size 5 1 (gN ba (iV 102 [nr,pj rs',R.1.wh,R.1.pr,R.1.ba] R.1.val).length bc) (iV 102 [nr,pj rs',R.1.wh,R.1.pr,R.1.ba] R.1.val).length ((iV 102 [nr,pj rs',R.1.wh,R.1.pr,R.1.ba] R.1.val).map B8)/\(∀g,(gN ba (iV 102 [nr,pj rs',R.1.wh,R.1.pr,R.1.ba] R.1.val).length bc).ownBlock=some g->gI g=4)/\(∀g,g<w.heap.size->gI g=gH g)/\ve rs S rs' S'/\S' rs'.length=R.2/\(iE rs').length<=(iE rs).length+300/\Vt w' gI tg p rs' S'/\gL (λg=>gH g=tg) w w':=by
 have hmk:=S3;have hz2:((w.alloc (im #[.pointer (some ⟨p,0,none⟩)] 238)).alloc (AM kd ln nr e x ck cl ca va ys vc)).heap.size=w.heap.size+1+1:=gG;have q1:=IU ((w.alloc (im #[.pointer (some ⟨p,0,none⟩)] 238)).alloc (AM kd ln nr e x ck cl ca va ys vc)) (w.heap.size+1+1) #[] 0 5 (Value.func (Fn.func 341) #[] #[]) hz2.symm rfl;have q2:=IU ((w.alloc (im #[.pointer (some ⟨p,0,none⟩)] 238)).alloc (AM kd ln nr e x ck cl ca va ys vc)) (w.heap.size+1+1) #[⟨.int .i64 5,(Value.func (Fn.func 341) #[] #[]),0⟩] 1 6 (Value.func (Fn.func 342) #[] #[]) hz2.symm rfl;have q3:=IU ((w.alloc (im #[.pointer (some ⟨p,0,none⟩)] 238)).alloc (AM kd ln nr e x ck cl ca va ys vc)) (w.heap.size+1+1) #[⟨.int .i64 5,(Value.func (Fn.func 341) #[] #[]),0⟩,⟨.int .i64 6,(Value.func (Fn.func 342) #[] #[]),1⟩] 2 7 (Value.func (Fn.func 343) #[] #[]) hz2.symm rfl;simp only[List.push_toArray,dV,dz,Nat.reduceAdd]at q1 q2 q3;have b3:Bl w (((w.alloc (im #[.pointer (some ⟨p,0,none⟩)] 238)).alloc (AM kd ln nr e x ck cl ca va ys vc)).alloc (.map Ei 3)):=(((Bl.refl w).alloc _).alloc _).alloc _;obtain⟨W,hW⟩:∃W,W=((w.alloc (im #[.pointer (some ⟨p,0,none⟩)] 238)).alloc (AM kd ln nr e x ck cl ca va ys vc)).alloc (.map Ei 3):=⟨_,rfl⟩;have hs3:W.heap.size=w.heap.size+1+1+1:=nG hW;rw[<-hW]at b3;have hu0:W.heap[w.heap.size]?=some (im #[.pointer (some ⟨p,0,none⟩)] 238 (0,0)):=by rw[hW,fJ _ _ _ ig,fJ _ _ _ gG];exact ao w _
 have hq:W.heap[w.heap.size+1]?=some (im #[.int .i64 kd,.int .i64 ln,.int .i64 nr,.int .i64 e,.int .i64 x,.int .i64 ck,.int .i64 cl,.int .i64 ca,gN va ys.length vc] 100 (0,0)):=by rw[hW,fJ _ _ _ gG];have:=ao (w.alloc (im #[.pointer (some ⟨p,0,none⟩)] 238)) (AM kd ln nr e x ck cl ca va ys vc);have hz:(w.alloc (im #[.pointer (some ⟨p,0,none⟩)] 238)).heap.size=w.heap.size+1:=gG;rwa[hz]at this
 have u0:W.cell? ⟨w.heap.size,0,none⟩=some (.pointer (some ⟨p,0,none⟩)):=ax W _ 0 _ 238 (0,0) hu0;let⟨g0,g1,g2,g3⟩:=lV hq 0 1 2 3 rfl;let⟨g4,g5,g6⟩:=oR hq 4 5 6 rfl;let⟨g7,g8⟩:=qJ hq 7 8 rfl;have lu:w.heap.size<W.heap.size:=C;have lq:w.heap.size+1<W.heap.size:=C;have HU:Hid (rN (336+kd.toNat) #[.agg #[.pointer (some ⟨p,0,none⟩)],Fg kd ln nr e x ck cl ca (lF va ys vc)] W (iq gH w.heap.size 3) tg p rs S R):=by rw[hR];exact My (h.only (iT b3) (λ_ _ e=>e.elim) λg hg=>gV _ _ _ _ hg) htg kd ln nr e x ck cl ca hkd va vc ys hwf hxf hl hn (hv.bl b3) (λg hg=>⟨af (hvb g hg).1 b3.lt,by rw[gV _ _ _ _ (hvb g hg).1];exact(hvb g hg).2⟩) hy5 hys
 have hm3:W.heap[w.heap.size+1+1]?=some (.map Ei 3):=by rw[hW];have:=ao ((w.alloc (im #[.pointer (some ⟨p,0,none⟩)] 238)).alloc (AM kd ln nr e x ck cl ca va ys vc)) (.map Ei 3);rwa[hz2]at this
 have ql:(Instr.lookup 405 (.map (some (w.heap.size+1+1))) (.int .i64 kd) true).run prog W=.ok (.tuple #[.func (Fn.func (336+kd.toNat)) #[] #[],.bool true]) W:=by
  obtain rfl|rfl|rfl:=hkd
  .exact DS W _ 5 0 _ hm3 rfl
  .exact DS W _ 6 1 _ hm3 rfl
  exact DS W _ 7 2 _ hm3 rfl
 have HW:=gP hW;unfold Ei at HW;let⟨HB,HQ⟩:=gO b3 (And.intro hu0 hq);have hWt:=HW.o;clear hW hR b3 h hv hvb hys hm3 hu0 hq hz2;rw[hWt]at ql;clear hWt;unfold rN at HU;obtain rfl|rfl|rfl:=hkd;all_goals
  have hWk:=HW.o;go_enter func340,ntmps340;go_upto_region 5 with fail;rw[<-hWk];clear hWk ql q1 q2 q3 hmk;go_wp2_with fail;refine HU.L ?_;rintro en w2⟨xa,xc,rs',S',gI,rfl,ho,ht1,hold,hM,hE,hsz,hvt,oQ⟩;have e1:=(oQ.block w.heap.size lu (by rw[iJ _ _ _ _ jl];exact Ne.symm htg)).H HQ.1;have e2:=(oQ.block (w.heap.size+1) lq (by rw[iJ _ _ _ _ oC];exact Ne.symm htg)).H HQ.2;let⟨V,hV⟩:=gJ (w2.alloc (im #[.int .i64 R.1.wh,.int .i64 R.1.pr,.int .i64 R.1.ba,gN xa R.1.val.length xc] 222));have bV:Bl w2 V:=by rw[<-hV];exact jC.alloc _
  let⟨v0,v1,v2,v3,lv⟩:=rX (show V.heap[w2.heap.size]?=some (im #[.int .i64 R.1.wh,.int .i64 R.1.pr,.int .i64 R.1.ba,gN xa R.1.val.length xc] 222 (0,0)) by rw[<-hV];exact ao w2 _);have l1:=(ae.1 e1).1;have l2:=(ae.1 e2).1;have zu:=(bV.cell l1).H (ax w2 _ 0 _ 238 (0,0) e1);have z2:=(bV.cell l2).H (ax w2 _ 2 _ 100 (0,0) e2);simp at zu z2;have l1V:=af l1 bV.lt;have l2V:=af l2 bV.lt;have HLt:Hid (∀W',Bl V W'->iB 339 #[.pointer (some ⟨p,0,none⟩)] W' λen w'=>en=gX (.int .i64 (pj rs'))/\Bl W' w'):=λW' hW'=>Hy (hvt.bl (bV.H hW'));have HVB:Hid (∀W',Bl V W'->_):=λW' hW'=>AP nr (pj rs') R.1.wh R.1.pr R.1.ba xa xc R.1.val W' ((Az ho).bl (bV.H hW')) (λb hb=>af (ho.lt b hb).2 (bV.H hW').lt) hRl;let⟨HV,HBV,HP⟩:=iz hV bV (And.intro hold (And.intro hM (And.intro hE (And.intro hsz (And.intro hvt oQ)))));clear ho ht1 hold hM hE hsz hvt oQ e1 e2 hV bV HU HW u0 g0 g1 g2 g3 g4 g5 g6 g7 g8;unfold lJ;go_upto_region 6 with fail;rw[HV.o];clear HV;go_region_held3(λW'=>W'.cell? ⟨w.heap.size,0,none⟩=some (.pointer (some ⟨p,0,none⟩))/\W'.cell? ⟨w.heap.size+1,2,none⟩=some (.int .i64 nr)/\W'.cell? ⟨w2.heap.size,0,none⟩=some (.int .i64 R.1.wh)/\W'.cell? ⟨w2.heap.size,1,none⟩=some (.int .i64 R.1.pr)/\W'.cell? ⟨w2.heap.size,2,none⟩=some (.int .i64 R.1.ba)/\W'.cell? ⟨w2.heap.size,3,none⟩=some (gN xa R.1.val.length xc)) (go_keep) (first|(go_at_call 339;refine(HLt _ ?hb).L ?_;(case hb=>exact jg);rintro en w3⟨rfl,hb3⟩;have hB3:Bl V w3:=Bl.H jg hb3;have yu:=(hB3.cell l1V).H zu;have y2:=(hB3.cell l2V).H z2;let⟨x0,x1,x2,x3⟩:=hB3.M lv v0 v1 v2 v3;have HB3:=gP hB3;clear hb3 hB3)|(go_at_call 344;refine(HVB _ ?hb).L ?_;(case hb=>first|exact HB3.o|exact HB3.drew|exact HB3.drewN _);rintro en w4⟨ba,bc,rfl,hb4,ho4⟩;have hB4:Bl V w4:=Bl.H (by first|exact HB3.o|exact HB3.drew|exact HB3.drewN _) hb4;have tu:=(hB4.cell l1V).H zu;have t2:=(hB4.cell l2V).H z2;let⟨t4,t5,t6,t7⟩:=hB4.M lv v0 v1 v2 v3;have HQ4:=m9 hB4 ho4;clear hb4 hB4 ho4));all_goals
   go_wp2;go_ret2;exact Q5 HB HP.1 HP.2.1 HP.2.2.1 HP.2.2.2.1 HP.2.2.2.2.1 HP.2.2.2.2.2 (HBV.H HQ4.1) (gZ HQ4.2 λg hg=>by have:=(HQ4.2.lt g hg).1;have:=HBV.lt;have:=HB3.lt;first|omega|(simp at*;omega))
end
def il.KX:(prog.info? 294).map (λi=>(i.zero,i.size,i.bytes))=some (some (.agg #[I 0,I 0]),2,16):=rfl
section
variable{w:World}{q q1 q2:List Qz}{z z':Qz}
def Q4{s:Value}(h:(w.alloc (im #[I cl,I ln] 294)).alloc (im #[I nr,s] 296)=W):Bl w W/\W.cell? (U w.heap.size 0)=some (I cl)/\W.cell? (U w.heap.size 1)=some (I ln)/\W.cell? (U (w.heap.size+1) 0)=some (I nr)/\W.cell? (U (w.heap.size+1) 1)=some s/\w.heap.size+1<W.heap.size:=by subst h;exact⟨(jC.alloc _).alloc _,gG,gG,gG,gG,gG⟩
theorem SD(h:Qm w gH tn tb g gm clk iv ov (l1++e::l2) q)(hk:∀x∈l1,¬(e.cl=x.cl/\e.ln=x.ln))(nr ni)(sa oa)(sn sc on oc)(hv:e.v=.agg #[I ni,gN oa on oc])(hn:nr<=ni):iB 212 #[.pointer (some (U g 1)),ak e.cl e.ln,.agg #[I nr,gN sa sn sc]] w λen w'=>en=iw/\Bl w w':=by
 have c1:w.cell? (U g 1)=some (.map (some gm)):=ax w g 1 _ 127 (0,0) h.hp;have Y:=h.lg;have L:Hid (∀W,Bl w W->(Instr.lookup 120 (.map (some gm)) (ak e.cl e.ln) true).run prog W=.ok (.tuple #[.agg #[I ni,gN oa on oc],.bool true]) W):=λW A=>by have:=sI ((A.heap (ae.1 h.mp).1).H h.mp) hk rfl rfl true;rw[this,hv];rfl
 let⟨W,A⟩:=gJ ((w.alloc (im #[I e.cl,I e.ln] 294)).alloc (im #[I nr,gN sa sn sc] 296));let⟨j,k0,k1,n0,n1,F⟩:=Q4 A;have d1:=(j.cell Y).H c1;have a2:=af Y j.lt;have lh:w.heap.size<W.heap.size:=C;have HB:=gP j;have Z:=L W.drew j.drew;have a0:=L (W.alloc (im #[I 0,OO] 296)).drew (j.alloc _).drew;have a1:=L (W.drew.alloc (im #[I 0,OO] 296)) (j.drew.alloc _);have HW:=gP A;clear j A h L;go_enter func212,ntmps212;go_upto_region 1 with fail;rw[HW.o];clear HW;go_cut[6,7] λx y wx=>∃V,x= O V/\y=.bool true/\Hid (wx.heap[V]?=some (im #[I ni,gN oa on oc] 296 (0,0))/\Bl W wx)
 case first=>
  go_region;all_goals(go_wp2_with fail;go_meet)
  all_goals first|exact⟨_,rfl,rfl,ao W _,(jC.alloc _).drew⟩|exact⟨_,rfl,rfl,ao W.drew _,(jC.drew).alloc _⟩
 case rest=>obtain⟨V,rfl,rfl,Q⟩:=hcut;let⟨y0,y1,ly⟩:=Pb Q.1;have z0:=(Q.2.cell F).H n0;have lz:=af F Q.2.lt;go_wp2;exact aG (v:= .tuple #[]) (by simp[results,results212,go_sem]) rfl ⟨rfl,HB.H Q.2⟩
theorem VB(h:Qm w gH tn tb g gm clk iv ov (l1++e::l2) q)(hk:∀x∈l1,¬(e.cl=x.cl/\e.ln=x.ln))(nr ni)(sa oa)(sn sc on oc)(hv:e.v=.agg #[I ni,gN oa on oc])(hn:ni<nr):iB 212 #[.pointer (some (U g 1)),ak e.cl e.ln,.agg #[I nr,gN sa sn sc]] w λen w'=>en=iw/\∃L,Bl w L/\w'=setBlock L gm (.map (kR (l1++{e with v:= .agg #[I nr,gN sa sn sc]}::l2)) clk):=by
 have c1:w.cell? (U g 1)=some (.map (some gm)):=ax w g 1 _ 127 (0,0) h.hp;have lg:=h.lg;have HL:Hid (∀W,Bl w W->(Instr.lookup 120 (.map (some gm)) (ak e.cl e.ln) true).run prog W=.ok (.tuple #[.agg #[I ni,gN oa on oc],.bool true]) W):=λW A=>by have:=sI ((A.heap (ae.1 h.mp).1).H h.mp) hk rfl rfl true;rw[this,hv];rfl
 have HU:Hid (∀W,Bl w W->(Instr.mapUpdate 120 (.map (some gm)) (ak e.cl e.ln) (.agg #[I nr,gN sa sn sc])).run prog W=.ok () (setBlock W gm (.map (kR (l1++{e with v:= .agg #[I nr,gN sa sn sc]}::l2)) clk))):=λW A=>IT ((A.heap (ae.1 h.mp).1).H h.mp) hk;let⟨W,A⟩:=gJ ((w.alloc (im #[I e.cl,I e.ln] 294)).alloc (im #[I nr,gN sa sn sc] 296));let⟨F,k0,k1,n0,n1,Q⟩:=Q4 A;have d1:=(F.cell lg).H c1;have V:=af lg F.lt;have lh:w.heap.size<W.heap.size:=C;have HB:=gP F;have Y:=HL W.drew F.drew;have Z:=HL (W.alloc (im #[I 0,OO] 296)).drew (F.alloc _).drew;have a0:=HL (W.drew.alloc (im #[I 0,OO] 296)) (F.drew.alloc _);have HW:=gP A;have a1:¬nr<=ni:=C;clear F A h HL;go_enter func212,ntmps212;go_upto_region 1 with fail;rw[HW.o];clear HW;go_cut[6,7] λx y L=>∃gx,x= O gx/\y=.bool true/\Hid (L.heap[gx]?=some (im #[I ni,gN oa on oc] 296 (0,0))/\Bl W L)
 case first=>
  go_region;all_goals(go_wp2_with fail;go_meet)
  all_goals first|exact⟨_,rfl,rfl,ao W _,(jC.alloc _).drew⟩|exact⟨_,rfl,rfl,ao W.drew _,(jC.drew).alloc _⟩
 case rest=>
  obtain⟨gx,rfl,rfl,j⟩:=hcut;let⟨y0,y1,ly⟩:=Pb j.1;let⟨z0,z1⟩:=j.2.B Q n0 n1;let⟨u0,u1⟩:=j.2.B lh k0 k1;have ud:=(j.2.cell V).H d1;have lz:=af Q j.2.lt;have a2:=af V j.2.lt;have a3:=HU wc.drew (HB.H j.2).drew;clear k0 k1 n0 n1 d1 Y Z a0 HU;go_upto_region 5 with fail;go_region;all_goals
   go_wp2;go_end0;exact⟨rfl,_,(HB.H j.2).drew,rfl⟩
theorem UB(h:Qm w gH tn tb g gm clk iv ov l q)(hk:∀x∈l,¬(cl=x.cl/\ln=x.ln))(b0:l.length<=1000)(nr)(sa)(sn sc):iB 212 #[.pointer (some (U g 1)),ak cl ln,.agg #[I nr,gN sa sn sc]] w λen w'=>en=iw/\∃W A gg cap,Bl w W/\W.grownBy A ov.ownBlock/\A.ownsRow 0 294 2 (gN (G gg) (l.length+1) cap) (l.length+1) (vQ l++[I cl,I ln])/\(ov.ownBlock=some gg\/w.heap.size<=gg)/\w'=setBlock (A.setCell (U g 2) (gN (G gg) (l.length+1) cap)).drew gm (.map (kR (l++[⟨cl,ln,.agg #[I nr,gN sa sn sc],clk⟩])) (clk+1)):=by
 let⟨c1,c2⟩:=qJ h.hp 1 2 rfl;have lg:=h.lg;have HL:Hid (∀W,Bl w W->(Instr.lookup 120 (.map (some gm)) (ak cl ln) true).run prog W=.ok (.tuple #[.agg #[I 0,OO],.bool false]) W):=λW hW=>DH ((hW.heap h.lm).H h.mp) hk;let⟨W,hW⟩:=gJ ((w.alloc (im #[I cl,I ln] 294)).alloc (im #[I nr,gN sa sn sc] 296));let⟨bW,k0,k1,n0,n1,a4⟩:=Q4 hW;let⟨d1,d2⟩:=bW.B lg c1 c2;have a5:=af lg bW.lt;have lh:w.heap.size<W.heap.size:=C;have HB:=gP bW;have a6:=HL W.drew bW.drew;have a7:=HL (W.alloc (im #[I 0,OO] 296)).drew (bW.alloc _).drew;have a8:=HL (W.drew.alloc (im #[I 0,OO] 296)) (bW.drew.alloc _);let⟨HW,HQ⟩:=gO hW h;have a1:Hid (ov.ownBlock≠some g):=gY h.ie h.hp gF;obtain⟨Z,oc,ai⟩:∃Z oc,ov=gN Z l.length oc:=by
  obtain⟨e,e'⟩|⟨g,cap,b1,e,_⟩:=h.ie.2
  .exact⟨_,_,jS e e'⟩
  exact⟨_,_,e⟩
 subst ai;have al:Hid (∀b,(lF Z l oc).ownBlock=some b->b<w.heap.size):=λb hb=>(h.ie.lt b hb).2;obtain⟨a9,aa,t0,t1,t2⟩:=fx il.KX;clear bW hW h HL c1 c2;go_enter func212,ntmps212;go_upto_region 1 with fail;rw[HW.o];clear HW;go_cut[6,7] λx y wx=>∃gx,x= O gx/\y=.bool false/\Hid (wx.heap[gx]?=some (im #[I 0,OO] 296 (0,0))/\Bl W wx)
 case first=>
  go_region;all_goals(go_wp2_with fail;go_meet)
  all_goals first|exact⟨_,rfl,rfl,ao W _,(jC.alloc _).drew⟩|exact⟨_,rfl,rfl,ao W.drew _,(jC.drew).alloc _⟩
 case rest=>
  obtain⟨gx,rfl,rfl,HX⟩:=hcut;obtain⟨V,rfl⟩:∃V,V=wc:=⟨_,rfl⟩;let⟨y0,y1,ly⟩:=Pb HX.1;let⟨z0,z1⟩:=HX.2.B a4 n0 n1;let⟨u0,u1⟩:=HX.2.B lh k0 k1;let⟨ud,ue⟩:=HX.2.B a5 d1 d2;have lz:=af a4 HX.2.lt;have ab:=af lh HX.2.lt;have a2:=af a5 HX.2.lt;have bc:=HB.H HX.2;have a3:=(bc.heap lg).H HQ.hp;have am:=aP V g 2 _ 127 a3;have HO:=gP ((iT bc).iX HQ.ie λ_ _ e=>e);have an:Hid (l.length+1<=maxLen):=mV;have ap:Hid ((l.length+1)*16<=140737488355328):=lT;have ac:=gP bc;have aq:Hid (V.heap[g]?=some (im [iv,.map (some gm),gN Z l.length oc].toArray 127 (0,0))):=a3;have b2:w.heap.size<=V.heap.size:=bc.lt;have ad:Hid (∀W' A nv,Bl w W'->W'.grownBy A (lF Z l oc).ownBlock->(Instr.mapUpdate 120 (.map (some gm)) (ak cl ln) (.agg #[I nr,gN sa sn sc])).run prog (A.setCell (U g 2) nv).drew=.ok () (setBlock (A.setCell (U g 2) nv).drew gm (.map (kR (l++[⟨cl,ln,.agg #[I nr,gN sa sn sc],clk⟩])) (clk+1)))):=λW' A nv Q hg=>by have o6:=(gL.B (S:=λb=>some b=(lF Z l oc).ownBlock) Q).H (gL.A hg);have ar:=(o6.block gm HQ.lm λe=>nX ⟨_,_,HQ.mp⟩ HQ.ie e.symm).H HQ.mp;have o7:gL (λb=>b=g) A (A.setCell (U g 2) nv):=(gL.refl (λb=>b=g) A).setCell (U g 2) (.inl rfl) _;exact G8 (w:=(A.setCell (U g 2) nv).drew) ((o7.block gm (by have:=o6.size;have:=HQ.lm;omega) λe=>HQ.Tq e.symm).H ar) hk
  clear k0 k1 n0 n1 d1 d2 a6 a7 a8 bc a3 HQ;go_upto_region 4 with fail;go_cut[] λwx=>∃A gg cap,Hid (wx=A.setCell (U g 2) (gN (G gg) (l.length+1) cap))/\Hid (∃W',Bl V W'/\W'.grownBy A (lF Z l oc).ownBlock)/\Hid (A.ownsRow 0 294 2 (gN (G gg) (l.length+1) cap) (l.length+1) (vQ l++[I cl,I ln]))/\Hid ((lF Z l oc).ownBlock=some gg\/w.heap.size<=gg)
  case first=>
   go_region_law
    ((refine step_append_lies _ jQ _ _ _ jQ 0 294 a9 _ 2 16 underlying121 aa t0 t1 t2 rfl C _ l.length (vQ l) jQ ((HO.alloc _).drew) (U V.heap.size 0) 1 1 [I cl,I ln] jQ jQ (fW (cs:=#[I cl,I ln]) (t:=294) (fr:=(0,0)) (ao V _)) rS C an ap gG (V.heap.size+1) gG ?_;intro gg cp A F j L Y;have b3:=(AN (((Bl.refl V).alloc _).drew) j (o:=2) a2 a1).1.H ue;have b4:=(AN (((Bl.refl V).alloc _).drew) j (o:=2) a2 a1).2.H am;have b5:g<A.heap.size:=(by have:=j.size;simp at this;omega);have au:=nK F j L Y;clear F j L Y))
   all_goals(go_wp2_with fail;go_meet)
   all_goals
    obtain⟨F,j,L,Y⟩:=au.o;exact⟨A,gg,cp,rfl,⟨_,(jC.alloc _).drew,j⟩,F,L.imp (λe=>e) λe=>C⟩
  case rest=>
   let⟨A,gg,cap,HE,HG,av,aw⟩:=hcut;obtain⟨W',Q,a0⟩:=HG.o;have b6:=ad W' A (gN (G gg) (l.length+1) cap) (ac.H Q) a0;have o6:=(gL.B (S:=λb=>some b=(lF Z l oc).ownBlock) Q).H (gL.A a0);have o7:gL (λb=>b=g) A (A.setCell (U g 2) (gN (G gg) (l.length+1) cap)):=(gL.refl (λb=>b=g) A).setCell (U g 2) (.inl rfl) _;have nb:∀b,w.heap.size<=b->¬some b=(lF Z l oc).ownBlock:=λb hb e=>by have:=al b e.symm;omega
   have s6:=o6.size;have ce:∀b i v,w.heap.size<=b->b<V.heap.size->V.cell? (U b i)=some v->(A.setCell (U g 2) (gN (G gg) (l.length+1) cap)).cell? (U b i)=some v:=λb i v h1 h2 h3=>by rw[o7.cell (by show b<_;omega) (by show¬b=g;omega),o6.cell h2 (nb b h1)];exact h3
   have e0:=ce _ _ _ jl ab u0;have e1:=ce _ _ _ jl ab u1;have e2:=ce _ _ _ C lz z0;have e3:=ce _ _ _ C lz z1;have e4:(A.setCell (U g 2) (gN (G gg) (l.length+1) cap)).cell? (U g 1)=some (.map (some gm)):=by exact ax _ g 1 _ 127 (0,0) (jx 2 _ A _ ((o6.block g a2 λe=>a1.o e.symm).H aq))
   have l6:g<(A.setCell (U g 2) (gN (G gg) (l.length+1) cap)).heap.size:=by have:=o7.size;omega
   have l7:w.heap.size+1<(A.setCell (U g 2) (gN (G gg) (l.length+1) cap)).heap.size:=by have:=o7.size;omega
   have HF:=m9 (ac.H Q) a0;rw[HE.o];clear Q a0 o6 o7 nb s6 ce HE HG ad u0 u1 z0 z1 ud ue y0 y1;generalize ag:A.setCell (U g 2) (gN (G gg) (l.length+1) cap)=w7 at*;have aY:=gP ag;clear ag;go_upto_region 5 with fail;go_region;all_goals
    go_wp2;go_end0;refine⟨rfl,W',A,gg,cap,HF.1,HF.2,av,aw,?_⟩;rw[aY.o]
end
def Qz.is(z:Qz)(cl ln:Int):Bool:=z.cl==cl&&z.ln==ln
def Br(q:List Qz)(a:Qz):List Qz:=match q.find? λb=>b.is a.cl a.ln with
 |none=>q++[a]
 |some b=>if a.nr<=b.nr then q else q.map λb=>if b.is a.cl a.ln then a else b
def Q0(w:World)(gH:Nat->Nat)(tn tb g:Nat)(iv:Value)(q:List Qz):Prop:=∃gm clk ov l,Qm w gH tn tb g gm clk iv ov l q
section
variable{w:World}{q:List Qz}
def Qm.key(h:Qm w gH tn tb g gm clk iv ov l q){z:Qz}(j:l[i]?=some e)(A:q[i]?=some z):e.cl=z.cl/\e.ln=z.ln:=⟨(h.vs i e z j A).1,(h.vs i e z j A).2.1⟩
def NU{α:Type}{l:List α}{e:α}(h:l[i]?=some e):l=l.take i++e::l.drop (i+1)/\(l.take i).length=i:=by obtain⟨j,rfl⟩:=aj.1 h;exact⟨by rw[fX,dK],ig⟩
def QM{h q2:List Qz}{b a:Qz}(A:∀x∈h,x.is a.cl a.ln=false)(F:b.is a.cl a.ln=true)(H:∀x∈q2,x.is a.cl a.ln=false):Br (h++b::q2) a=if a.nr<=b.nr then h++b::q2 else h++a::q2:=by
 unfold Br;have L:(h++b::q2).find? (λb=>b.is a.cl a.ln)=some b:=by rw[List.find?_append,bU.2 (λx j=>by rw[A x j];simp)];simp[F]
 rw[L];simp only;split
 .rfl
 rw[aZ,bj,aE F];congr 1
 .conv=>rhs;rw[<-eI h]
  exact bf λx j=>by simp[A x j]
 congr 1
 conv=>rhs;rw[<-eI q2]
 exact bf λx j=>by simp[H x j]
def I1{z:Qz}:z.is cl ln=true↔z.cl=cl/\z.ln=ln:=by simp[Qz.is]
theorem JN(h:Qm w gH tn tb g gm clk iv ov l q)(z)(sa)(sc)(ad:q.length<=1000)(ag:tb≠tn)(hs:w.ownsRow 0 5 1 (gN sa z.data.length sc) z.data.length (z.data.map B8))(ht:∀b,(gN sa z.data.length sc).ownBlock=some b->gH b=tb)(a1:∀x∈l,∀b,x.xU=some b->(gN sa z.data.length sc).ownBlock≠some b):iB 212 #[.pointer (some (U g 1)),ak z.cl z.ln,.agg #[I z.nr,gN sa z.data.length sc]] w λen w'=>en=iw/\∃gI,(∀b,b<w.heap.size->gI b=gH b)/\Q0 w' gI tn tb g iv (Br q z)/\gL (λb=>gH b=tn) w w':=by
 have hz:∀bo,wk w gH tb ⟨z.cl,z.ln,.agg #[I z.nr,gN sa z.data.length sc],bo⟩ z:=λbo=>⟨rfl,rfl,sa,sc,rfl,hs,ht⟩;have a2:∀bo,(Qv.mk z.cl z.ln (.agg #[I z.nr,gN sa z.data.length sc]) bo).xU=(gN sa z.data.length sc).ownBlock:=λbo=>by simp[Qv.xU]
 cases hf:q.find? λb=>b.is z.cl z.ln with
 |none=>
  have a3:∀x∈l,¬(z.cl=x.cl/\z.ln=x.ln):=λx A e=>by
   obtain⟨i,hi,rfl⟩:=aV.1 A;have a4:i<q.length:=by rw[<-h.len];exact hi
   have hk:=h.key (ah hi) (ah a4);have:=bU.1 hf q[i] (aL a4);exact this (I1.2 ⟨hk.1.symm.H e.1.symm,hk.2.symm.H e.2.symm⟩)
  refine(UB h a3 (by rw[h.len];exact ad) z.nr sa z.data.length sc).L ?_;rintro en w'⟨rfl,W,w6,gg,cap,bW,hg,a5,ai,rfl⟩;obtain⟨k1,k2⟩:=h.push bW hg a5 ai (hz clk) (λx A b Z=>by rw[a2];exact a1 x A b Z) (λx A e=>a3 x A ⟨e.1.symm,e.2.symm⟩) ag;refine⟨rfl,iq gH w.heap.size tn,λb Z=>gV _ _ _ _ Z,?_,k2⟩;have:Br q z=q++[z]:=by unfold Br;rw[hf]
  rw[this];exact⟨_,_,_,_,k1⟩
 |some b=>
  obtain⟨Z,F,q2,rfl,h1⟩:=List.find?_eq_some_iff_append.1 hf;have hi:F.length<l.length:=by have:=h.len;simp at this;omega
  let⟨hl,a6⟩:=NU (ah hi);have a7:(F++b::q2)[F.length]?=some b:=gG;obtain⟨a8,a9⟩:=h.key (ah hi) a7;obtain⟨b1,b2⟩:=I1.1 Z;obtain⟨_,_,oa,oc,hv,_,_⟩:=h.vs F.length _ _ (ah hi) a7;generalize l[F.length]=e at*;generalize l.take F.length=l1 at*;generalize l.drop (F.length+1)=l2 at*;subst hl;have aa:=h.ky;rw[cu,cI]at aa;obtain⟨_,⟨al,_⟩,am⟩:=aa;have hk:∀x∈l1,¬(e.cl=x.cl/\e.ln=x.ln):=λx A e'=>am x A e aN ⟨e'.1.symm,e'.2.symm⟩;have h2:∀x∈q2,x.is z.cl z.ln=false:=λx A=>by
   cases an:x.is z.cl z.ln with
   |false=>rfl
   |true=>
    exfalso;obtain⟨j,hj,rfl⟩:=aV.1 A;have ab:=h.len;simp at ab;have ac:j<l2.length:=C;have e1:(l1++e::l2)[l1.length+(j+1)]?=some l2[j]:=by rw[aC C];simp[ac]
    have e2:(F++b::q2)[l1.length+(j+1)]?=some q2[j]:=by rw[aC C,a6];simp[hj]
    obtain⟨m1,m2⟩:=h.key e1 e2;obtain⟨x1,x2⟩:=I1.1 an;exact al _ (aL ac) ⟨by rw[m1,x1,a8,b1],by rw[m2,x2,a9,b2]⟩
  have ap:∀x∈F,x.is z.cl z.ln=false:=λx A=>by simpa using h1 x A
  have ez:=QM ap Z h2;rw[ez];have Q:z.cl=e.cl:=jS a8 b1;have V:z.ln=e.ln:=jS a9 b2;by_cases hn:z.nr<=b.nr
  .rw[aE hn];rw[show ak z.cl z.ln=ak e.cl e.ln from by rw[Q,V]];have:=SD h hk z.nr b.nr sa oa z.data.length sc b.data.length oc hv hn;refine gT this λw' Y=>?_;exact⟨rfl,gH,λ_ _=>rfl,⟨_,_,_,_,h.bl Y hU⟩,gL.B Y⟩
  rw[az hn];rw[show ak z.cl z.ln=ak e.cl e.ln from by rw[Q,V]];have:=VB h hk z.nr b.nr sa oa z.data.length sc b.data.length oc hv C;refine this.L ?_;rintro en w'⟨rfl,wx,a0,rfl⟩;have A:=h.bl a0 (gI:=gH) hU;have aq:wk wx gH tb ⟨e.cl,e.ln,.agg #[I z.nr,gN sa z.data.length sc],e.bo⟩ z:=by have:=(hz e.bo).only (gI:=gH) (iT a0) (λ_ _ e=>e.elim) hU;rwa[Q,V]at this
  refine⟨rfl,gH,λ_ _=>rfl,⟨_,_,_,_,A.vj a6 aq ?_⟩,(gL.B a0).H ((j7 _ _ _).L λb Z e=>?_)⟩
  .intro x ar b' Y e';have:=a2 e.bo;rw[Q,V]at this;rw[this]at e';exact a1 x ar b' Y e'
  rw[e];exact h.tm
end
theorem tI(g):∀(F:List Value) (o:Nat) (w:World) (A:Array Value) (t:TypeId),w.heap[g]?=some (im A t (0,0))->∃j,(w.setCells g o F).heap[g]?=some (im j t (0,0))/\j.size=A.size/\gL (λb=>b=g) w (w.setCells g o F)
 |[],_,w,A,_,h=>⟨A,h,rfl,ug⟩
 |v::r,o,w,A,t,h=>by have L:=fy w g o _ t v h;obtain⟨j,Q,V,Y⟩:=tI g r _ _ _ t L;exact⟨j,Q,nG V,((gL.refl (λb=>b=g) w).setCell (U g o) (.inl rfl) v).H Y⟩
def ON(w)(g n c)(ty)(cur)(H:w.heap[g]?=some (im cur 294 (0,0)))(hn:0<n)(hs:n*2<=cur.size):∃w',(Builtin.clear_ #[121] ty #[gN (G g) n c]).run prog w=.ok (.tuple #[]) w'/\gL (λb=>b=g) w w'/\∃h,w'.heap[g]?=some (im h 294 (0,0))/\h.size=cur.size:=by
 obtain⟨L,Q⟩:∃L,L=(Builtin.zeroCells (Value.agg #[I 0,I 0]).cells n).toList:=⟨_,rfl⟩;have Y:L.length=n*2:=by rw[Q];simp[Builtin.zeroCells,Value.cells]
 have A:∀v∈L,v.oneCell'=true:=by
  intro v V;rw[Q]at V;simp only[Builtin.zeroCells,Value.cells,Array.toList_map,aD]at V;obtain⟨i,_,rfl⟩:=V;have h2:i%2=0\/i%2=1:=C;obtain h2|h2:=h2
  .simp[h2,Value.oneCell']
  simp[h2,Value.oneCell']
 have F:=run_storeCells_cells (P:=prog) g 0 L 0 w (λj hj=>by rw[ax w g (0+0+j) _ 294 (0,0) H,dW C];rfl) (λj _=>aP w g (0+0+j) _ 294 H) A
 simp only[fj]at F;let⟨h,Z,k2,k3⟩:=tI g L 0 w cur 294 H;obtain⟨m,rfl⟩:∃m,n=m+1:=⟨n-1,C⟩;refine⟨w.setCells g 0 L,?_,k3,h,Z,k2⟩;simp[Builtin.clear_,Z4 underlying121,<-Q,F]
theorem vq(w)(n:Nat)(v)(xs)(h:w.ownsRow 0 294 2 v n xs)(hn:n<=1000000):iB 244 #[v,I 0,I n] w λen w'=>∃v',en=gX v'/\w'.ownsRow 0 294 2 v' 0 []/\(∀b,v'.ownBlock=some b->v.ownBlock=some b)/\gL (λb=>v.ownBlock=some b) w w':=by
 obtain⟨rfl,rfl⟩|⟨g,cap,F,rfl,hb,Z,hc,hm,j,L⟩:=h.2
 .have H:=gP h;clear h;go_enter func244,ntmps244;go_wp2;go_ret;exact⟨_,rfl,mT,λb e=>e,ug⟩
 by_cases hz:n=0
 .subst hz;have a0:(cap:Int)<=9223372036854775807:=by unfold maxLen at hm;omega
  have HE:Hid (w.ownsRow 0 294 2 (gN (G g) 0 cap) 0 []):=⟨rfl,.inr ⟨g,cap,F,rfl,ju,Z,ju,hm,j,gG⟩⟩;clear h Z j L;go_enter func244,ntmps244;go_wp2;go_ret;exact⟨_,rfl,HE,λb e=>e,ug⟩
 have a0:(cap:Int)<=9223372036854775807:=by unfold maxLen at hm;omega
 obtain⟨Q,V,t0,t1,t2⟩:=fx il.KX;obtain⟨A,hA⟩:∃A:Addr,(if cap=n then some ((U g 0):Addr)else some (U g (n*2)))=some A:=by
  by_cases e:cap=n
  .exact⟨_,by simp[e];rfl⟩
  exact⟨_,by simp[e];rfl⟩
 have a2:(n:Int)<=(cap:Int):=C;let⟨w',k1,k2,Y,k3,k4⟩:=ON w.drew g n cap 0 F Z C (by rw[j];exact gy 2 hc);have a1:=gP j;clear h Z j L;go_enter func244,ntmps244;go_wp2;go_region_law(refine step_append_room rfl (.tmp 22) (.tmp 25) 121 rfl 294 Q 2 underlying121 V t1 g 0 0 cap (by simp[Act.eval,Act.put]) A 0 (cap-n) [] (by simp[Act.eval,Act.put]) rfl gG gG C gG ?_);have e0:w.drew.setCells g 0 []=w.drew:=rfl;rw[e0];have K1:=gP k1;have HE:Hid (w'.ownsRow 0 294 2 (gN (G g) 0 cap) 0 []):=⟨rfl,.inr ⟨g,cap,Y,rfl,ju,k3,ju,hm,jk k4 a1,gG⟩⟩;have HO:Hid (gL (λb=>(gN (some ((U g 0):Addr)) n cap).ownBlock=some b) w w'):=(gL.B (Bl.refl w).drew).H (k2.L λk _ e=>by simp[Value.ownBlock,e]);clear k1 k2 k3 k4;go_wp2;rw[K1.o];go_wp2;go_ret;exact⟨_,rfl,HE,λb e=>e,HO⟩
def il.CR:(prog.info? 179).map (λi=>(i.zero,i.size,i.bytes))=some (some (.agg #[I 0,OO]),2,32):=rfl
structure xF(w:World)(P:Nat->Prop)(v:Value)(ps:List (Int×List Int))(xs:List Value):Prop where
 ie:w.ownsRow 0 179 2 v ps.length xs
 ob:∀b,v.ownBlock=some b->P b
 jU:∀i z,ps[i]?=some z->xs[2*i]?=some (I z.1)/\∃a c,xs[2*i+1]?=some (.slice a z.2.length c)/\w.ownsRow 0 5 1 (.slice a z.2.length c) z.2.length (z.2.map B8)/\∀b,(Value.slice a z.2.length c).ownBlock=some b->P b
 ap:∀i j u v b,i<j->xs[2*i+1]?=some u->xs[2*j+1]?=some v->u.ownBlock=some b->v.ownBlock≠some b
def xF.nil(w)(P):xF w P OO [] []:=⟨mT,λb h=>ny h,λi z h=>mi h,λi j u v b _ h=>mi h⟩
def xF.only{w:World}(h:xF w P v ps xs)(A:gL T w w')(F:∀b,b<w.heap.size->P b->¬T b):xF w' P v ps xs:=
 ⟨A.iX h.ie λb j=>F b (h.ie.lt b j).2 (h.ob b j),h.ob,λi z Q=>by
  obtain⟨V,a,c,Y,H,L⟩:=h.jU i z Q
  exact⟨V,a,c,Y,A.iX H λb j=>F b (H.lt b j).2 (L b j),L⟩,h.ap⟩
def xF.bl{w:World}(h:xF w P v ps xs)(j:Bl w w'):xF w' P v ps xs:=h.only (gL.B j) λ_ _ _ e=>e
def xF.Xw{w:World}(h:xF w P v ps xs):xs.length=2*ps.length:=by rw[h.ie.1];omega
def xF.push{w w1:World}{tt:Int}{a:Option Addr}{c cap:Nat}(h:xF w P v ps xs)(A:Bl w w1)(F:w1.grownBy w2 v.ownBlock)(Y:w2.ownsRow 0 179 2 (gN (G g) (ps.length+1) cap) (ps.length+1) (xs++[I tt,gN a ds.length c]))(hg:P g)(hu:w.ownsRow 0 5 1 (gN a ds.length c) ds.length (ds.map B8))(hP:∀b,(gN a ds.length c).ownBlock=some b->P b)(a0:∀(i:Nat) u b,xs[2*i+1]?=some u->u.ownBlock=some b->(gN a ds.length c).ownBlock≠some b):xF w2 P (gN (G g) (ps.length+1) cap) (ps++[(tt,ds)]) (xs++[I tt,gN a ds.length c]):=by
 have ho:gL (λb=>v.ownBlock=some b) w w2:=(gL.B A).H ((gL.A F).L λx _ e=>e.symm);have hx:=h.Xw;have Z:∀{u:Value} {n:Nat} {zs:List Value},w.ownsRow 0 5 1 u n zs->∀b,u.ownBlock=some b->v.ownBlock≠some b:=fun{u n zs} hu b A e=>by let⟨cc,hc⟩:=nZ h.ie b e;exact gY hu hc gF A
 refine⟨iU Y,λb A=>by simp[Value.ownBlock]at A;rw[<-A];exact hg,λi z Q=>?_,λi j u u' b a1 h1 V A=>?_⟩
 .by_cases hi:i<ps.length
  .rw[aB hi]at Q;obtain⟨k1,a',c',k2,k3,k4⟩:=h.jU i z Q;refine⟨by rw[aB C];exact k1,a',c',by rw[aB C];exact k2,ho.iX k3 (Z k3),k4⟩
  have a2:=(aj.1 Q).1;simp at a2;have:i=ps.length:=C;subst this;rw[aC jl]at Q;simp at Q;subst Q;refine⟨by rw[<-hx,aC jl];simp,a,c,by rw[<-hx,aC C];simp,ho.iX hu (Z hu),hP⟩
 have hj:=(aj.1 V).1;simp at hj;by_cases a3:j<ps.length
 .rw[aB C]at h1 V;exact h.ap i j u u' b a1 h1 V A
 have:j=ps.length:=C;subst this;rw[aB C]at h1;rw[<-hx,aC C]at V;simp at V;subst V;exact a0 i u b h1 A
def Oo(a)(x)(n c)(w):(Instr.field 296 (.agg #[I a,gN x n c]) 1).run prog w=.ok (gN x n c) w:=rfl
def gL.andThen{S:Nat->Prop}{a b c:World}(h:gL S a b)(k:gL T b c)(F:∀n,n<a.heap.size->T n->S n):gL S a c:=
 ⟨k.os.H h.os,k.tape.H h.tape,k.output.H h.output,aF h.size k.size,λi j A=>(k.block i (af j h.size) λe=>A (F i j e)).H (h.block i j A)⟩
def qn(q:List Qz):List (Int×List Int):=q.map λz=>(z.cl,z.data)
section
variable{w:World}{q:List Qz}
def To(l:List Qv)(xs:List Value)(k:Nat):Prop:=xs.length=2*k/\∀i u,xs[2*i+1]?=some u->∃e,l[i]?=some e/\e.xU=u.ownBlock
theorem Kf:∀(l:List Qv) (k:Nat) (e:Qv),l[k]?=some e->(vQ l)[2*k]?=some (I e.cl)/\(vQ l)[2*k+1]?=some (I e.ln)
 |[],k,e,h=>mi h
 |x::l,0,e,h=>by simp at h;subst h;simp[vQ]
 |x::l,k+1,e,h=>by have:=Kf l k e (iU h);have j:vQ (x::l)=I x.cl::I x.ln::vQ l:=rfl;rw[show 2*_=2*k+1+1 from by omega];simp_all
def jw{w:World}{B:Nat}{e:TypeId}(h:w.ownsRow B e k v n xs):∃a c,v=gN a n c:=by obtain⟨e,e'⟩|⟨g,cap,j,e,_⟩:=h.2;all_goals simp_all
def Fa(h:Qm w gH tn tb g gm clk iv ov l q){wr j:World}{F:Value}(V:gL (λb=>b=gm) w wr)(hm:wr.heap[gm]?=some (.map (kR []) clk))(Q:gL (λb=>ov.ownBlock=some b) wr j)(A:j.ownsRow 0 294 2 F 0 [])(hv:∀b,F.ownBlock=some b->ov.ownBlock=some b):Q0 (j.setCell (U g 2) F) (iq gH w.heap.size tb) tn tb g iv []/\gL (λb=>gH b=tn) w (j.setCell (U g 2) F):=by
 have Y:ov.ownBlock≠some g:=gY h.ie h.hp gF;have Z:ov.ownBlock≠some gm:=nX ⟨_,_,h.mp⟩ h.ie;have s1:=V.size;have s2:=Q.size;have a0:=(V.block g h.lg h.Tq).H h.hp;have L:j.heap[g]?=some (im [iv,.map (some gm),ov].toArray 127 (0,0)):=(Q.block g (gS h.lg) Y).H a0;have a1:=(Q.block gm (gS h.lm) Z).H hm;have o9:gL (λb=>b=g) j (j.setCell (U g 2) F):=(gL.refl (λb=>b=g) j).setCell (U g 2) (.inl rfl) _;refine⟨⟨gm,clk,F,[],jx 2 F j _ L,(gV _ _ _ _ h.lg).H h.tg,(o9.block gm (gS h.lm) λe=>h.Tq e.symm).H a1,(gV _ _ _ _ h.lm).H h.tm,?_,λb hb=>?_,rfl,λi e z he=>mi he,List.Pairwise.nil,List.Pairwise.nil⟩,?_⟩
 .exact o9.iX A λb hb e=>gY A L gF (jS hb e)
 .have:=hv b hb;rw[gV _ _ _ _ (h.ie.lt b this).2];exact h.tw b this
 refine((V.L λb _ e=>?_).H (Q.L λb _ e=>?_)).H (o9.L λb _ e=>?_)
 .rw[e];exact h.tm
 .exact h.tw b e
 rw[e];exact h.tg
theorem MD(h:Qm w gH tn tb g gm clk iv ov [] []):iB 208 #[.pointer (some (U g 1)),I 200] w λen w'=>∃v xs gI,en=gX v/\(∀b,b<w.heap.size->gI b=gH b)/\xF w' (λb=>gI b=tb) v (qn []) xs/\Q0 w' gI tn tb g iv []/\gL (λb=>gH b=tn) w w':=by
 have c2:w.cell? (U g 2)=some ov:=ax w g 2 _ 127 (0,0) h.hp;have L:=h.lg;have HE:Hid (∀Q V,gL (λb=>ov.ownBlock=some b) w Q->Q.ownsRow 0 294 2 V 0 []->(∀b,V.ownBlock=some b->ov.ownBlock=some b)->_):=λQ V a b c=>Fa h (gL.refl _ w) h.mp a b c;let⟨HO,HP⟩:=gO h.ie h.hp;have j:Hid (ov.ownBlock≠some g):=gY h.ie h.hp gF;obtain⟨oa,F,Y,a1⟩:∃oa F,ov=gN oa 0 F/\F<=9223372036854775807:=by
  obtain⟨e,e'⟩|⟨g,cap,a2,e,_,_,_,hm,_⟩:=h.ie.2
  .exact⟨_,_,e,C⟩
  exact⟨_,_,e,by unfold maxLen at hm;omega⟩
 subst Y;have HD:=gP (vq w 0 _ [] HO C);have a0:(F:Int)<=9223372036854775807:=C;clear h;go_enter func208,ntmps208;go_wp2;refine Z6 1 ?_;rw[ZZ];go_wp2_with(go_at_call 244;refine HD.L ?_;rintro en w2⟨v2,rfl,Z,h3,A⟩;obtain⟨va,vc,rfl⟩:=jw Z;have z2:=(A.cell L j).H c2;have f2:=aP w2 g 2 _ 127 ((A.block g L j).H HP);have a3:=af L A.size;have H2:=my A Z h3;clear Z h3 A);go_ret;obtain⟨k1,k2⟩:=HE _ _ H2.1 H2.2.1 H2.2.2;exact⟨_,[],_,rfl,λb hb=>gV _ _ _ _ hb,xF.nil _ _,k1,k2⟩
def SA{z:Qz}(j:l[k]?=some e)(A:e.v=.agg #[I z.nr,gN sa z.data.length sc])(F:To l xs k):To l (xs++[I c,gN sa z.data.length sc]) (k+1):=by
 let⟨H,L⟩:=F;refine⟨ig,λi u h=>?_⟩;by_cases Q:2*i+1<xs.length
 .rw[aB Q]at h;exact L i u h
 have V:=(aj.1 h).1;simp at V;have:i=k:=C;subst this;rw[aC C,H]at h;simp at h;exact⟨e,j,by unfold Qv.xU;rw[A,<-h];simp⟩
def MS(h:Qm w gH tn tb g gm clk iv ov l q)(L:tb≠tn){z:Qz}{Q:Option Addr}{V gg cp:Nat}{wr W' Y:World}(he:l[k]?=some e)(hz:q[k]?=some z)(hv:e.v=.agg #[I z.nr,gN sa z.data.length sc])(Z:w.ownsRow 0 5 1 (gN sa z.data.length sc) z.data.length (z.data.map B8))(a0:∀b,(gN sa z.data.length sc).ownBlock=some b->gH b=tb)(hO:gL (λb=>b=gm) w wr)(hB:Bl wr W)(hP:xF wr (λb=>iq gH w.heap.size tb b=tb) (gN Q k V) ((qn q).take k) xs)(hX:To l xs k)(A:Y.ownsRow 0 179 2 (gN (G gg) (k+1) cp) (k+1) (xs++[I e.cl,gN sa z.data.length sc]))(a1:Bl W W')(hg:W'.grownBy Y (gN Q k V).ownBlock)(a2:(gN Q k V).ownBlock=some gg\/W.heap.size<=gg)(hk:k<q.length):xF (setBlock Y.drew gm (.map (kR (l.drop (k+1))) clk)) (λb=>iq gH w.heap.size tb b=tb) (gN (G gg) (k+1) cp) ((qn q).take (k+1)) (xs++[I e.cl,gN sa z.data.length sc]):=by
 have F:((qn q).take k).length=k:=by simp[qn];omega
 have a3:(qn q).take (k+1)=(qn q).take k++[(e.cl,z.data)]:=by rw[aM (by simpa [qn]using hk)];obtain⟨_,rfl⟩:=aj.1 hz;simp[qn,(h.key he hz).1]
 have H:e.xU=(gN sa z.data.length sc).ownBlock:=by unfold Qv.xU;rw[hv];simp
 rw[a3];have:=xF.push (tt:=e.cl) (ds:=z.data) (a:=sa) (c:=sc) (g:=gg) (cap:=cp) hP (hB.H a1) hg (jk F A) ?_ (hO.iX Z λb j e=>nX ⟨_,_,h.mp⟩ Z (jS j e)) (λb j=>by rw[gV _ _ _ _ (Z.lt b j).2];exact a0 b j) λi u b hu j e'=>?_
 .rw[F]at this;refine(this.bl jC.drew).only (j7 _ _ _) λb _ j e'=>?_;rw[e',gV _ _ _ _ h.lm,h.tm]at j;exact L j.symm
 .obtain h1|h1:=a2
  .exact hP.ob gg h1
  exact iJ _ _ _ _ (by have:=hO.size;have:=hB.lt;omega)
 obtain⟨x,a4,a5⟩:=hX.2 i u hu;have hi:=(aj.1 hu).1;have a6:=hX.1;obtain⟨l1,rfl⟩:=aj.1 a4;obtain⟨l2,rfl⟩:=aj.1 he;exact(dE.1 h.ap i k l1 l2 C) b (a5.H j) (H.H e')
theorem LP(h:Qm w gH tn tb g gm clk iv ov l q)(hq:q.length<=200)(bp:0<q.length)(a0:tb≠tn):iB 208 #[.pointer (some (U g 1)),I 200] w λen w'=>∃v xs gI,en=gX v/\(∀b,b<w.heap.size->gI b=gH b)/\xF w' (λb=>gI b=tb) v (qn q) xs/\Q0 w' gI tn tb g iv []/\gL (λb=>gH b=tn) w w':=by
 let⟨c1,c2⟩:=qJ h.hp 1 2 rfl;have lg:=h.lg;have lm:=h.lm;have j:=gP h.len;obtain⟨og,cap,rfl,bq,bs⟩:∃og cap,ov=gN (G og) l.length cap/\l.length<=cap/\cap<=9223372036854775807:=by
  obtain⟨e,e'⟩|⟨g,cap,bv,e,_,_,hc,hm,_⟩:=h.ie.2
  .have:=j.o;omega
  exact⟨_,_,e,hc,by unfold maxLen at hm;omega⟩
 have lo:og<w.heap.size:=(h.ie.lt og rfl).2;have b3:og≠g:=λe=>gY h.ie h.hp gF (by rw[e];rfl);have a7:og≠gm:=λe=>nX ⟨_,_,h.mp⟩ h.ie (by rw[e];rfl);have a5:Hid (∀k e,l[k]?=some e->w.cell? (U og (k*2))=some (I e.cl)/\w.cell? (U og (k*2+1))=some (I e.ln)):=λk e he=>by have hk:=(aj.1 he).1;let⟨k1,k2⟩:=Kf l k e he;have hx:(vQ l).length=l.length*2:=h.ie.1;rw[cN k 2];exact⟨(h.ie.cellAt _ C).H k1,(h.ie.cellAt _ C).H k2⟩
 let⟨HQ,HM⟩:=gO h h.mp;have b4:(l.length:Int)<=200:=gS j.o;have bw:(0:Int)<(l.length:Int):=gS j.o;have bi:(l.length:Int)<=(cap:Int):=C;have bl:(cap:Int)<=9223372036854775807:=C;have bx:¬cap=0:=C;have bn:min (l.length:Int) 200=l.length:=C;obtain⟨ag,ai,t0,t1,t2⟩:=fx il.CR;clear h;go_enter func208,ntmps208;go_wp2;go_loopw[6,23](λd i wr=>∃k:Nat,k<=l.length/\i=I k/\Hid (gL (λb=>b=gm) w wr)/\Hid (wr.heap[gm]?=some (.map (kR (l.drop k)) clk))/\∃xs,Hid (xF wr (λb=>iq gH w.heap.size tb b=tb) d ((qn q).take k) xs)/\Hid (To l xs k)/\Hid (∀b,d.ownBlock=some b->w.heap.size<=b)) λ_ i _=>l.length-(Go.RowKit.intOf i).toNat
 case atStart=>exact⟨0,ju,rfl,ug,HM,[],xF.nil _ _,⟨rfl,λi u hu=>mi hu⟩,λb Q=>ny Q⟩
 obtain⟨k,hk,rfl,Z,Hm,xs,HP,HX,HN⟩:=hrel;have d1:=(Z.cell lg HQ.Tq).H c1;have d2:=(Z.cell lg HQ.Tq).H c2;have a1:=af lg Z.size;have bz:=af lo Z.size;have al:=af lm Z.size;by_cases ja:k<l.length
 .have bo:(k:Int)<(l.length:Int):=C;let⟨e,he⟩:=mm ja;obtain⟨z,hz⟩:∃z,q[k]?=some z:=⟨_,ah (jJ j.o ja)⟩;let⟨x0,x1⟩:=a5 k e he;have x0:=(Z.cell lo a7).H x0;have x1:=(Z.cell lo a7).H x1;obtain⟨e1,e2,sa,sc,e3,e4,e5⟩:=HQ.vs k e z he hz;have a8:l.drop k=e::l.drop (k+1):=by obtain⟨hi,rfl⟩:=aj.1 he;rw[fX]
  let⟨Hz,He,bA⟩:=iz hz he a8;let⟨HE,bB,am⟩:=iz (And.intro e4 e5) e1 e3;let⟨ua,uc,a2⟩:=jw HP.ie;have V:((qn q).take k).length=k:=by simp[qn];have:=j.o;omega
  have HT:=gP V;rw[V]at a2;subst a2;have a9:=gP HP.ie;rw[V]at a9;have b5:Hid (k+1<=maxLen):=mV;have b6:Hid ((k+1)*32<=140737488355328):=lT;let⟨W,hW⟩:=gJ (wr.alloc (im #[I e.cl,I e.ln] 294));have bW:Bl wr W:=by rw[<-hW];exact jC.alloc _
  let⟨y0,y1,ly⟩:=Pb (show W.heap[wr.heap.size]?=some (im #[I e.cl,I e.ln] 294 (0,0)) by rw[<-hW];exact ao wr _);let⟨f1,f2⟩:=bW.B a1 d1 d2;have aa:=af a1 bW.lt;have a6:=(bW.heap al).H Hm;rw[a8]at a6;have an:(Instr.lookup 120 (.map (some gm)) (ak e.cl e.ln) false).run prog W.drew=.ok e.v W.drew:=sI (w:=W.drew) (l1:=[]) a6 gG rfl rfl false;rw[e3]at an;have b7:=Oo z.nr sa z.data.length sc;let⟨b8,HW,HB⟩:=iz a6 hW bW;have ap:Hid ((gN ua k uc).ownBlock≠some g):=λe=>by have h1:=HP.ob g e;rw[gV _ _ _ _ lg,HQ.tg]at h1;exact a0 h1.symm
  clear he hz a8 e1 e2 e3 e4 e5 V bW hW a6 d1 d2;go_upto_region 6 with fail;rw[HW.o];clear HW;go_cut[6] λd wx=>∃gg cp,d=gN (G gg) (k+1) cp/\Hid (wx.ownsRow 0 179 2 (gN (G gg) (k+1) cp) (k+1) (xs++[I e.cl,gN sa z.data.length sc]))/\Hid (∃W',Bl W W'/\W'.grownBy wx (gN ua k uc).ownBlock)/\Hid ((gN ua k uc).ownBlock=some gg\/W.heap.size<=gg)
  case first=>
   go_region_law
    ((refine step_append_lies _ jQ _ _ _ jQ 0 179 ag _ 2 32 underlying176 ai t0 t1 t2 rfl C _ k xs jQ (((iT HB).iX a9 λ_ _ e=>e).alloc _).drew (U W.heap.size 0) 1 1 [I e.cl,gN sa z.data.length sc] jQ jQ (fW (cs:=#[I e.cl,gN sa z.data.length sc]) (t:=179) (fr:=(0,0)) (ao W _)) rS C b5 b6 gG (W.heap.size+1) gG ?_;intro gg cp w6 F A Y a3;have b9:=nK F A Y a3;clear F A Y a3))
   all_goals(go_wp2_with fail;go_meet)
   all_goals
    obtain⟨F,A,Y,a3⟩:=b9.o;exact⟨gg,cp,rfl,F,⟨_,(jC.alloc _).drew,A⟩,Y.imp (λe=>e) λe=>C⟩
  case rest=>
   obtain⟨gg,cp,rfl,bb,bc,aq⟩:=hcut;obtain⟨w6,rfl⟩:∃w6,w6=wc:=⟨_,rfl⟩;obtain⟨W',ab,ac⟩:=bc.o;have o6:gL (λb=>(gN ua k uc).ownBlock=some b) W w6:=(gL.B ab).H ((gL.A ac).L λx _ e=>e.symm);have nb:∀b,wr.heap.size<=b->(gN ua k uc).ownBlock≠some b:=λb Q e=>by have:=(a9.lt b e).2;omega
   have ar:(gN ua k uc).ownBlock≠some gm:=λe=>by have h1:=HP.ob gm e;rw[gV _ _ _ _ lm,HQ.tm]at h1;exact a0 h1.symm
   have v0:=(o6.cell ly (nb _ jl)).H y0;have v1:=(o6.cell ly (nb _ jl)).H y1;have vd:=(o6.cell aa ap).H f1;have vf:=(o6.cell aa ap).H f2;have bd:=af al HB.lt;have ad:=(o6.block gm bd ar).H b8;have bC:=af aa o6.size;have bD:=af ly o6.size;have bE:=λty=>FK (w:=w6.drew) ty ad;let⟨be,H6,au⟩:=iz ad o6 (And.intro ab ac);clear ad o6 nb ar ab ac y0 y1 f1 f2 an b7;go_upto_region 7 with fail;go_region;all_goals
    go_wp2;refine⟨⟨k+1,C,iD,?_,nW (w:=w6.drew) (ae.1 be).1 _,_,MS HQ a0 He Hz am HE.1 HE.2 Z HB HP HX bb au.1 au.2 aq (by rwa[j.o]at ja),SA He am HX,λb Q=>?_⟩,iC⟩
    .exact((Z.H (gL.B HB)).andThen H6 λb Q e=>by have:=HN b e;omega).H ((gL.B (Bl.refl w6).drew).H (j7 _ _ _))
    obtain h1|h1:=aq.o
    .simp[Value.ownBlock]at Q;rw[<-Q];exact HN gg h1
    simp[Value.ownBlock]at Q;rw[<-Q];have:=Z.size;have:=HB.lt;omega
 have av:k=l.length:=C;have bR:¬((k:Int)<(l.length:Int)):=C;have a4:=Z.iX HQ.ie λb Q e=>a7 (by simp[Value.ownBlock]at Q;omega);have HD:=gP (vq wr l.length _ _ a4 C);have aw:Hid ((gN (some ((U og 0):Addr)) l.length cap).ownBlock≠some g):=λe=>by simp[Value.ownBlock]at e;exact b3 e
 have aY:=(Z.block g lg HQ.Tq).H HQ.hp;let⟨bg,b0⟩:=gO aY av;let⟨ua,uc,a2⟩:=jw HP.ie;have V:((qn q).take k).length=k:=by simp[qn];have:=j.o;omega
 rw[V]at a2;subst a2;clear a4 aY av V;go_wp2_with(go_at_call 244;refine HD.L ?_;rintro en w2⟨v2,rfl,h2,h3,h4⟩;obtain⟨va,vc,rfl⟩:=jw h2;have z2:=(h4.cell a1 aw).H d2;have f2:=aP w2 g 2 _ 127 ((h4.block g a1 aw).H bg);have bT:=af a1 h4.size;have H2:=my h4 h2 h3;clear h2 h3 h4);go_ret;have b1:=Hm.o;rw[b0.o,eQ]at b1;let⟨k1,k2⟩:=Fa HQ Z b1 H2.1 H2.2.1 H2.2.2;refine⟨_,xs,_,rfl,λb Q=>gV _ _ _ _ Q,?_,k1,k2⟩;have b2:=HP.o;rw[bI (by simp[qn];have:=j.o;have:=b0.o;omega)]at b2;refine(b2.only H2.1 λb _ Q e=>?_).only ((gL.refl (λb=>b=g) w2).setCell (U g 2) (.inl rfl) _) λb _ Q e=>?_
 .simp[Value.ownBlock]at e;rw[<-e,gV _ _ _ _ lo,HQ.tw og rfl]at Q;exact a0 Q.symm
 rw[e,gV _ _ _ _ lg,HQ.tg]at Q;exact a0 Q.symm
def QZ(h:Qm w gH tn tb g gm clk iv ov l q)(A:q.length<=200)(j:tb≠tn):iB 208 #[.pointer (some (U g 1)),I 200] w λF w'=>∃v xs gI,F=gX v/\(∀b,b<w.heap.size->gI b=gH b)/\xF w' (λb=>gI b=tb) v (qn q) xs/\Q0 w' gI tn tb g iv []/\gL (λb=>gH b=tn) w w':=by
 by_cases H:0<q.length
 .exact LP h A H j
 have e:q=[]:=aW.1 C;subst e;have e:l=[]:=aW.1 (by rw[h.len];rfl);subst e;exact MD h
end
structure Rq where
 kd:Int
 ln:Int
 nr:Int
 ep:Int
 pl:Int
 ct:Ct
inductive Pn
 |unit (ch:Int) (rs:List Rc) (S:Nat->St)
 |voter (rs:List Rc) (S:Nat->Int->Ep)
def Pn.jt:Pn->List Int
 | .unit _ rs _=>iE rs
 | .voter rs _=>iE rs
def Pn.A:Pn->List Rc
 | .unit _ rs _=>rs
 | .voter rs _=>rs
def Pn.step(a b c d:Int)(r:Rq)(ds:List Int):Pn->Pn->Prop
 | .unit ch rs S,.unit ch' rs' S'=>ch'=ch/\qo rs S rs' S'/\S' rs'.length=(uT a b c d ch (S rs.length) r.kd r.ep r.pl r.ct.kd r.ct.cl r.ct.ca r.ct.val).2/\(iE rs').length<=(iE rs).length+60/\
  ds=(λA:An=>iV 101 [r.nr,A.wh,A.ep,A.mark,A.ct.kd,A.ct.cl,A.ct.ca] A.ct.val) (uT a b c d ch (S rs.length) r.kd r.ep r.pl r.ct.kd r.ct.cl r.ct.ca r.ct.val).1
 | .voter rs S,.voter rs' S'=>ve rs S rs' S'/\S' rs'.length=(oD (S rs.length) r.kd r.ep r.pl r.ct.val).2/\(iE rs').length<=(iE rs).length+300/\
  ds=(λA:Vo=>iV 102 [r.nr,pj rs',A.wh,A.pr,A.ba] A.val) (oD (S rs.length) r.kd r.ep r.pl r.ct.val).1
 |_,_=>False
def mI(w:World)(gH:Nat->Nat)(tg:Nat)(a b c d:Int)(iv:Value):Pn->Prop
 | .unit ch rs S=>∃p,iv=.iface 233 (.agg #[O p])/\Kt w gH tg p a b c d ch rs S
 | .voter rs S=>∃p,iv=.iface 238 (.agg #[O p])/\Vt w gH tg p rs S
def Nd(w:World)(gH:Nat->Nat)(tg tn tb g:Nat)(a b c d:Int)(N:Pn)(q:List Qz):Prop:=∃iv,mI w gH tg a b c d iv N/\Q0 w gH tn tb g iv q
section
variable{w:World}{b:Int}{N:Pn}{q:List Qz}
theorem mI.only(h:mI w gH tg a b c d iv N)(j:gL T w w')(A:∀b,b<w.heap.size->T b->gH b≠tg)(F:∀b,b<w.heap.size->gI b=gH b):mI w' gI tg a b c d iv N:=by
 cases N with
 |unit ch rs S=>let⟨p,e,h⟩:=h;exact⟨p,e,h.only j A F⟩
 |voter rs S=>let⟨p,e,h⟩:=h;exact⟨p,e,h.only j A F⟩
def Q0.only(h:Q0 w gH tn tb g iv q)(j:gL T w w')(A:∀b,b<w.heap.size->T b->gH b≠tn/\gH b≠tb)(F:∀b,b<w.heap.size->gI b=gH b):Q0 w' gI tn tb g iv q:=by let⟨gm,clk,ov,l,h⟩:=h;exact⟨gm,clk,ov,l,h.only j A F⟩
def Nd.only(h:Nd w gH tg tn tb g a b c d N q)(A:gL T w w')(F:∀b,b<w.heap.size->T b->gH b≠tg/\gH b≠tn/\gH b≠tb)(H:∀b,b<w.heap.size->gI b=gH b):Nd w' gI tg tn tb g a b c d N q:=by let⟨iv,L,Q⟩:=h;exact⟨iv,L.only A (λb j e=>(F b j e).1) H,Q.only A (λb j e=>(F b j e).2) H⟩
def Nd.lt(h:Nd w gH tg tn tb g a b c d N q):g<w.heap.size/\gH g=tn:=by let⟨iv,_,gm,clk,ov,l,h⟩:=h;exact⟨h.lg,h.tg⟩
end
structure SY(r:Rq)(N:Pn):Prop where
 ln:0<=r.ln/\r.ln<10
 kd:match N with
  | .unit _ _ _=>(r.kd=1\/r.kd=2\/r.kd=3\/r.kd=4)/\(r.kd=2->sy r.ct.kd r.ct.val.length=true)
  | .voter _ _=>r.kd=5\/r.kd=6\/r.kd=7
 ok:Rc.Ok nV ⟨r.kd,[r.ln,r.nr,r.ep,r.pl,r.ct.kd,r.ct.cl,r.ct.ca],r.ct.val⟩
 a:mR r.ct.val
def Na{b ch:Int}{S:Nat->St}(h:AS a b c d ch rs S)(x):(vr a b c d ch (S rs.length) x).ct.val.length<=255:=by
 unfold vr kr;split
 .simp
 rename_i j;split
 .simp
 split
 .simp
 have A:(oT a b c d x).2.2=0:=by omega
 let⟨i,F,e⟩:=zB A;have H:(oT a b c d x).2.1.toNat=i:=nG e;rw[H];exact (h.xH rs.length jl) i F
def OI{b ch:Int}{S:Nat->St}(h:AS a b c d ch rs S)(kd e x ck cl ca)(ys):(uT a b c d ch (S rs.length) kd e x ck cl ca ys).1.ct.val.length<=255:=by
 have j:=Na h;unfold uT;split
 .unfold th;split<;>simp[an]
 split
 .unfold rP;split
  .simp[an]
  split
  .simp[an]
  split<;>first|exact j x|(simp[an];done)
 split
 .unfold s9;split
  .simp[an]
  exact j x
 unfold tj;split<;>simp[an]
def P7(h:pX rs S)(kd e b)(ys):(oD (S rs.length) kd e b ys).1.val.length<=255:=by
 have j:=(h.xH rs.length jl e).1;unfold oD;split
 .split
  .simp
  omega
 split
 .split<;>simp
 exact j
end Go.Proofs.YtbghhbpacijmmaaGreat
