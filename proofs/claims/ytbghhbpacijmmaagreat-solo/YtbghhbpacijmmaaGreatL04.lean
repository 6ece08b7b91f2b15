import Derived.Test.YtbghhbpacijmmaaGreatL03
open Go.Proofs.Tryz
namespace Go.Proofs.YtbghhbpacijmmaaGreat
set_option maxRecDepth 99999
set_option maxHeartbeats 0
set_option linter.defProp false
open Go.RowKit Go.Maps
open Go.ChangeMaps (setBlock)
attribute [local go_sem ↓] Go.wp_at_zero Go.wp_at_succ
variable {rs:List Rc} {S S':Nat->Int->Ep} {aY bp:Nat->Nat} {xs:List Value} {w' W w2:World} {ps:List (Int×List Int)} {v iv ov vi:Value} {tg p tb g tn gm clk k n b i bm sc:Nat} {T P:Nat->Prop} {e:Qv} {M:Int->Value} {l l1 l2:List Qv} {E' E:Int->Ep} {t:TypeId} {sa xa ba:Option Addr} {c cl ln a d nr:Int} {r:Rc} {cs A:Array Value} {x y:MapEntry} {ds:List Int}
structure Qz where
 cl:Int
 ln:Int
 nr:Int
 data:List Int
def vL(w:World)(aY:Nat->Nat)(tb:Nat)(e:Qv)(z:Qz):Prop:=
 e.cl=z.cl/\e.ln=z.ln/\∃a c,e.v=.agg #[I z.nr,.slice a z.data.length c]/\w.ownsRow 0 5 1 (.slice a z.data.length c) z.data.length (z.data.map B8)/\∀b,(Value.slice a z.data.length c).ownBlock=some b->aY b=tb
def Qv.wU(e:Qv):Option Nat:=match e.v with
 | .agg a=>(a[1]?).bind Value.ownBlock
 |_=>none
def uP(l:List Qv):List Value:=l.flatMap λe=>[I e.cl,I e.ln]
structure Qm(w:World)(aY:Nat->Nat)(tn tb g gm clk:Nat)(iv ov:Value)(l:List Qv)(q:List Qz):Prop where
 hp:w.heap[g]?=some (.cells #[iv,.map (some gm),ov] 127 (0,0))
 tg:aY g=tn
 mp:w.heap[gm]?=some (.map (kh l) clk)
 tm:aY gm=tn
 gZ:w.ownsRow 0 294 2 ov l.length (uP l)
 tw:∀b,ov.ownBlock=some b->aY b=tn
 len:l.length=q.length
 vs:∀(i:Nat) e z,l[i]?=some e->q[i]?=some z->vL w aY tb e z
 ap:l.Pairwise λe f=>∀b,e.wU=some b->f.wU≠some b
 ky:l.Pairwise λa b=>¬(a.cl=b.cl/\a.ln=b.ln)
def N8{j D:Value}(h:W.heap[g]?=some (gO #[j,D] t (0,0))):W.cell? (U g 0)=some j/\W.cell? (U g 1)=some D/\g<W.heap.size:=
 ⟨ax W g 0 _ t _ h,ax W g 1 _ t (0,0) h,(ae.1 h).1⟩
def vL.wU{w:World}{z:Qz}(h:vL w aY tb e z)(j:e.wU=some b):b<w.heap.size/\aY b=tb:=by obtain⟨_,_,a,c,D,F,H⟩:=h;unfold Qv.wU at j;rw[D]at j;exact⟨(F.lt b j).2,H b j⟩
def vL.only{w:World}{z:Qz}(h:vL w aY tb e z){S:Nat->Prop}(H:bz S w w')(L:∀b,b<w.heap.size->S b->aY b≠tb)(Q:∀b,b<w.heap.size->bp b=aY b):vL w' bp tb e z:=by obtain⟨V,Y,a,c,Z,D,F⟩:=h;exact⟨V,Y,a,c,Z,H.iJ D λb j e=>L b (D.lt b j).2 e (F b j),λb j=>by rw[Q b (D.lt b j).2];exact F b j⟩
section
variable{w wx:World}{q q1 q2:List Qz}{z z':Qz}
def Qm.lg(h:Qm w aY tn tb g gm clk iv ov l q):g<w.heap.size:=(ae.1 h.hp).1
def Qm.lm(h:Qm w aY tn tb g gm clk iv ov l q):gm<w.heap.size:=(ae.1 h.mp).1
def Qm.RO(h:Qm w aY tn tb g gm clk iv ov l q):g≠gm:=λe=>by have:=h.hp;rw[e,h.mp]at this;simp at this
def Qm.only(h:Qm w aY tn tb g gm clk iv ov l q){S:Nat->Prop}(D:bz S w w')(F:∀b,b<w.heap.size->S b->aY b≠tn/\aY b≠tb)(L:∀b,b<w.heap.size->bp b=aY b):Qm w' bp tn tb g gm clk iv ov l q:=
 ⟨(D.block g h.lg λe=>(F g h.lg e).1 h.tg).H h.hp,(L g h.lg).H h.tg,(D.block gm h.lm λe=>(F gm h.lm e).1 h.tm).H h.mp,(L gm h.lm).H h.tm,D.iJ h.gZ λb j e=>(F b (h.gZ.lt b j).2 e).1 (h.tw b j),λb j=>(L b (h.gZ.lt b j).2).H (h.tw b j),h.len,λi e z Q V=>(h.vs i e z Q V).only D (λb j e=>(F b j e).2) L,h.ap,h.ky⟩
def Qm.bl(h:Qm w aY tn tb g gm clk iv ov l q)(j:Bl w w')(D:∀b,b<w.heap.size->bp b=aY b):Qm w' bp tn tb g gm clk iv ov l q:=h.only (iD j) (λ_ _ e=>e.elim) D
def jT(w)(r)(o):bz (λk=>k=r) w (setBlock w r o):=
 ⟨rfl,rfl,rfl,by simp[setBlock],λk _ j=>by simp[setBlock,Ne.symm j]⟩
def ni{w:World}{r:Nat}(h:r<w.heap.size)(o):(setBlock w r o).heap[r]?=some o:=by simp[setBlock,h]
def nB(H:∃D k,w.heap[b]?=some (.map D k)){base:Nat}{e:TypeId}{size:Nat}{l:Nat}(j:w.ownsRow base e size v l xs):v.ownBlock≠some b:=by intro F;obtain⟨cc,L⟩:=ny j b F;simp_all
def Qm.tZ(h:Qm w aY tn tb g gm clk iv ov (l1++e::l2) (q1++z::q2))(hl:l1.length=q1.length)(hz:vL w aY tb ⟨e.cl,e.ln,v,e.bo⟩ z')(L:∀x∈l1++e::l2,∀b,x.wU=some b->(Qv.mk e.cl e.ln v e.bo).wU≠some b):Qm (setBlock w gm (.map (kh (l1++{e with v:=v}::l2)) clk)) aY tn tb g gm clk iv ov (l1++{e with v:=v}::l2) (q1++z'::q2):=by
 have Y:=jT w gm (.map (kh (l1++{e with v:=v}::l2)) clk);have hv:∀{x:Qv} {y:Qz},vL w aY tb x y->vL (setBlock w gm (.map (kh (l1++{e with v:=v}::l2)) clk)) aY tb x y:=fun{x y} k=>by obtain⟨k1,k2,a,c,k3,k4,k5⟩:=k;exact⟨k1,k2,a,c,k3,Y.iJ k4 λb F e=>nB ⟨_,_,h.mp⟩ k4 (j4 F e),k5⟩
 refine⟨(Y.block g h.lg h.RO).H h.hp,h.tg,ni h.lm _,h.tm,?_,h.tw,by have:=h.len;simp at this|-;omega,λi x y D hy=>?_,?_,?_⟩
 .have:=Y.iJ h.gZ λb F e=>nB ⟨_,_,h.mp⟩ h.gZ (j4 F e);simpa [uP]using this
 .by_cases hi:i=l1.length
  .subst hi;rw[aC jc]at D;rw[hl,aC jc]at hy;simp at D hy;subst D;subst hy;exact hv hz
  refine hv (h.vs i x y ?_ ?_)
  .rw[<-D];by_cases Q:i<l1.length
   .rw[aB Q,aB Q]
   rw[aC C,aC C];obtain⟨j,Z⟩:∃j,i-l1.length=j+1:=⟨i-l1.length-1,C⟩;rw[Z];rfl
  rw[<-hy];by_cases Q:i<q1.length
  .rw[aB Q,aB Q]
  rw[aC C,aC C];obtain⟨j,Z⟩:∃j,i-q1.length=j+1:=⟨i-q1.length-1,C⟩;rw[Z];rfl
 .have:=h.ap;rw[cu,cI]at this|-;obtain⟨a1,⟨a2,a3⟩,V⟩:=this;refine⟨a1,⟨λy hy b F a0=>L y (mY hy) b a0 F,a3⟩,λx D y hy=>?_⟩;obtain rfl|hy:=bh.1 hy
  .exact λb F=>L x (mY D) b F
  exact V x D y (aX _ hy)
 have:=h.ky;rw[cu,cI]at this|-;obtain⟨a1,⟨a2,a3⟩,V⟩:=this;refine⟨a1,⟨a2,a3⟩,λx D y hy=>?_⟩;obtain rfl|hy:=bh.1 hy
 .exact V x D e aN
 exact V x D y (aX _ hy)
def Qm.push(h:Qm w aY tn tb g gm clk iv ov l q){w6:World}(bW:Bl w W){gg cap:Nat}(Y:W.grownBy w6 ov.ownBlock)(V:w6.ownsRow 0 294 2 (dk (G gg) (l.length+1) cap) (l.length+1) (uP l++[I cl,I ln]))(a2:ov.ownBlock=some gg\/w.heap.size<=gg)(hz:vL w aY tb ⟨cl,ln,v,clk⟩ z)(a3:∀x∈l,∀b,x.wU=some b->(Qv.mk cl ln v clk).wU≠some b)(a4:∀x∈l,¬(x.cl=cl/\x.ln=ln))(a5:tb≠tn):Qm (setBlock (w6.setCell (U g 2) (dk (G gg) (l.length+1) cap)).drew gm (.map (kh (l++[⟨cl,ln,v,clk⟩])) (clk+1))) (gN aY w.heap.size tn) tn tb g gm (clk+1) iv (dk (G gg) (l.length+1) cap) (l++[⟨cl,ln,v,clk⟩]) (q++[z])
 /\bz (λb=>aY b=tn) w (setBlock (w6.setCell (U g 2) (dk (G gg) (l.length+1) cap)).drew gm (.map (kh (l++[⟨cl,ln,v,clk⟩])) (clk+1))):=by
 have o6:bz (λb=>ov.ownBlock=some b) w w6:=(bz.E bW).H ((bz.B Y).L λx _ e=>e.symm);have a6:ov.ownBlock≠some g:=gJ h.gZ h.hp au;have a7:ov.ownBlock≠some gm:=nB ⟨_,_,h.mp⟩ h.gZ;have Z:w6.heap[g]?=some (gO [iv,.map (some gm),ov].toArray 127 (0,0)):=(o6.block g h.lg a6).H h.hp;have a8:=(o6.block gm h.lm a7).H h.mp;have a0:=iU 2 (dk (G gg) (l.length+1) cap) w6 _ Z;obtain⟨w7,a1⟩:=dS (w6.setCell (U g 2) (dk (G gg) (l.length+1) cap));have o7:bz (λb=>b=g) w6 w7:=by rw[<-a1];exact(bz.refl (λb=>b=g) w6).setCell (U g 2) (.inl rfl) _
 rw[a1]at a0|-;have o8:=jT w7.drew gm (.map (kh (l++[⟨cl,ln,v,clk⟩])) (clk+1));have s6:=o6.size;have s7:=o7.size;have a9:gm<w7.drew.heap.size:=by have:=h.lm;simp;omega
 have aa:g<w7.drew.heap.size:=by have:=h.lg;simp;omega
 have ab:w7.drew.heap[gm]?=some (.map (kh l) clk):=(o7.block gm (gI h.lm) λe=>h.RO e.symm).H a8;have oA:bz (λb=>ov.ownBlock=some b\/b=g\/b=gm) w (setBlock w7.drew gm (.map (kh (l++[⟨cl,ln,v,clk⟩])) (clk+1))):=
  ((o6.L λ_ _ e=>.inl e).H (o7.L λ_ _ e=>.inr (.inl e))).H ((bz.E ((Bl.refl w7).drew)).H (o8.L λ_ _ e=>.inr (.inr e)))
 have j:bz (λb=>aY b=tn) w (setBlock w7.drew gm (.map (kh (l++[⟨cl,ln,v,clk⟩])) (clk+1))):=oA.L λb _ e=>by
  obtain e|e|e:=e
  .exact h.tw b e
  .rw[e];exact h.tg
  rw[e];exact h.tm
 have hv:∀{x:Qv} {y:Qz},vL w aY tb x y->vL (setBlock w7.drew gm (.map (kh (l++[⟨cl,ln,v,clk⟩])) (clk+1))) (gN aY w.heap.size tn) tb x y:=fun{x y} k=>k.only j (λb _ e=>by rw[e];exact Ne.symm a5) λb F=>fz _ _ _ _ F;refine⟨⟨(o8.block g aa h.RO).H a0,(fz _ _ _ _ h.lg).H h.tg,ni a9 _,(fz _ _ _ _ h.lm).H h.tm,?_,λb F=>?_,by simp[h.len],λi x y Q D=>?_,?_,?_⟩,j⟩
 .have k7:w7.ownsRow 0 294 2 (dk (G gg) (l.length+1) cap) (l.length+1) (uP l++[I cl,I ln]):=o7.iJ V λb F e=>gJ V Z au (j4 F e);have k8:=o8.iJ (k7.drew) λb F e=>nB ⟨_,_,ab⟩ k7.drew (j4 F e);simpa [uP]using k8
 .simp[Value.ownBlock]at F;subst F;obtain e|e:=a2
  .have:=(h.gZ.lt _ e).2;rw[fz _ _ _ _ this];exact h.tw _ e
  exact ig _ _ _ _ e
 .by_cases hi:i<l.length
  .rw[aB hi]at Q;rw[aB (by rw[<-h.len];exact hi)]at D;exact hv (h.vs i x y Q D)
  have ac:=(aj.1 Q).1;simp at ac;have:i=l.length:=C;subst this;rw[aC jc]at Q;rw[h.len,aC jc]at D;simp at Q D;subst Q;subst D;exact hv hz
 .rw[cu];exact⟨h.ap,aq,λx Q y D=>by
   simp at D;subst D
   exact λb F=>a3 x Q b F⟩
 rw[cu];exact⟨h.ky,aq,λx Q y D=>by
  simp at D;subst D
  exact a4 x Q⟩
end
def oC(w)(r)(o):bz (λk=>k=r) w (setBlock w r o):=
 ⟨rfl,rfl,rfl,by simp[setBlock],λk _ j=>by simp[setBlock,Ne.symm j]⟩
structure It(w:World)(r gm:Nat)(es:Array MapEntry)(clk:Nat)(done:List MapEntry):Prop where
 it:w.heap[r]?=some (.mapIter (some gm) clk ((done.map (·.born)).reverse.toArray) clk)
 mp:w.heap[gm]?=some (.map es clk)
 ne:r≠gm
 bo:∀x∈es.toList,x.born<clk
 nd:(es.toList.map (·.born)).Nodup
 sub:∀x∈done,x∈es.toList
 dn:(done.map (·.born)).Nodup
section
variable{w:World}{r:Nat}{es:Array MapEntry}{done:List MapEntry}
def It.lr(h:It w r gm es clk done):r<w.heap.size:=(ae.1 h.it).1
def It.lm(h:It w r gm es clk done):gm<w.heap.size:=(ae.1 h.mp).1
def It.only(h:It w r gm es clk done){S:Nat->Prop}(j:bz S w w')(D:¬S r)(F:¬S gm):It w' r gm es clk done:=
 ⟨(j.block r h.lr D).H h.it,(j.block gm h.lm F).H h.mp,h.ne,h.bo,h.nd,h.sub,h.dn⟩
def It.bl(h:It w r gm es clk done)(j:Bl w w'):It w' r gm es clk done:=h.only (iD j) (λe=>e) λe=>e
theorem Bk:∀{l:List MapEntry},(l.map (·.born)).Nodup->x∈l->y∈l->x.born=y.born->x=y
 |[],_,D,_,_=>lY D
 |z::l,j,D,F,h=>by
  rw[bj,bY]at j;obtain rfl|hx':=bh.1 D<;>obtain rfl|hy':=bh.1 F
  .rfl
  .exact absurd (aD.2 ⟨y,hy',h.symm⟩) j.1
  .exact absurd (aD.2 ⟨x,hx',h⟩) j.1
  exact Bk j.2 hx' hy' h
def NC(j:(es.toList.map (·.born)).Nodup)(D:x∈es.toList)(F:y∈es.toList)(h:x.born=y.born):x=y:=Bk j D F h
theorem ux{α:Type}:∀{l1 l2:List α},l1.Nodup->(∀x∈l1,x∈l2)->l1.length<=l2.length
 |[],_,_,_=>jd
 |x::l1,l2,j,D=>by
  obtain⟨a,b,rfl⟩:=fe (D x aN);rw[bY]at j;have:=ux (l2:=a++b) j.2 λy F=>by
   have:=D y (aX _ F);simp at this|-;obtain h|rfl|h:=this
   .simp_all
   .simp_all
   simp_all
  simp at this|-;omega
theorem oZ:∀{l:List MapEntry},(l.map (·.born)).Nodup->l.Nodup
 |[],_=>fH
 |x::l,h=>by rw[bj,bY]at h;exact bY.2 ⟨λj=>h.1 (aD.2 ⟨x,j,rfl⟩),oZ h.2⟩
def It.len(h:It w r gm es clk done):done.length<=es.size:=by have:=ux (oZ h.dn) h.sub;omega
def It.start(j:w.heap[gm]?=some (.map es clk))(D:∀x∈es.toList,x.born<clk)(F:(es.toList.map (·.born)).Nodup):It (w.alloc (.mapIter (some gm) clk #[] clk)) w.heap.size gm es clk []:=by have L:=(ae.1 j).1;exact⟨ao w _,(cL w _ L).H j,C,D,F,λx Q=>lY Q,aq⟩
end
section
variable{P:Program}(w:World){ops:Array Oper}{rest:List Oper}{o:Oper}{a:Act}{Q:Exit->Act->World->Prop}
def jS(H:o.guard=none)(m)(t)(j:o.op=Op.range t m)(k e)(L:P.underlying t=some (.map k e))(b)(es)(clock)(V:a.eval m=.map (some b))(F:w.heap[b]?=some (.map es clock))(Y:∀x∈es.toList,x.born<clock)(Z:(es.toList.map (·.born)).Nodup)(hK:It (w.alloc (.mapIter (some b) clock #[] clock)) w.heap.size b es clock []->wpList P ops Q rest (a.put o.dst (O w.heap.size)) (w.alloc (.mapIter (some b) clock #[] clock))):wpList P ops Q (o::rest) a w:=by
 refine wpList_plain H λK' D=>?_;unfold Oper.wp;simp[execOp,j,V,run_range_map w t k e b es clock L F];exact D _ _ (hK (It.start F Y Z))
def kl(hg:o.guard=none)(it)(a0:o.op=Op.next it false)(r gm clk)(es)(done)(a1:a.eval it= O r)(h:It w r gm es clk done)(F:done.Perm es.toList->wpList P ops Q rest (a.put o.dst (.tuple #[.bool false])) w)(L:∀(e:MapEntry) (W:World),e∈es.toList->It W r gm es clk (e::done)->bz (λb=>b=r) w W->(Instr.entry (O r)).run P W=.ok (.tuple #[e.key,e.val]) W->
 wpList P ops Q rest (a.put o.dst (.tuple #[.bool true,e.key,e.val])) W):wpList P ops Q (o::rest) a w:=by
 refine wpList_plain hg λK' a2=>?_;unfold Oper.wp;obtain⟨sn,D⟩:=dS ((done.map (·.born)).reverse.toArray);have hi:=h.it;rw[D]at hi;obtain⟨h0,j⟩|⟨e,he,w1,hw,j⟩:=run_next_at (P:=P) w o.type r gm clk clk sn es clk hi h.mp h.bo jc
 .simp[execOp,a0,a1,j,Result.andThen];refine a2 _ _ (F ?_);rw[fG (oZ h.dn) (oZ h.nd)];refine λx=>⟨h.sub x,λhx=>?_⟩;have h1:es.filter (λx=> !sn.contains x.born)=#[]:=gf.1 h0;have h2:=fP.1 h1 x (iG hx);rw[<-D]at h2;simp at h2;obtain⟨y,hy,V⟩:=h2;rw[<-NC h.nd (h.sub y hy) hx V];exact hy
 simp[execOp,a0,a1,j,Result.andThen];obtain⟨Y,Z⟩:=mem_left he;have iV:r<w.heap.size:=h.lr;have hh:w1.heap=w.heap:=by obtain rfl|rfl:=hw<;>rfl
 have e1:sn.push e.born=((e::done).map (·.born)).reverse.toArray:=by rw[<-D];simp
 have hI:(setBlock w1 r (.mapIter (some gm) clk (sn.push e.born) clk)).heap[r]?=some (.mapIter (some gm) clk (sn.push e.born) clk):=by simp[setBlock,hh,iV]
 have hM:(setBlock w1 r (.mapIter (some gm) clk (sn.push e.born) clk)).heap[gm]?=some (.map es clk):=by simp[setBlock,hh,h.ne,h.mp]
 refine a2 _ _ (L e _ Y ⟨j4 hI e1,hM,h.ne,h.bo,h.nd,λx hx=>?_,?_⟩ ?_ ?_)
 .obtain rfl|hx:=bh.1 hx
  .exact Y
  exact h.sub x hx
 .rw[bj,bY];refine⟨λhx=>?_,h.dn⟩;rw[<-D]at Z;simp at Z;obtain⟨y,hy,V⟩:=aD.1 hx;exact Z y hy V
 .obtain rfl|rfl:=hw
  .exact oC _ _ _
  exact(bz.E (jo.drew)).H (oC _ _ _)
 exact run_entry_at _ r gm clk _ es clk e hI hM Y h.nd
end
def Vs.lM{S:Nat->Prop}{base:Nat}{w:World}{D:List Int}(h:Vs base w p bm n E D M vi t)(j:bz S w w')(Y:¬S p)(Z:¬S bm)(F:∀g,g<w.heap.size->CN M vi g->¬S g):Vs base w' p bm n E D M vi t:=by refine⟨(j.block p h.lt Y).H h.f,h.ty,h.mp.only j Z,λe=>?_,j.iJ h.gZ λb e=>F b (h.gZ.lt b e).2 (.inl e)⟩;obtain⟨vv,L,Q,k3⟩:=h.ep e;exact⟨vv,L,j.iJ Q λb V=>F b (Q.lt b V).2 (.inr ⟨e,jP L V⟩),k3⟩
def Vs.UP{base:Nat}{w:World}{j:List Int}(h:Vs base w p bm n E j M vi t):Vs 0 w p bm n E j M vi t:=by refine⟨h.f,h.ty,h.mp,λe=>?_,gL h.gZ λ_ _=>jd⟩;obtain⟨D,F,H,L⟩:=h.ep e;exact⟨D,F,gL H λ_ _=>jd,L⟩
def oS.snoc(h:oS rs S)(F:sJ (S rs.length) r E')(H:r.Ok D0):oS (rs++[r]) (λj=>if j=rs.length+1 then E' else S j) where
 zero:=by simp[h.zero]
 step:=λj D=>by
  rw[aO,dD]at D;by_cases e:j<rs.length
  .rw[az C,az C,dI e];exact h.step j e
  obtain rfl:j=rs.length:=C;simp_all
 ok:=λx hx=>by
  obtain hx|hx:=aT.1 hx
  .exact h.ok x hx
  simp_all
def oS.last:(λj=>if j=rs.length+1 then E' else S j) (rs++[r]).length=E':=aq
def Mn(e b)(j:(Lit.int .i64 e).wf=true)(D:(Lit.int .i64 b).wf=true):Rc.Ok D0 ⟨1,[e,b],[]⟩:=
 ⟨aq,aq,aq,aq,aq,by simp;exact⟨j,D⟩,aq,(1,2,0),au,rfl,rfl,aq⟩
def RJ(e b)(ys)(D:(Lit.int .i64 e).wf=true)(F:(Lit.int .i64 b).wf=true)(H:ys.length<=255)(j:∀d∈ys,0<=d/\d<=255):Rc.Ok D0 ⟨2,[e,b],ys⟩:=
 ⟨aq,aq,aq,aq,H,by simp;exact⟨D,F⟩,j,(2,2,255),au,rfl,rfl,gM⟩
def Vt(w:World)(aY:Nat->Nat)(tg p:Nat)(rs:List Rc)(S:Nat->Int->Ep):Prop:=
 ∃bm M vi,Vs 0 w p bm rs.length (S rs.length) (gY rs) M vi 253/\oS rs S/\aY p=tg/\aY bm=tg/\∀g,CN M vi g->aY g=tg
def Vt.lt{w:World}(h:Vt w aY tg p rs S):p<w.heap.size/\aY p=tg:=by obtain⟨bm,M,vi,j,_,D,_⟩:=h;exact⟨j.lt,D⟩
def Vt.TX{w:World}(h:Vt w aY tg p rs S):oS rs S:=by obtain⟨bm,M,vi,_,j,_⟩:=h;omega
def Vt.only{w:World}(h:Vt w aY tg p rs S)(V:bz T w w')(D:∀b,b<w.heap.size->T b->aY b≠tg)(F:∀b,b<w.heap.size->bp b=aY b):Vt w' bp tg p rs S:=by obtain⟨bm,M,vi,j,Y,H,L,Q⟩:=h;exact⟨bm,M,vi,j.lM V (λe=>D p j.lt e H) (λe=>D bm j.mp.lt e L) λg Z hF e=>D g Z e (Q g hF),Y,by rw[F p j.lt,H],by rw[F bm j.mp.lt,L],λg hF=>by rw[F g (j.vM hF).2,Q g hF]⟩
def Vt.bl{w:World}(h:Vt w aY tg p rs S)(j:Bl w w'):Vt w' aY tg p rs S:=h.only (iD j) (λ_ _ e=>e.elim) gK
def Vt.vU{w:World}(h:Vt w aY tg p rs S)(e):(S rs.length e).val.length<=255/\∀d∈(S rs.length e).val,0<=d/\d<=255:=h.TX.vU _ jc e
def OM(S:Nat->Int->Ep)(n:Nat)(E':Int->Ep):Nat->Int->Ep:=λj=>if j=n+1 then E' else S j
def yJ(S)(rs)(r:Rc)(E'):OM S rs.length E' (rs++[r]).length=E':=by simp[OM]
def U5(S)(n k)(E')(h:k<=n):OM S n E' k=S k:=by unfold OM;rw[az C]
def Vt.step{w:World}{D:Int->Value}{j:Value}(F:Vs 0 w p bm rs.length (S rs.length) (gY rs) M vi 253)(Y:oS rs S)(Z:aY p=tg)(hb:aY bm=tg)(Q:∀g,CN M vi g->aY g=tg)(H:sJ (S rs.length) r E')(ho:r.Ok D0)(L:Vs 0 w' p bm (rs.length+1) E' (gY rs++r.bytes) D j 253)(V:sb p bm M vi D j w w'):(∀v:Value,(∀g,v.ownBlock=some g->¬CN D j g)->Vt w' (sP aY w.heap.size tg v) tg p (rs++[r]) (OM S rs.length E'))/\bz (λb=>aY b=tg) w w':=by
 have oQ:bz (λb=>aY b=tg) w w':=V.only.L λb _ e=>by
  obtain rfl|rfl|e:=e
  .omega
  .omega
  exact Q b (.inl e)
 refine⟨λv hd=>⟨bm,D,j,?_,Y.snoc H ho,by rw[mK _ _ _ _ _ F.lt,Z],by rw[mK _ _ _ _ _ F.mp.lt,hb],λg hF=>?_⟩,oQ⟩
 .rw[yJ];simpa [gY]using L
 obtain h1|h1:=V.h g hF
 .rw[mK _ _ _ _ _ (F.vM h1).2,Q g h1]
 exact yB _ _ _ _ _ h1 λe=>hd g e hF
def pR{w:World}{B:Nat}(h:w.ownsRow B 5 1 v n xs):∃a c,v=dk a n c:=by obtain⟨e,D⟩|⟨g,cap,j,e,_⟩:=h.2;all_goals simp_all
theorem oS.Ss(h:oS rs S):∀j,j<=rs.length->∀e,(S j e).ba<=(S j e).pr
 |0,_,e=>by rw[h.zero];simp[Tn]
 |j+1,V,e=>by
  have D:=oS.Ss h j C;have:=h.step j C;generalize rs[j]=r at this;generalize S (j+1)=E' at this
  cases this with
  |prep F b H L Q=>
   unfold nD;split
   .have:=D F;simp;omega
   simp_all
  |acc F b ys H L Q=>
   unfold nD;split
   .simp
   exact D e
def oG(rs:List Rc):Int:=rs.foldl (λm r=>max m (r.ns.headD 0)) 0
def Fe(rs)(r):oG (rs++[r])=max (oG rs) (r.ns.headD 0):=by simp[oG]
theorem oS.lt(h:oS rs S):∀j,j<=rs.length->0<=oG (rs.take j)/\(∀e,(S j e).pr≠0->e<=oG (rs.take j))/\(oG (rs.take j)=0\/(S j (oG (rs.take j))).pr≠0)
 |0,_=>⟨by simp[oG],λe Y=>absurd (by rw[h.zero];rfl) Y,.inl (by simp[oG])⟩
 |j+1,hj=>by
  obtain⟨i0,Z,i2⟩:=oS.lt h j C;have L:=h.step j C;have ht:rs.take (j+1)=rs.take j++[rs[j]]:=aM C;rw[ht,Fe];generalize oG (rs.take j)=m at*;generalize rs[j]=r at L;generalize S (j+1)=E' at L;have H:∀(D:Int) (s:Ep),1<=D->s.pr≠0->0<=max m D/\(∀e,(nD (S j) D s e).pr≠0->e<=max m D)/\(max m D=0\/(nD (S j) D s (max m D)).pr≠0):=λD s Y Q=>by
   refine⟨C,λe F=>?_,.inr ?_⟩
   .unfold nD at F;by_cases ee:e=D
    .omega
    rw[az ee]at F;have:=Z e F;omega
   unfold nD;split
   .exact Q
   rename_i a0;have hm:max m D=m:=C;rw[hm];obtain i2|i2:=i2
   .omega
   exact i2
  cases L with
  |prep D b V h2 h3=>exact H D ⟨b,_,_⟩ V (by show b≠0;omega)
  |acc D b ys V h2 h3=>exact H D ⟨b,b,ys⟩ V (by show b≠0;omega)
structure Vo where
 wh:Int
 pr:Int
 ba:Int
 val:List Int
def nV(E:Int->Ep)(kd e b:Int)(ys:List Int):Vo×(Int->Ep):=
 if kd=5 then(if e<1\/b<1\/b<=(E e).pr then(⟨6,(E e).pr,0,[]⟩,E)else(⟨1,b,(E e).ba,(E e).val⟩,nD E e ⟨b,(E e).ba,(E e).val⟩))
 else if kd=6 then(if e<1\/b<1\/b<(E e).pr\/¬(1<=ys.length/\ys.length<=255)then(⟨6,(E e).pr,0,[]⟩,E)else(⟨1,b,0,[]⟩,nD E e ⟨b,b,ys⟩))
 else(⟨1,(E e).pr,(E e).ba,(E e).val⟩,E)
def tS(rs:List Rc)(S:Nat->Int->Ep)(rs':List Rc)(S':Nat->Int->Ep):Prop:=
 (rs'=rs/\S'=S)\/∃r E,rs'=rs++[r]/\S'=OM S rs.length E
def qn(f:Nat)(args:Array Value)(w:World)(aY:Nat->Nat)(tg p:Nat)(rs:List Rc)(S:Nat->Int->Ep)(R:Vo×(Int->Ep)):Prop:=
 Calls prog f args w λen w'=>∃va vc rs' S' bp,en=gG (kP R.1.wh R.1.pr R.1.ba (.slice va R.1.val.length vc))/\w'.ownsRow w.heap.size 5 1 (.slice va R.1.val.length vc) R.1.val.length (R.1.val.map B8)/\(∀g,(Value.slice va R.1.val.length vc).ownBlock=some g->bp g=1)/\(∀g,g<w.heap.size->bp g=aY g)/\tS rs S rs' S'/\S' rs'.length=R.2/\(gY rs').length<=(gY rs).length+300/\Vt w' bp tg p rs' S'/\bz (λg=>aY g=tg) w w'
section
variable{w:World}
def TU(aY)(N i):sP aY N i OO=gN aY N i:=rfl
def Qk(h:Vt w aY tg p rs S)(e b)(ys)(D:(Lit.int .i64 e).wf=true)(Q:(Lit.int .i64 b).wf=true)(hl:(gY rs).length<=1000000000000)(hn:rs.length<=1000000000000):qn 180 #[O p,I e,I b] w aY tg p rs S (nV (S rs.length) 5 e b ys):=by
 have hV:=h.vU e;obtain⟨bm,M,vi,V,hw,hp,hb,H⟩:=h;unfold nV;rw[aE rfl];by_cases F:e<1\/b<1\/b<=(S rs.length e).pr
 .rw[aE F];refine(Ar 0 p bm rs.length (S rs.length) (gY rs) M vi 253 e b w V D F).L ?_;rintro en w'⟨rfl,j,Y⟩;exact⟨none,0,rs,S,aY,rfl,mC,λg e=>mX e,λ_ _=>rfl,.inl ⟨rfl,rfl⟩,rfl,C,⟨bm,M,vi,j,hw,hp,hb,H⟩,bz.E Y⟩
 rw[az F];have h1:1<=e:=C;have h2:1<=b:=C;have h3:(S rs.length e).pr<b:=C;refine(sI 0 p bm rs.length (S rs.length) (gY rs) M vi 253 e b w V jd hl hn D hV.1 h1 h2 h3).L ?_;rintro en w'⟨M',a0,v',rfl,j,Z,hG,hd⟩;obtain⟨r1,r2⟩:=Vt.step V hw hp hb H (sJ.prep (S rs.length) e b h1 h2 h3) (Mn e b D Q) Z hG;obtain⟨a,c,rfl⟩:=pR j;refine⟨a,c,_,_,_,rfl,j,λg e=>Dz _ _ _ _ _ (j.lt g e).1 e,λg H=>mK _ _ _ _ _ H,.inr ⟨_,_,rfl,rfl⟩,yJ _ _ _ _,?_,r1 _ hd,r2⟩;rw[kY];simp[gY,Rc.bytes,nO]
theorem Tb(h:Vt w aY tg p rs S)(e b)(va)(vc)(ys)(F:(Lit.int .i64 e).wf=true)(ab:(Lit.int .i64 b).wf=true)(hl:(gY rs).length<=1000000000000)(hn:rs.length<=1000000000000)(hv:Bs w (dk va ys.length vc) (ys.map B8))(ac:∀g,(dk va ys.length vc).ownBlock=some g->g<w.heap.size/\aY g≠tg)(H:ys.length<=255)(Q:∀d∈ys,0<=d/\d<=255):qn 182 #[O p,I e,I b,dk va ys.length vc] w aY tg p rs S (nV (S rs.length) 6 e b ys):=by
 have hV:=h.vU e;obtain⟨bm,M,vi,V,hw,hp,hb,hg⟩:=h;have Y:∀g,(lI va ys vc).ownBlock=some g->g<w.heap.size/\vi.ownBlock≠some g/\g≠bm:=λg e=>by obtain⟨a1,a2⟩:=ac g e;exact⟨a1,λe'=>a2 (hg g (.inl e')),λe'=>a2 (jP e' hb)⟩
 unfold nV;rw[az au,aE rfl];by_cases a6:e<1\/b<1\/b<(S rs.length e).pr\/¬(1<=ys.length/\ys.length<=255)
 .rw[aE a6];refine(CI 0 p bm rs.length (S rs.length) (gY rs) M vi 253 e b va ys.length vc w V F C a6).L ?_;rintro en w'⟨rfl,a7,a8⟩;exact⟨none,0,rs,S,aY,rfl,mC,λg e=>mX e,λ_ _=>rfl,.inl ⟨rfl,rfl⟩,rfl,C,⟨bm,M,vi,a7,hw,hp,hb,hg⟩,bz.E a8⟩
 rw[az a6];have h1:1<=e:=C;have h2:1<=b:=C;have h3:(S rs.length e).pr<=b:=C;have a0:1<=ys.length:=C;have fin:(b≠(S rs.length e).ba\/ys≠(S rs.length e).val)->∀w' M' D,Vs 0 w' p bm (rs.length+1) (nD (S rs.length) e ⟨b,b,ys⟩) (gY rs++iB 2 [e,b] ys) M' D 253->sb p bm M vi M' D w w'->∃va vc a4 S' bp,gG (kP 1 b 0 OO)=gG (kP 1 b 0 (dk va 0 vc))/\w'.ownsRow w.heap.size 5 1 (dk va 0 vc) 0 (([]:List Int).map B8)/\(∀g,(dk va 0 vc).ownBlock=some g->bp g=1)/\(∀g,g<w.heap.size->bp g=aY g)/\tS rs S a4 S'/\S' a4.length=nD (S rs.length) e ⟨b,b,ys⟩/\(gY a4).length<=(gY rs).length+300/\Vt w' bp tg p a4 S'/\bz (λg=>aY g=tg) w w':=λad w' M' D Z hG=>by obtain⟨r1,r2⟩:=Vt.step V hw hp hb hg (sJ.acc (S rs.length) e b ys h1 h2 h3 a0 H Q ad) (RJ e b ys F ab H Q) Z hG;refine⟨none,0,_,_,_,rfl,mC,λg e=>mX e,λg hg=>mK _ _ _ _ _ hg,.inr ⟨_,_,rfl,rfl⟩,yJ _ _ _ _,?_,r1 OO λg e=>mX e,r2⟩;rw[kY];simp[gY,Rc.bytes,nO];omega
 by_cases hs:b=(S rs.length e).ba
 .by_cases a5:ys=(S rs.length e).val
  .refine(zH 0 p bm rs.length (S rs.length) (gY rs) M vi 253 e b _ ys w V jd hl hn F hv a0 H Y Q hV.2 h1 h2 h3 hs a5).L ?_;rintro en w'⟨rfl,a7,a8⟩;have ag:(S rs.length e).ba<=(S rs.length e).pr:=hw.Ss _ jc e;have a9:nD (S rs.length) e ⟨b,b,ys⟩=S rs.length:=by
    funext j;unfold nD;split
    .rename_i ej;subst ej;have aa:(S rs.length j).pr=b:=C;rw[a5]
     cases hx:S rs.length j with
     |mk a1 a2 a3=>rw[hx]at aa hs;simp at aa hs;simp[aa,<-hs]
    rfl
   exact⟨none,0,rs,S,aY,rfl,mC,λg e=>mX e,λ_ _=>rfl,.inl ⟨rfl,rfl⟩,a9.symm,C,⟨bm,M,vi,a7,hw,hp,hb,hg⟩,bz.E a8⟩
  refine(qC 0 p bm rs.length (S rs.length) (gY rs) M vi 253 e b _ ys w V jd hl hn F hv a0 H Y Q hV.2 h1 h2 h3 (.inr a5)).L ?_;rintro en w'⟨M',D,rfl,Z,hG⟩;exact fin (.inr a5) w' M' D Z hG
 refine(qC 0 p bm rs.length (S rs.length) (gY rs) M vi 253 e b _ ys w V jd hl hn F hv a0 H Y Q hV.2 h1 h2 h3 (.inl hs)).L ?_;rintro en w'⟨M',D,rfl,Z,hG⟩;exact fin (.inl hs) w' M' D Z hG
end
def Mp.raw{w:World}(h:Mp w b n M):∃H j,w.heap[b]?=some (.map H j)/\(∀x∈H.toList,x.born<j)/\(H.toList.map (·.born)).Nodup/\(∀x∈H.toList,∃k,x.key=.int .i64 k/\FJ (M k)≠0)/\∀k,FJ (M k)≠0->∃x∈H.toList,x.key=.int .i64 k:=by
 obtain⟨D,⟨H,j,hb,F,Z,rfl⟩,h2,h3,h4⟩:=h;have L:∀x∈H.toList,∃k,x.key=.int .i64 k/\(WideElems.rg prog 3 Rv x).1=.int .i64 k:=λx Q=>by obtain⟨y,hy⟩:=F.reads x Q;obtain⟨k,V,Y,_⟩:=keyOf_int_inv underlying3 (WideElems.rd_key hy);exact⟨k,V,by rw[WideElems.rg_of hy,Y]⟩
 refine⟨H,j,hb,F.stamped.1,F.stamped.2.1,λx Q=>?_,λk V=>?_⟩
 .obtain⟨k,V,Y⟩:=L x Q;refine⟨k,V,h4 k ?_⟩;rw[has_eq,cK];exact⟨WideElems.rg prog 3 Rv x,mem_sorted.2 (aD.2 ⟨x,Q,rfl⟩),by rw[Y];simp[Lit.sameKey]⟩
 by_cases hh:has (DataW.map ((H.toList.map (WideElems.rg prog 3 Rv)).foldr DataW.insert [])) (.int .i64 k)=true
 .rw[has_eq,cK]at hh;obtain⟨y,hy,Z⟩:=hh;obtain⟨x,Q,rfl⟩:=aD.1 (mem_sorted.1 hy);obtain⟨k',a0,Y⟩:=L x Q;refine⟨x,Q,?_⟩;rw[Y]at Z;simp[Lit.sameKey]at Z;rw[a0,Z]
 exfalso;have:=atKey_of_not_has (iG hh) (DataW.held TV);rw[h3]at this;simp at this;rw[this]at V;exact V rfl
def Fm(l:List MapEntry):Int:=l.foldr (λx m=>max m (Go.RowKit.intOf x.key)) 0
theorem EP:∀(l:List MapEntry),0<=Fm l/\(∀x∈l,Go.RowKit.intOf x.key<=Fm l)/\(Fm l=0\/∃x∈l,Fm l=Go.RowKit.intOf x.key)
 |[]=>⟨iI,λx hx=>lY hx,.inl rfl⟩
 |y::l=>by
  obtain⟨F,D,j⟩:=EP l;have e:Fm (y::l)=max (Fm l) _:=rfl;rw[e];refine⟨C,λx hx=>?_,?_⟩
  .obtain rfl|hx:=bh.1 hx
   .omega
   have:=D x hx;omega
  by_cases H:Fm l<Go.RowKit.intOf y.key
  .exact .inr ⟨y,aN,C⟩
  obtain j|⟨x,hx,j⟩:=j
  .omega
  exact .inr ⟨x,aX _ hx,C⟩
section
variable{w:World}
theorem FX(h:Vt w aY tg p rs S):ib 339 #[O p] w λen w'=>en=gG (I (oG rs))/\Bl w w':=by
 obtain⟨bm,M,vi,L,hw,_⟩:=h;obtain⟨H,clk,hm,bo,nd,k1,k2⟩:=L.mp.raw;have iV:=hw.lt rs.length jc;rw[bZ]at iV;have hM:∀e,FJ (M e)=(S rs.length e).pr:=λe=>by obtain⟨vv,h1,_⟩:=L.ep e;rw[h1];rfl
 have Q:Hid (∀l:List MapEntry,l.Perm H.toList->Fm l=oG rs):=λl hl=>by
  obtain⟨a1,a2,a3⟩:=EP l;obtain⟨b1,b2,b3⟩:=iV;have c1:Fm l<=oG rs:=by
   obtain a3|⟨x,V,a3⟩:=a3
   .omega
   obtain⟨k,D,a0⟩:=k1 x (hl.mem_iff.1 V);rw[a3,D];exact b2 k (qO hM a0)
  have c2:oG rs<=Fm l:=by
   obtain b3|b3:=b3
   .omega
   obtain⟨x,V,D⟩:=k2 (oG rs) (jP hM b3);have:=a2 x (hl.mem_iff.2 V);rwa[D]at this
  omega
 have Y:Hid (∀x∈H.toList,∃k,x.key=I k):=λx V=>by obtain⟨k,D,_⟩:=k1 x V;exact⟨k,D⟩
 have c0:=L.c0;have lp:=L.lt;obtain⟨HM,a4,a5⟩:=gV hm bo nd;clear L hw hm bo nd k1 k2 iV hM;go_enter func339,ntmps339;go_wp2_with(at_range;refine jS _ rfl _ 251 rfl 3 311 underlying251 bm H clk rfl HM a4 a5 ?_;intro hI;have HI:=fu hI;clear hI);go_frame;go_loopw[3](λv wr=>∃j:List MapEntry,v=I (Fm j)/\Hid (Bl w wr)/\Hid (It wr w.heap.size bm H clk j)) λ_ wr=>H.size-(wr.iterSeen w.heap.size).size
 case atStart=>exact⟨[],rfl,jo.alloc _,HI⟩
 obtain⟨j,rfl,HB,HJ⟩:=hrel;go_wp2_with(at_next;refine kl _ rfl _ rfl w.heap.size bm clk H j rfl HJ ?_ ?_)
 .intro h0;have hL:=Q j h0;rw[hL];go_wp2;go_ret;exact⟨rfl,HB⟩
 intro e W he Z hO a6;obtain⟨k,D⟩:=Y e (iG he);rw[D]at a6|-;obtain⟨F,HO,He⟩:=gV Z hO D;clear Z hO D he;go_wp2;go_roundw
 case rel=>exact⟨e::j,by rw[show Fm (e::j)=max (Fm j) (Go.RowKit.intOf e.key)from rfl,He.o];exact Z5 I (by show(if Fm j<k then k else Fm j)=max (Fm j) k;split<;>omega),HB.B HO λb hb=>C,F⟩
 have e1:W.iterSeen w.heap.size=((e::j).map (·.born)).reverse.toArray:=by unfold World.iterSeen;rw[F.it]
 have e2:wr.iterSeen w.heap.size=(j.map (·.born)).reverse.toArray:=by unfold World.iterSeen;rw[HJ.it]
 have:=F.len;rw[e1,e2];simp at this|-;omega
theorem Jm(h:Vt w aY tg p rs S)(e b)(ys)(a4:(Lit.int .i64 e).wf=true):qn 345 #[O p,I e] w aY tg p rs S (nV (S rs.length) 7 e b ys):=by
 have hV:=h.vU e;have HH:=fu h;obtain⟨bm,M,vi,hv,hw,hp,hb,F⟩:=h;obtain⟨vv,hM,a0,_⟩:=hv.ep e;obtain⟨va,vc,rfl⟩:=pR a0;have c0:=hv.c0;have lp:=hv.lt;have bA:=(Bl.refl w).alloc (gO jW 222);have j:=(hv.mp.bl bA).oH e a4;rw[hM]at j;unfold jW at j;have HA:nV (S rs.length) 7 e b ys=(⟨1,(S rs.length e).pr,(S rs.length e).ba,(S rs.length e).val⟩,S rs.length):=by unfold nV;rw[az au,az au]
 rw[HA];generalize S rs.length e=E at*;obtain⟨W,hW⟩:=dS ((w.alloc (gO jW 222)).alloc (gO #[I E.pr,I E.ba,dk va E.val.length vc] 311));have bW:Bl w W:=by rw[<-hW];exact bA.alloc _
 have hN:W.heap[w.heap.size]?=some (gO jW 222 (0,0)):=by rw[<-hW];exact(cL _ _ aq).H (ao w _)
 have hX:W.heap[w.heap.size+1]?=some (gO #[I E.pr,I E.ba,dk va E.val.length vc] 311 (0,0)):=by rw[<-hW];have:=ao (w.alloc (gO jW 222)) (gO #[I E.pr,I E.ba,dk va E.val.length vc] 311);rwa[show(w.alloc (gO jW 222)).heap.size=w.heap.size+1 from by simp]at this
 obtain⟨n0,n1,n2,n3,f0,f1,f2,f3⟩:=nf hN;obtain⟨x0,x1,x2⟩:=px hX 0 1 2 rfl;have lN:=(ae.1 hN).1;have lX:=(ae.1 hX).1;have HC:Hid (∀V,Bl W V->ib 87 #[dk va E.val.length vc] V λen w3=>∃Y uc,en=gG (dk Y E.val.length uc)/\Bl W w3/\w3.ownsRow W.heap.size 5 1 (dk Y E.val.length uc) E.val.length (E.val.map B8)):=λV a1=>by refine(nY (dk va E.val.length vc) E.val V (((mi a0).bl bW).bl a1) (gI hV.1)).L ?_;rintro en w3⟨u,rfl,a5,hu⟩;obtain⟨Y,uc,rfl⟩:=pR hu;exact⟨Y,uc,rfl,a1.H a5,gL hu λg e=>aF a1.lt (hu.lt g e).1⟩
 have HW:=fu hW;unfold jW at HW;obtain⟨HB,HN⟩:=fl bW hN;unfold qn;clear hv hw hp hb F a0 hM HA bA bW hN hX hW hV;go_enter func345,ntmps345;go_upto_region 2 with fail;rw[HW.o];clear HW j c0;go_region_held3(λV=>V.cell? (U (w.heap.size+1) 0)=some (I E.pr)/\V.cell? (U (w.heap.size+1) 1)=some (I E.ba)/\V.cell? (U (w.heap.size+1) 2)=some (dk va E.val.length vc)) (go_keep) (first|(go_at_call 87;refine(HC _ ?hb).L ?_;(case hb=>exact iZ);rintro en w3⟨Y,uc,rfl,D,a3⟩;obtain⟨y0,y1,y2⟩:=D.F lX x0 x1 x2;obtain⟨z0,z1,z2,z3⟩:=D.J lN n0 n1 n2 n3;have a2:=(D.heap lN).H HN;obtain⟨g0,g1,g2,g3⟩:=xj a2 0 1 2 3;have Q:=lZ D a3 a2;clear D a3 a2));all_goals
  go_wp2;have Z:=((((bz.refl (λb=>b=w.heap.size) w3).setCell (U w.heap.size 0) (.inl rfl) (I 1)).setCell (U w.heap.size 1) (.inl rfl) (I E.pr)).setCell (U w.heap.size 2) (.inl rfl) (I E.ba)).setCell (U w.heap.size 3) (.inl rfl) (dk Y E.val.length uc);have hB:=(HB.H Q.1).B Z λn e=>C;have hO:=Z.iJ Q.2.1 λb hb e=>gJ Q.2.1 Q.2.2 au (j4 hb e);refine aG (v:=kP 1 E.pr E.ba (dk Y E.val.length uc)) (by simp[results,results345,go_sem,kP,z0,z1,z2,z3]) rfl ⟨Y,uc,rs,S,gN aY w.heap.size 1,rfl,gL hO λg F=>?_,λg F=>ig _ _ _ _ ?_,λg F=>fz _ _ _ _ F,.inl ⟨rfl,rfl⟩,rfl,C,HH.only (iD hB) (λ_ _ e=>e.elim) λg F=>fz _ _ _ _ F,bz.E hB⟩
  .have:=(hO.lt g F).1;have:=HB.lt;omega
  have:=(hO.lt g F).1;have:=HB.lt;omega
end
section
variable{w:World}
def Jq{w3:World}{j:List Rc}{R:Vo×(Int->Ep)}{H:Nat}(Q:tg≠3)(L:Bl w W)(a2:W.heap.size=w.heap.size+1+1+1)(hX:w2.heap[w.heap.size+1+1]?=some (gO cs 222 (0,0)))(V:w2.ownsRow W.heap.size 5 1 (dk xa R.1.val.length H) R.1.val.length (R.1.val.map B8))(Y:∀g,(dk xa R.1.val.length H).ownBlock=some g->bp g=1)(D:∀g,g<W.heap.size->bp g=gN aY w.heap.size 3 g)(hM:tS rs S j S')(hE:S' j.length=R.2)(a0:(gY j).length<=(gY rs).length+300)(a1:Vt w2 bp tg p j S')(F:bz (λg=>gN aY w.heap.size 3 g=tg) W w2)(Z:bz (λb=>b=w.heap.size+1+1) w2 w3):∃va vc j S' bp,(gG (kP R.1.wh R.1.pr R.1.ba (dk xa R.1.val.length H)):Ending)=gG (kP R.1.wh R.1.pr R.1.ba (dk va R.1.val.length vc))/\w3.ownsRow w.heap.size 5 1 (dk va R.1.val.length vc) R.1.val.length (R.1.val.map B8)/\(∀g,(dk va R.1.val.length vc).ownBlock=some g->bp g=1)/\(∀g,g<w.heap.size->bp g=aY g)/\tS rs S j S'/\S' j.length=R.2/\(gY j).length<=(gY rs).length+300/\Vt w3 bp tg p j S'/\bz (λg=>aY g=tg) w w3:=by
 have s2:=F.size;refine⟨xa,H,j,S',bp,rfl,gL (Z.iJ V λb hb e=>gJ V hX au (j4 hb e)) λg hg=>?_,Y,λg hg=>by rw[D g C];exact fz _ _ _ _ hg,hM,hE,a0,a1.only Z (λg _ e=>?_) gK,?_⟩
 .have h1:=(V.lt g hg).1;omega
 .rw[e,D _ C,ig _ _ _ _ C];exact Ne.symm Q
 have s3:=Z.size;refine⟨Z.os.H (F.os.H L.os),Z.tape.H (F.tape.H L.tape),Z.output.H (F.output.H L.output),C,λi hi hn=>?_⟩;rw[Z.block i C C,F.block i C λe=>hn (by rwa[fz _ _ _ _ hi]at e),L.heap hi]
theorem yl(a0:tg≠3)(kd ln nr e x ck cl ca)(va)(vc)(ys:List Int)(R){F N:Nat}(hF:(F=341/\N=180/\A=#[.pointer (some ⟨p,0,none⟩),.int .i64 e,.int .i64 x])\/(F=342/\N=182/\A=#[.pointer (some ⟨p,0,none⟩),.int .i64 e,.int .i64 x,dk va ys.length vc])\/(F=343/\N=345/\A=#[.pointer (some ⟨p,0,none⟩),.int .i64 e]))(hK:∀W,Bl w W->qn N A W (gN aY w.heap.size 3) tg p rs S R):qn F #[.agg #[.pointer (some ⟨p,0,none⟩)],EJ kd ln nr e x ck cl ca (dk va ys.length vc)] w aY tg p rs S R:=by
 have b3:Bl w (((w.alloc (gO #[.pointer (some ⟨p,0,none⟩)] 238)).alloc (zL kd ln nr e x ck cl ca va ys vc)).alloc (gO jW 222)):=(((Bl.refl w).alloc _).alloc _).alloc _;obtain⟨W,hW⟩:∃W,W=(((w.alloc (gO #[.pointer (some ⟨p,0,none⟩)] 238)).alloc (zL kd ln nr e x ck cl ca va ys vc)).alloc (gO jW 222)):=⟨_,rfl⟩;have a1:W.heap.size=w.heap.size+1+1+1:=nI hW;have hX:W.heap[w.heap.size+1+1]?=some (gO jW 222 (0,0)):=by rw[hW];have:=ao ((w.alloc (gO #[.pointer (some ⟨p,0,none⟩)] 238)).alloc (zL kd ln nr e x ck cl ca va ys vc)) (gO jW 222);have hz:((w.alloc (gO #[.pointer (some ⟨p,0,none⟩)] 238)).alloc (zL kd ln nr e x ck cl ca va ys vc)).heap.size=w.heap.size+1+1:=aq;rwa[hz]at this
 rw[<-hW]at b3;have HK:=fu (hK W b3);unfold qn at HK;obtain⟨HX,HB,HW⟩:=gV hX b3 hW;rw[hW]at HK;clear hX b3 hK hW;unfold qn;unfold jW at HK;obtain⟨rfl,rfl,rfl⟩|⟨rfl,rfl,rfl⟩|⟨rfl,rfl,rfl⟩:=hF;all_goals
  first|go_enter func341,ntmps341|go_enter func342,ntmps342|go_enter func343,ntmps343
  go_wp2_with fail;refine HK.L ?_;rintro en w2⟨xa,xc,a2,S',bp,rfl,ho,L,j,hM,hE,Q,V,oQ⟩;have Y:=HW.o;unfold jW at Y;rw[<-Y]at ho oQ j;have D:w2.heap[w.heap.size+1+1]?=some (gO #[.int .i64 0,.int .i64 0,.int .i64 0,dk none 0 0] 222 (0,0)):=(oQ.block _ C (by rw[ig _ _ _ _ C];exact Ne.symm a0)).H HX;obtain⟨n0,n1,n2,n3,lN⟩:=qP D;obtain⟨f0,f1,f2,f3⟩:=xj D 0 1 2 3;have HP:=fu (And.intro ho (And.intro L (And.intro j (And.intro hM (And.intro hE (And.intro Q (And.intro V (And.intro oQ D))))))));clear ho L j hM hE Q V oQ D Y HK;unfold kP;go_wp2;obtain⟨ho,L,j,hM,hE,Q,V,oQ,D⟩:=HP.o;have Z:=((((bz.refl (λb=>b=w.heap.size+1+1) w2).setCell ⟨w.heap.size+1+1,0,none⟩ (.inl rfl) (.int .i64 R.1.wh)).setCell ⟨w.heap.size+1+1,1,none⟩ (.inl rfl) (.int .i64 R.1.pr)).setCell ⟨w.heap.size+1+1,2,none⟩ (.inl rfl) (.int .i64 R.1.ba)).setCell ⟨w.heap.size+1+1,3,none⟩ (.inl rfl) (dk xa R.1.val.length xc);exact aG (v:=kP R.1.wh R.1.pr R.1.ba (dk xa R.1.val.length xc)) (by simp[results,results341,results342,results343,go_sem,kP,n0,n1,n2,n3]) rfl (Jq a0 HB a1 D ho L j hM hE Q V oQ Z)
def FU(h:Vt w aY tg p rs S)(j:tg≠3)(kd ln nr e x ck cl ca)(va)(vc)(ys)(D:(Lit.int .i64 e).wf=true)(F:(Lit.int .i64 x).wf=true)(H:(gY rs).length<=1000000000000)(L:rs.length<=1000000000000):qn 341 #[.agg #[O p],EJ kd ln nr e x ck cl ca (dk va ys.length vc)] w aY tg p rs S (nV (S rs.length) 5 e x ys):=
 yl j kd ln nr e x ck cl ca va vc ys _ (.inl ⟨rfl,rfl,rfl⟩) λ_ Q=>Qk (h.only (iD Q) (λ_ _ e=>e.elim) λ_ V=>fz _ _ _ _ V) e x ys D F H L
def Lq(h:Vt w aY tg p rs S)(F:tg≠3)(kd ln nr e x ck cl ca)(va)(vc)(ys)(H:(Lit.int .i64 e).wf=true)(L:(Lit.int .i64 x).wf=true)(Z:(gY rs).length<=1000000000000)(hn:rs.length<=1000000000000)(hv:Bs w (dk va ys.length vc) (ys.map B8))(j:∀g,(dk va ys.length vc).ownBlock=some g->g<w.heap.size/\aY g≠tg)(Q:ys.length<=255)(V:mA ys):qn 342 #[.agg #[O p],EJ kd ln nr e x ck cl ca (dk va ys.length vc)] w aY tg p rs S (nV (S rs.length) 6 e x ys):=
 yl F kd ln nr e x ck cl ca va vc ys _ (.inr (.inl ⟨rfl,rfl,rfl⟩)) λ_ Y=>Tb (h.only (iD Y) (λ_ _ e=>e.elim) λ_ D=>fz _ _ _ _ D) e x va vc ys H L Z hn (hv.bl Y) (λg D=>⟨af (j g D).1 Y.lt,by rw[fz _ _ _ _ (j g D).1];exact(j g D).2⟩) Q V
def CA(h:Vt w aY tg p rs S)(j:tg≠3)(kd ln nr e x ck cl ca)(va)(vc)(ys)(D:(Lit.int .i64 e).wf=true):qn 343 #[.agg #[O p],EJ kd ln nr e x ck cl ca (dk va ys.length vc)] w aY tg p rs S (nV (S rs.length) 7 e x ys):=
 yl j kd ln nr e x ck cl ca va vc ys _ (.inr (.inr ⟨rfl,rfl,rfl⟩)) λ_ F=>Jm (h.only (iD F) (λ_ _ e=>e.elim) λ_ H=>fz _ _ _ _ H) e x ys D
end
def PU(w):(Instr.makeMap 405 none).run prog w=.ok (.map (some w.heap.size)) (w.alloc (.map #[] 0)):=rfl
def Ib(W:World)(g)(es)(n)(k)(f)(D:g=W.heap.size)(F:Instr.findNow (.int .i64) (.int .i64 k) es.toList 0=some none):(Instr.mapUpdate 405 (.map (some g)) (.int .i64 k) f).run prog (W.alloc (.map es n))=.ok () (W.alloc (.map (es.push ⟨.int .i64 k,f,n⟩) (n+1))):=by
 subst D;have j:(W.alloc (.map es n)).heap[W.heap.size]?=some (.map es n):=ao W _;simp only[Instr.mapUpdate,Sem.run_bind,Z4 underlying405,Result.andThen,aI j,(eW (P:=prog) (w:=W.alloc (.map es n)) (k:= .int .i64 k) underlying3 sj false 9999),(fa (w:=W.alloc (.map es n)) underlying3 F)];rw[Z7 _ j,AR]
def DQ:Array MapEntry:=#[⟨I 5,(Value.func (Fn.func 341) #[] #[]),0⟩,⟨I 6,(Value.func (Fn.func 342) #[] #[]),1⟩,⟨I 7,(Value.func (Fn.func 343) #[] #[]),2⟩]
def Ck(w)(g)(k)(i)(f)(j:w.heap[g]?=some (.map DQ 3))(D:Instr.findNow (.int .i64) (.int .i64 k) DQ.toList 0=some (some (i,f))):(Instr.lookup 405 (.map (some g)) (.int .i64 k) true).run prog w=.ok (.tuple #[f,.bool true]) w:=by
 have F:=fa (w:=w) underlying3 D;have H:=eW (P:=prog) (w:=w) (k:= .int .i64 k) underlying3 sj DQ.isEmpty 9999;simp[Instr.lookup,aI j,H,F]
section
variable{w:World}
def JE(h:Vt w aY tg p rs S)(j:tg≠3)(kd ln nr e x ck cl ca)(H:kd=5\/kd=6\/kd=7)(va)(vc)(ys)(D:(Lit.int .i64 e).wf=true)(F:(Lit.int .i64 x).wf=true)(Y:(gY rs).length<=1000000000000)(Z:rs.length<=1000000000000)(hv:Bs w (dk va ys.length vc) (ys.map B8))(L:∀g,(dk va ys.length vc).ownBlock=some g->g<w.heap.size/\aY g≠tg)(Q:ys.length<=255)(V:mA ys):qn (336+kd.toNat) #[.agg #[O p],EJ kd ln nr e x ck cl ca (dk va ys.length vc)] w aY tg p rs S (nV (S rs.length) kd e x ys):=by
 obtain rfl|rfl|rfl:=H
 .exact FU h j 5 ln nr e x ck cl ca va vc ys D F Y Z
 .exact Lq h j 6 ln nr e x ck cl ca va vc ys D F Y Z hv L Q V
 exact CA h j 7 ln nr e x ck cl ca va vc ys D
def MO{w3:World}{j:List Rc}{R:Vo×(Int->Ep)}{Z:Nat}(Q:Bl w W)(V:∀g,g<W.heap.size->bp g=gN aY w.heap.size 3 g)(hM:tS rs S j S')(hE:S' j.length=R.2)(a0:(gY j).length<=(gY rs).length+300)(a1:Vt w2 bp tg p j S')(Y:bz (λg=>gN aY w.heap.size 3 g=tg) W w2)(L:Bl w2 w3)(ho:w3.ownsRow w2.heap.size 5 1 (dk ba (iB 102 [nr,oG j,R.1.wh,R.1.pr,R.1.ba] R.1.val).length Z) (iB 102 [nr,oG j,R.1.wh,R.1.pr,R.1.ba] R.1.val).length ((iB 102 [nr,oG j,R.1.wh,R.1.pr,R.1.ba] R.1.val).map B8)):∃D F j S' bp,(gG (.tuple #[dk ba (iB 102 [nr,oG j,R.1.wh,R.1.pr,R.1.ba] R.1.val).length Z,.bool true]):Ending)=gG (.tuple #[dk D (iB 102 [nr,oG j,R.1.wh,R.1.pr,R.1.ba] R.1.val).length F,.bool true])/\w3.ownsRow w.heap.size 5 1 (dk D (iB 102 [nr,oG j,R.1.wh,R.1.pr,R.1.ba] R.1.val).length F) (iB 102 [nr,oG j,R.1.wh,R.1.pr,R.1.ba] R.1.val).length ((iB 102 [nr,oG j,R.1.wh,R.1.pr,R.1.ba] R.1.val).map B8)/\(∀g,(dk D (iB 102 [nr,oG j,R.1.wh,R.1.pr,R.1.ba] R.1.val).length F).ownBlock=some g->bp g=4)/\(∀g,g<w.heap.size->bp g=aY g)/\tS rs S j S'/\S' j.length=R.2/\(gY j).length<=(gY rs).length+300/\Vt w3 bp tg p j S'/\bz (λg=>aY g=tg) w w3:=by
 have s1:=Q.lt;have s2:=Y.size;have s3:=L.lt;refine⟨ba,Z,j,S',gN bp w2.heap.size 4,rfl,gL ho λg H=>?_,λg H=>ig _ _ _ _ (ho.lt g H).1,λg H=>?_,hM,hE,a0,a1.only (iD L) (λ_ _ e=>e.elim) λg H=>fz _ _ _ _ H,?_⟩
 .have h1:=(ho.lt g H).1;omega
 .rw[fz _ _ _ _ C,V g C,fz _ _ _ _ H]
 refine⟨L.os.H (Y.os.H Q.os),L.tape.H (Y.tape.H Q.tape),L.output.H (Y.output.H Q.output),C,λi hi hn=>?_⟩;rw[L.heap C,Y.block i C λe=>hn (by rwa[fz _ _ _ _ hi]at e),Q.heap hi]
theorem Di(h:Vt w aY tg p rs S)(htg:tg≠3)(kd ln nr e x ck cl ca)(hkd:kd=5\/kd=6\/kd=7)(va)(vc)(ys)(hwf:(Lit.int .i64 e).wf=true)(hxf:(Lit.int .i64 x).wf=true)(hl:(gY rs).length<=1000000000000)(hn:rs.length<=1000000000000)(hv:Bs w (dk va ys.length vc) (ys.map B8))(hvb:∀g,(dk va ys.length vc).ownBlock=some g->g<w.heap.size/\aY g≠tg)(hy5:ys.length<=255)(hys:mA ys)(R)(hR:R=nV (S rs.length) kd e x ys)(hRl:R.1.val.length<=255):ib 340 #[.agg #[.pointer (some ⟨p,0,none⟩)],EJ kd ln nr e x ck cl ca (dk va ys.length vc)] w λen w'=>∃ba bc rs' S' bp,en=gG (.tuple #[dk ba (iB 102 [nr,oG rs',R.1.wh,R.1.pr,R.1.ba] R.1.val).length bc,.bool true])/\w'.ownsRow w.heap.size 5 1 (dk ba (iB 102 [nr,oG rs',R.1.wh,R.1.pr,R.1.ba] R.1.val).length bc) (iB 102 [nr,oG rs',R.1.wh,R.1.pr,R.1.ba] R.1.val).length ((iB 102 [nr,oG rs',R.1.wh,R.1.pr,R.1.ba] R.1.val).map B8)/\(∀g,(dk ba (iB 102 [nr,oG rs',R.1.wh,R.1.pr,R.1.ba] R.1.val).length bc).ownBlock=some g->bp g=4)/\(∀g,g<w.heap.size->bp g=aY g)/\tS rs S rs' S'/\S' rs'.length=R.2/\(gY rs').length<=(gY rs).length+300/\Vt w' bp tg p rs' S'/\bz (λg=>aY g=tg) w w':=by
 have hmk:=PU;have hz2:((w.alloc (gO #[.pointer (some ⟨p,0,none⟩)] 238)).alloc (zL kd ln nr e x ck cl ca va ys vc)).heap.size=w.heap.size+1+1:=aq;have q1:=Ib ((w.alloc (gO #[.pointer (some ⟨p,0,none⟩)] 238)).alloc (zL kd ln nr e x ck cl ca va ys vc)) (w.heap.size+1+1) #[] 0 5 (Value.func (Fn.func 341) #[] #[]) hz2.symm rfl;have q2:=Ib ((w.alloc (gO #[.pointer (some ⟨p,0,none⟩)] 238)).alloc (zL kd ln nr e x ck cl ca va ys vc)) (w.heap.size+1+1) #[⟨.int .i64 5,(Value.func (Fn.func 341) #[] #[]),0⟩] 1 6 (Value.func (Fn.func 342) #[] #[]) hz2.symm rfl;have q3:=Ib ((w.alloc (gO #[.pointer (some ⟨p,0,none⟩)] 238)).alloc (zL kd ln nr e x ck cl ca va ys vc)) (w.heap.size+1+1) #[⟨.int .i64 5,(Value.func (Fn.func 341) #[] #[]),0⟩,⟨.int .i64 6,(Value.func (Fn.func 342) #[] #[]),1⟩] 2 7 (Value.func (Fn.func 343) #[] #[]) hz2.symm rfl;simp only[List.push_toArray,dV,dz,Nat.reduceAdd]at q1 q2 q3;have b3:Bl w (((w.alloc (gO #[.pointer (some ⟨p,0,none⟩)] 238)).alloc (zL kd ln nr e x ck cl ca va ys vc)).alloc (.map DQ 3)):=(((Bl.refl w).alloc _).alloc _).alloc _;obtain⟨W,hW⟩:∃W,W=((w.alloc (gO #[.pointer (some ⟨p,0,none⟩)] 238)).alloc (zL kd ln nr e x ck cl ca va ys vc)).alloc (.map DQ 3):=⟨_,rfl⟩;have hs3:W.heap.size=w.heap.size+1+1+1:=nI hW;rw[<-hW]at b3;have hu0:W.heap[w.heap.size]?=some (gO #[.pointer (some ⟨p,0,none⟩)] 238 (0,0)):=by rw[hW,fJ _ _ _ gM,fJ _ _ _ aq];exact ao w _
 have hq:W.heap[w.heap.size+1]?=some (gO #[.int .i64 kd,.int .i64 ln,.int .i64 nr,.int .i64 e,.int .i64 x,.int .i64 ck,.int .i64 cl,.int .i64 ca,dk va ys.length vc] 100 (0,0)):=by rw[hW,fJ _ _ _ aq];have:=ao (w.alloc (gO #[.pointer (some ⟨p,0,none⟩)] 238)) (zL kd ln nr e x ck cl ca va ys vc);have hz:(w.alloc (gO #[.pointer (some ⟨p,0,none⟩)] 238)).heap.size=w.heap.size+1:=aq;rwa[hz]at this
 have u0:W.cell? ⟨w.heap.size,0,none⟩=some (.pointer (some ⟨p,0,none⟩)):=ax W _ 0 _ 238 (0,0) hu0;obtain⟨g0,g1,g2,g3⟩:=nN hq 0 1 2 3 rfl;obtain⟨g4,g5,g6⟩:=px hq 4 5 6 rfl;obtain⟨g7,g8⟩:=rO hq 7 8 rfl;have lu:w.heap.size<W.heap.size:=C;have lq:w.heap.size+1<W.heap.size:=C;have HU:Hid (qn (336+kd.toNat) #[.agg #[.pointer (some ⟨p,0,none⟩)],EJ kd ln nr e x ck cl ca (lI va ys vc)] W (gN aY w.heap.size 3) tg p rs S R):=by rw[hR];exact JE (h.only (iD b3) (λ_ _ e=>e.elim) λg hg=>fz _ _ _ _ hg) htg kd ln nr e x ck cl ca hkd va vc ys hwf hxf hl hn (hv.bl b3) (λg hg=>⟨af (hvb g hg).1 b3.lt,by rw[fz _ _ _ _ (hvb g hg).1];exact(hvb g hg).2⟩) hy5 hys
 have hm3:W.heap[w.heap.size+1+1]?=some (.map DQ 3):=by rw[hW];have:=ao ((w.alloc (gO #[.pointer (some ⟨p,0,none⟩)] 238)).alloc (zL kd ln nr e x ck cl ca va ys vc)) (.map DQ 3);rwa[hz2]at this
 have ql:(Instr.lookup 405 (.map (some (w.heap.size+1+1))) (.int .i64 kd) true).run prog W=.ok (.tuple #[.func (Fn.func (336+kd.toNat)) #[] #[],.bool true]) W:=by
  obtain rfl|rfl|rfl:=hkd
  .exact Ck W _ 5 0 _ hm3 rfl
  .exact Ck W _ 6 1 _ hm3 rfl
  exact Ck W _ 7 2 _ hm3 rfl
 have HW:=fu hW;unfold DQ at HW;obtain⟨HB,HQ⟩:=fl b3 (And.intro hu0 hq);have hWt:=HW.o;clear hW hR b3 h hv hvb hys hm3 hu0 hq hz2;rw[hWt]at ql;clear hWt;unfold qn at HU;obtain rfl|rfl|rfl:=hkd;all_goals
  have hWk:=HW.o;go_enter func340,ntmps340;go_upto_region 5 with fail;rw[<-hWk];clear hWk ql q1 q2 q3 hmk;go_wp2_with fail;refine HU.L ?_;rintro en w2⟨xa,xc,rs',S',bp,rfl,ho,ht1,hold,hM,hE,hsz,hvt,oQ⟩;have e1:=(oQ.block w.heap.size lu (by rw[ig _ _ _ _ jc];exact Ne.symm htg)).H HQ.1;have e2:=(oQ.block (w.heap.size+1) lq (by rw[ig _ _ _ _ pK];exact Ne.symm htg)).H HQ.2;obtain⟨V,hV⟩:=dS (w2.alloc (gO #[.int .i64 R.1.wh,.int .i64 R.1.pr,.int .i64 R.1.ba,dk xa R.1.val.length xc] 222));have bV:Bl w2 V:=by rw[<-hV];exact jo.alloc _
  obtain⟨v0,v1,v2,v3,lv⟩:=qP (show V.heap[w2.heap.size]?=some (gO #[.int .i64 R.1.wh,.int .i64 R.1.pr,.int .i64 R.1.ba,dk xa R.1.val.length xc] 222 (0,0)) by rw[<-hV];exact ao w2 _);have l1:=(ae.1 e1).1;have l2:=(ae.1 e2).1;have zu:=(bV.cell l1).H (ax w2 _ 0 _ 238 (0,0) e1);have z2:=(bV.cell l2).H (ax w2 _ 2 _ 100 (0,0) e2);simp at zu z2;have l1V:=af l1 bV.lt;have l2V:=af l2 bV.lt;have HLt:Hid (∀W',Bl V W'->ib 339 #[.pointer (some ⟨p,0,none⟩)] W' λen w'=>en=gG (.int .i64 (oG rs'))/\Bl W' w'):=λW' hW'=>FX (hvt.bl (bV.H hW'));have HVB:Hid (∀W',Bl V W'->_):=λW' hW'=>Af nr (oG rs') R.1.wh R.1.pr R.1.ba xa xc R.1.val W' ((zK ho).bl (bV.H hW')) (λb hb=>af (ho.lt b hb).2 (bV.H hW').lt) hRl;obtain⟨HV,HBV,HP⟩:=gV hV bV (And.intro hold (And.intro hM (And.intro hE (And.intro hsz (And.intro hvt oQ)))));clear ho ht1 hold hM hE hsz hvt oQ e1 e2 hV bV HU HW u0 g0 g1 g2 g3 g4 g5 g6 g7 g8;unfold kP;go_upto_region 6 with fail;rw[HV.o];clear HV;go_region_held3(λW'=>W'.cell? ⟨w.heap.size,0,none⟩=some (.pointer (some ⟨p,0,none⟩))/\W'.cell? ⟨w.heap.size+1,2,none⟩=some (.int .i64 nr)/\W'.cell? ⟨w2.heap.size,0,none⟩=some (.int .i64 R.1.wh)/\W'.cell? ⟨w2.heap.size,1,none⟩=some (.int .i64 R.1.pr)/\W'.cell? ⟨w2.heap.size,2,none⟩=some (.int .i64 R.1.ba)/\W'.cell? ⟨w2.heap.size,3,none⟩=some (dk xa R.1.val.length xc)) (go_keep) (first|(go_at_call 339;refine(HLt _ ?hb).L ?_;(case hb=>exact iZ);rintro en w3⟨rfl,hb3⟩;have hB3:Bl V w3:=Bl.H iZ hb3;have yu:=(hB3.cell l1V).H zu;have y2:=(hB3.cell l2V).H z2;obtain⟨x0,x1,x2,x3⟩:=hB3.J lv v0 v1 v2 v3;have HB3:=fu hB3;clear hb3 hB3)|(go_at_call 344;refine(HVB _ ?hb).L ?_;(case hb=>first|exact HB3.o|exact HB3.drew|exact HB3.drewN _);rintro en w4⟨ba,bc,rfl,hb4,ho4⟩;have hB4:Bl V w4:=Bl.H (by first|exact HB3.o|exact HB3.drew|exact HB3.drewN _) hb4;have tu:=(hB4.cell l1V).H zu;have t2:=(hB4.cell l2V).H z2;obtain⟨t4,t5,t6,t7⟩:=hB4.J lv v0 v1 v2 v3;have HQ4:=mF hB4 ho4;clear hb4 hB4 ho4));all_goals
   go_wp2;go_ret2;exact MO HB HP.1 HP.2.1 HP.2.2.1 HP.2.2.2.1 HP.2.2.2.2.1 HP.2.2.2.2.2 (HBV.H HQ4.1) (gL HQ4.2 λg hg=>by have:=(HQ4.2.lt g hg).1;have:=HBV.lt;have:=HB3.lt;first|omega|(simp at*;omega))
end
def Tryz.IG:(prog.info? 294).map (λi=>(i.zero,i.size,i.bytes))=some (some (.agg #[I 0,I 0]),2,16):=rfl
section
variable{w:World}{q q1 q2:List Qz}{z z':Qz}
def LS{s:Value}(j:(w.alloc (gO #[I cl,I ln] 294)).alloc (gO #[I nr,s] 296)=W):Bl w W/\W.cell? (U w.heap.size 0)=some (I cl)/\W.cell? (U w.heap.size 1)=some (I ln)/\W.cell? (U (w.heap.size+1) 0)=some (I nr)/\W.cell? (U (w.heap.size+1) 1)=some s/\w.heap.size+1<W.heap.size:=by subst j;exact⟨(jo.alloc _).alloc _,aq,aq,aq,aq,aq⟩
theorem QH(h:Qm w aY tn tb g gm clk iv ov (l1++e::l2) q)(hk:∀x∈l1,¬(e.cl=x.cl/\e.ln=x.ln))(nr py)(sa oa)(sn sc on oc)(hv:e.v=.agg #[I py,dk oa on oc])(hn:nr<=py):ib 212 #[.pointer (some (U g 1)),ak e.cl e.ln,.agg #[I nr,dk sa sn sc]] w λen w'=>en=gS/\Bl w w':=by
 have c1:w.cell? (U g 1)=some (.map (some gm)):=ax w g 1 _ 127 (0,0) h.hp;have Y:=h.lg;have L:Hid (∀W,Bl w W->(Instr.lookup 120 (.map (some gm)) (ak e.cl e.ln) true).run prog W=.ok (.tuple #[.agg #[I py,dk oa on oc],.bool true]) W):=λW D=>by have:=rA ((D.heap (ae.1 h.mp).1).H h.mp) hk rfl rfl true;rw[this,hv];rfl
 obtain⟨W,D⟩:=dS ((w.alloc (gO #[I e.cl,I e.ln] 294)).alloc (gO #[I nr,dk sa sn sc] 296));obtain⟨j,k0,k1,n0,n1,F⟩:=LS D;have d1:=(j.cell Y).H c1;have a2:=af Y j.lt;have lh:w.heap.size<W.heap.size:=C;have HB:=fu j;have Z:=L W.drew j.drew;have a0:=L (W.alloc (gO #[I 0,OO] 296)).drew (j.alloc _).drew;have a1:=L (W.drew.alloc (gO #[I 0,OO] 296)) (j.drew.alloc _);have HW:=fu D;clear j D h L;go_enter func212,ntmps212;go_upto_region 1 with fail;rw[HW.o];clear HW;go_cut[6,7] λx y wx=>∃V,x= O V/\y=.bool true/\Hid (wx.heap[V]?=some (gO #[I py,dk oa on oc] 296 (0,0))/\Bl W wx)
 case first=>
  go_region;all_goals(go_wp2_with fail;go_meet)
  all_goals first|exact⟨_,rfl,rfl,ao W _,(jo.alloc _).drew⟩|exact⟨_,rfl,rfl,ao W.drew _,(jo.drew).alloc _⟩
 case rest=>obtain⟨V,rfl,rfl,Q⟩:=hcut;obtain⟨y0,y1,ly⟩:=N8 Q.1;have z0:=(Q.2.cell F).H n0;have lz:=af F Q.2.lt;go_wp2;exact aG (v:= .tuple #[]) (by simp[results,results212,go_sem]) rfl ⟨rfl,HB.H Q.2⟩
theorem TF(h:Qm w aY tn tb g gm clk iv ov (l1++e::l2) q)(hk:∀x∈l1,¬(e.cl=x.cl/\e.ln=x.ln))(nr py)(sa oa)(sn sc on oc)(hv:e.v=.agg #[I py,dk oa on oc])(hn:py<nr):ib 212 #[.pointer (some (U g 1)),ak e.cl e.ln,.agg #[I nr,dk sa sn sc]] w λen w'=>en=gS/\∃L,Bl w L/\w'=setBlock L gm (.map (kh (l1++{e with v:= .agg #[I nr,dk sa sn sc]}::l2)) clk):=by
 have c1:w.cell? (U g 1)=some (.map (some gm)):=ax w g 1 _ 127 (0,0) h.hp;have lg:=h.lg;have HL:Hid (∀W,Bl w W->(Instr.lookup 120 (.map (some gm)) (ak e.cl e.ln) true).run prog W=.ok (.tuple #[.agg #[I py,dk oa on oc],.bool true]) W):=λW D=>by have:=rA ((D.heap (ae.1 h.mp).1).H h.mp) hk rfl rfl true;rw[this,hv];rfl
 have HU:Hid (∀W,Bl w W->(Instr.mapUpdate 120 (.map (some gm)) (ak e.cl e.ln) (.agg #[I nr,dk sa sn sc])).run prog W=.ok () (setBlock W gm (.map (kh (l1++{e with v:= .agg #[I nr,dk sa sn sc]}::l2)) clk))):=λW D=>GK ((D.heap (ae.1 h.mp).1).H h.mp) hk;obtain⟨W,D⟩:=dS ((w.alloc (gO #[I e.cl,I e.ln] 294)).alloc (gO #[I nr,dk sa sn sc] 296));obtain⟨F,k0,k1,n0,n1,Q⟩:=LS D;have d1:=(F.cell lg).H c1;have V:=af lg F.lt;have lh:w.heap.size<W.heap.size:=C;have HB:=fu F;have Y:=HL W.drew F.drew;have Z:=HL (W.alloc (gO #[I 0,OO] 296)).drew (F.alloc _).drew;have a0:=HL (W.drew.alloc (gO #[I 0,OO] 296)) (F.drew.alloc _);have HW:=fu D;have a1:¬nr<=py:=C;clear F D h HL;go_enter func212,ntmps212;go_upto_region 1 with fail;rw[HW.o];clear HW;go_cut[6,7] λx y L=>∃gx,x= O gx/\y=.bool true/\Hid (L.heap[gx]?=some (gO #[I py,dk oa on oc] 296 (0,0))/\Bl W L)
 case first=>
  go_region;all_goals(go_wp2_with fail;go_meet)
  all_goals first|exact⟨_,rfl,rfl,ao W _,(jo.alloc _).drew⟩|exact⟨_,rfl,rfl,ao W.drew _,(jo.drew).alloc _⟩
 case rest=>
  obtain⟨gx,rfl,rfl,j⟩:=hcut;obtain⟨y0,y1,ly⟩:=N8 j.1;obtain⟨z0,z1⟩:=j.2.E Q n0 n1;obtain⟨u0,u1⟩:=j.2.E lh k0 k1;have ud:=(j.2.cell V).H d1;have lz:=af Q j.2.lt;have a2:=af V j.2.lt;have a3:=HU wc.drew (HB.H j.2).drew;clear k0 k1 n0 n1 d1 Y Z a0 HU;go_upto_region 5 with fail;go_region;all_goals
   go_wp2;go_end0;exact⟨rfl,_,(HB.H j.2).drew,rfl⟩
theorem Te(h:Qm w aY tn tb g gm clk iv ov l q)(hk:∀x∈l,¬(cl=x.cl/\ln=x.ln))(b3:l.length<=1000)(nr)(sa)(sn sc):ib 212 #[.pointer (some (U g 1)),ak cl ln,.agg #[I nr,dk sa sn sc]] w λen w'=>en=gS/\∃W D gg cap,Bl w W/\W.grownBy D ov.ownBlock/\D.ownsRow 0 294 2 (dk (G gg) (l.length+1) cap) (l.length+1) (uP l++[I cl,I ln])/\(ov.ownBlock=some gg\/w.heap.size<=gg)/\w'=setBlock (D.setCell (U g 2) (dk (G gg) (l.length+1) cap)).drew gm (.map (kh (l++[⟨cl,ln,.agg #[I nr,dk sa sn sc],clk⟩])) (clk+1)):=by
 obtain⟨c1,c2⟩:=rO h.hp 1 2 rfl;have lg:=h.lg;have HL:Hid (∀W,Bl w W->(Instr.lookup 120 (.map (some gm)) (ak cl ln) true).run prog W=.ok (.tuple #[.agg #[I 0,OO],.bool false]) W):=λW hW=>C2 ((hW.heap h.lm).H h.mp) hk;obtain⟨W,hW⟩:=dS ((w.alloc (gO #[I cl,I ln] 294)).alloc (gO #[I nr,dk sa sn sc] 296));obtain⟨bW,k0,k1,n0,n1,a4⟩:=LS hW;obtain⟨d1,d2⟩:=bW.E lg c1 c2;have a5:=af lg bW.lt;have lh:w.heap.size<W.heap.size:=C;have HB:=fu bW;have a6:=HL W.drew bW.drew;have a7:=HL (W.alloc (gO #[I 0,OO] 296)).drew (bW.alloc _).drew;have a8:=HL (W.drew.alloc (gO #[I 0,OO] 296)) (bW.drew.alloc _);obtain⟨HW,HQ⟩:=fl hW h;have a1:Hid (ov.ownBlock≠some g):=gJ h.gZ h.hp au;obtain⟨Z,oc,ai⟩:∃Z oc,ov=dk Z l.length oc:=by
  obtain⟨e,e'⟩|⟨g,cap,b4,e,_⟩:=h.gZ.2
  .exact⟨_,_,j4 e e'⟩
  exact⟨_,_,e⟩
 subst ai;have al:Hid (∀b,(lI Z l oc).ownBlock=some b->b<w.heap.size):=λb hb=>(h.gZ.lt b hb).2;obtain⟨a9,aa,t0,t1,t2⟩:=fx Tryz.IG;clear bW hW h HL c1 c2;go_enter func212,ntmps212;go_upto_region 1 with fail;rw[HW.o];clear HW;go_cut[6,7] λx y wx=>∃gx,x= O gx/\y=.bool false/\Hid (wx.heap[gx]?=some (gO #[I 0,OO] 296 (0,0))/\Bl W wx)
 case first=>
  go_region;all_goals(go_wp2_with fail;go_meet)
  all_goals first|exact⟨_,rfl,rfl,ao W _,(jo.alloc _).drew⟩|exact⟨_,rfl,rfl,ao W.drew _,(jo.drew).alloc _⟩
 case rest=>
  obtain⟨gx,rfl,rfl,HX⟩:=hcut;obtain⟨V,rfl⟩:∃V,V=wc:=⟨_,rfl⟩;obtain⟨y0,y1,ly⟩:=N8 HX.1;obtain⟨z0,z1⟩:=HX.2.E a4 n0 n1;obtain⟨u0,u1⟩:=HX.2.E lh k0 k1;obtain⟨ud,ue⟩:=HX.2.E a5 d1 d2;have lz:=af a4 HX.2.lt;have ab:=af lh HX.2.lt;have a2:=af a5 HX.2.lt;have bc:=HB.H HX.2;have a3:=(bc.heap lg).H HQ.hp;have am:=aP V g 2 _ 127 a3;have HO:=fu ((iD bc).iJ HQ.gZ λ_ _ e=>e);have an:Hid (l.length+1<=maxLen):=mQ;have ap:Hid ((l.length+1)*16<=140737488355328):=lQ;have ac:=fu bc;have ar:Hid (V.heap[g]?=some (gO [iv,.map (some gm),dk Z l.length oc].toArray 127 (0,0))):=a3;have b5:w.heap.size<=V.heap.size:=bc.lt;have ad:Hid (∀W' D nv,Bl w W'->W'.grownBy D (lI Z l oc).ownBlock->(Instr.mapUpdate 120 (.map (some gm)) (ak cl ln) (.agg #[I nr,dk sa sn sc])).run prog (D.setCell (U g 2) nv).drew=.ok () (setBlock (D.setCell (U g 2) nv).drew gm (.map (kh (l++[⟨cl,ln,.agg #[I nr,dk sa sn sc],clk⟩])) (clk+1)))):=λW' D nv Q hg=>by have o6:=(bz.E (S:=λb=>some b=(lI Z l oc).ownBlock) Q).H (bz.B hg);have av:=(o6.block gm HQ.lm λe=>nB ⟨_,_,HQ.mp⟩ HQ.gZ e.symm).H HQ.mp;have o7:bz (λb=>b=g) D (D.setCell (U g 2) nv):=(bz.refl (λb=>b=g) D).setCell (U g 2) (.inl rfl) _;exact FV (w:=(D.setCell (U g 2) nv).drew) ((o7.block gm (by have:=o6.size;have:=HQ.lm;omega) λe=>HQ.RO e.symm).H av) hk
  clear k0 k1 n0 n1 d1 d2 a6 a7 a8 bc a3 HQ;go_upto_region 4 with fail;go_cut[] λwx=>∃D gg cap,Hid (wx=D.setCell (U g 2) (dk (G gg) (l.length+1) cap))/\Hid (∃W',Bl V W'/\W'.grownBy D (lI Z l oc).ownBlock)/\Hid (D.ownsRow 0 294 2 (dk (G gg) (l.length+1) cap) (l.length+1) (uP l++[I cl,I ln]))/\Hid ((lI Z l oc).ownBlock=some gg\/w.heap.size<=gg)
  case first=>
   go_region_law
    ((refine step_append_lies _ jz _ _ _ jz 0 294 a9 _ 2 16 underlying121 aa t0 t1 t2 rfl C _ l.length (uP l) jz ((HO.alloc _).drew) (U V.heap.size 0) 1 1 [I cl,I ln] jz jz (fW (cs:=#[I cl,I ln]) (t:=294) (fr:=(0,0)) (ao V _)) qR C an ap aq (V.heap.size+1) aq ?_;intro gg cp D F j L Y;have b6:=(zM (((Bl.refl V).alloc _).drew) j (o:=2) a2 a1).1.H ue;have b7:=(zM (((Bl.refl V).alloc _).drew) j (o:=2) a2 a1).2.H am;have b8:g<D.heap.size:=(by have:=j.size;simp at this;omega);have aw:=ow F j L Y;clear F j L Y))
   all_goals(go_wp2_with fail;go_meet)
   all_goals
    obtain⟨F,j,L,Y⟩:=aw.o;exact⟨D,gg,cp,rfl,⟨_,(jo.alloc _).drew,j⟩,F,L.imp (λe=>e) λe=>C⟩
  case rest=>
   obtain⟨D,gg,cap,HE,HG,b0,b1⟩:=hcut;obtain⟨W',Q,a0⟩:=HG.o;have b9:=ad W' D (dk (G gg) (l.length+1) cap) (ac.H Q) a0;have o6:=(bz.E (S:=λb=>some b=(lI Z l oc).ownBlock) Q).H (bz.B a0);have o7:bz (λb=>b=g) D (D.setCell (U g 2) (dk (G gg) (l.length+1) cap)):=(bz.refl (λb=>b=g) D).setCell (U g 2) (.inl rfl) _;have nb:∀b,w.heap.size<=b->¬some b=(lI Z l oc).ownBlock:=λb hb e=>by have:=al b e.symm;omega
   have s6:=o6.size;have ce:∀b i v,w.heap.size<=b->b<V.heap.size->V.cell? (U b i)=some v->(D.setCell (U g 2) (dk (G gg) (l.length+1) cap)).cell? (U b i)=some v:=λb i v h1 h2 h3=>by rw[o7.cell (by show b<_;omega) (by show¬b=g;omega),o6.cell h2 (nb b h1)];exact h3
   have e0:=ce _ _ _ jc ab u0;have e1:=ce _ _ _ jc ab u1;have e2:=ce _ _ _ C lz z0;have e3:=ce _ _ _ C lz z1;have e4:(D.setCell (U g 2) (dk (G gg) (l.length+1) cap)).cell? (U g 1)=some (.map (some gm)):=by exact ax _ g 1 _ 127 (0,0) (iU 2 _ D _ ((o6.block g a2 λe=>a1.o e.symm).H ar))
   have l6:g<(D.setCell (U g 2) (dk (G gg) (l.length+1) cap)).heap.size:=by have:=o7.size;omega
   have l7:w.heap.size+1<(D.setCell (U g 2) (dk (G gg) (l.length+1) cap)).heap.size:=by have:=o7.size;omega
   have HF:=mF (ac.H Q) a0;rw[HE.o];clear Q a0 o6 o7 nb s6 ce HE HG ad u0 u1 z0 z1 ud ue y0 y1;generalize ag:D.setCell (U g 2) (dk (G gg) (l.length+1) cap)=w7 at*;have b2:=fu ag;clear ag;go_upto_region 5 with fail;go_region;all_goals
    go_wp2;go_end0;refine⟨rfl,W',D,gg,cap,HF.1,HF.2,b0,b1,?_⟩;rw[b2.o]
end
def Qz.is(z:Qz)(cl ln:Int):Bool:=z.cl==cl&&z.ln==ln
def zQ(q:List Qz)(a:Qz):List Qz:=match q.find? λb=>b.is a.cl a.ln with
 |none=>q++[a]
 |some b=>if a.nr<=b.nr then q else q.map λb=>if b.is a.cl a.ln then a else b
def Q0(w:World)(aY:Nat->Nat)(tn tb g:Nat)(iv:Value)(q:List Qz):Prop:=∃gm clk ov l,Qm w aY tn tb g gm clk iv ov l q
section
variable{w:World}{q:List Qz}
def Qm.key(h:Qm w aY tn tb g gm clk iv ov l q){z:Qz}(j:l[i]?=some e)(D:q[i]?=some z):e.cl=z.cl/\e.ln=z.ln:=⟨(h.vs i e z j D).1,(h.vs i e z j D).2.1⟩
def Oy{α:Type}{l:List α}{e:α}(h:l[i]?=some e):l=l.take i++e::l.drop (i+1)/\(l.take i).length=i:=by obtain⟨j,rfl⟩:=aj.1 h;exact⟨by rw[fX,dK],gM⟩
def L1{j q2:List Qz}{b a:Qz}(F:∀x∈j,x.is a.cl a.ln=false)(H:b.is a.cl a.ln=true)(L:∀x∈q2,x.is a.cl a.ln=false):zQ (j++b::q2) a=if a.nr<=b.nr then j++b::q2 else j++a::q2:=by
 unfold zQ;have Q:(j++b::q2).find? (λb=>b.is a.cl a.ln)=some b:=by rw[List.find?_append,bU.2 (λx D=>by rw[F x D];simp)];simp[H]
 rw[Q];simp only;split
 .rfl
 rw[aZ,bj,aE H];congr 1
 .conv=>rhs;rw[<-eI j]
  exact bf λx D=>by simp[F x D]
 congr 1
 conv=>rhs;rw[<-eI q2]
 exact bf λx D=>by simp[L x D]
def Fy{z:Qz}:z.is cl ln=true↔z.cl=cl/\z.ln=ln:=by simp[Qz.is]
theorem IQ(h:Qm w aY tn tb g gm clk iv ov l q)(z)(sa)(sc)(ad:q.length<=1000)(ag:tb≠tn)(hs:w.ownsRow 0 5 1 (dk sa z.data.length sc) z.data.length (z.data.map B8))(ht:∀b,(dk sa z.data.length sc).ownBlock=some b->aY b=tb)(a1:∀x∈l,∀b,x.wU=some b->(dk sa z.data.length sc).ownBlock≠some b):ib 212 #[.pointer (some (U g 1)),ak z.cl z.ln,.agg #[I z.nr,dk sa z.data.length sc]] w λen w'=>en=gS/\∃bp,(∀b,b<w.heap.size->bp b=aY b)/\Q0 w' bp tn tb g iv (zQ q z)/\bz (λb=>aY b=tn) w w':=by
 have hz:∀bo,vL w aY tb ⟨z.cl,z.ln,.agg #[I z.nr,dk sa z.data.length sc],bo⟩ z:=λbo=>⟨rfl,rfl,sa,sc,rfl,hs,ht⟩;have a2:∀bo,(Qv.mk z.cl z.ln (.agg #[I z.nr,dk sa z.data.length sc]) bo).wU=(dk sa z.data.length sc).ownBlock:=λbo=>by simp[Qv.wU]
 cases hf:q.find? λb=>b.is z.cl z.ln with
 |none=>
  have a3:∀x∈l,¬(z.cl=x.cl/\z.ln=x.ln):=λx D e=>by
   obtain⟨i,hi,rfl⟩:=aV.1 D;have a4:i<q.length:=by rw[<-h.len];exact hi
   have hk:=h.key (ah hi) (ah a4);have:=bU.1 hf q[i] (aL a4);exact this (Fy.2 ⟨hk.1.symm.H e.1.symm,hk.2.symm.H e.2.symm⟩)
  refine(Te h a3 (by rw[h.len];exact ad) z.nr sa z.data.length sc).L ?_;rintro en w'⟨rfl,W,w6,gg,cap,bW,hg,a5,ai,rfl⟩;obtain⟨k1,k2⟩:=h.push bW hg a5 ai (hz clk) (λx D b Z=>by rw[a2];exact a1 x D b Z) (λx D e=>a3 x D ⟨e.1.symm,e.2.symm⟩) ag;refine⟨rfl,gN aY w.heap.size tn,λb Z=>fz _ _ _ _ Z,?_,k2⟩;have:zQ q z=q++[z]:=by unfold zQ;rw[hf]
  rw[this];exact⟨_,_,_,_,k1⟩
 |some b=>
  obtain⟨Z,F,q2,rfl,h1⟩:=List.find?_eq_some_iff_append.1 hf;have hi:F.length<l.length:=by have:=h.len;simp at this;omega
  obtain⟨hl,a6⟩:=Oy (ah hi);have a7:(F++b::q2)[F.length]?=some b:=aq;obtain⟨a8,a9⟩:=h.key (ah hi) a7;obtain⟨b1,b2⟩:=Fy.1 Z;obtain⟨_,_,oa,oc,hv,_,_⟩:=h.vs F.length _ _ (ah hi) a7;generalize l[F.length]=e at*;generalize l.take F.length=l1 at*;generalize l.drop (F.length+1)=l2 at*;subst hl;have aa:=h.ky;rw[cu,cI]at aa;obtain⟨_,⟨al,_⟩,am⟩:=aa;have hk:∀x∈l1,¬(e.cl=x.cl/\e.ln=x.ln):=λx D e'=>am x D e aN ⟨e'.1.symm,e'.2.symm⟩;have h2:∀x∈q2,x.is z.cl z.ln=false:=λx D=>by
   cases an:x.is z.cl z.ln with
   |false=>rfl
   |true=>
    exfalso;obtain⟨j,hj,rfl⟩:=aV.1 D;have ab:=h.len;simp at ab;have ac:j<l2.length:=C;have e1:(l1++e::l2)[l1.length+(j+1)]?=some l2[j]:=by rw[aC C];simp[ac]
    have e2:(F++b::q2)[l1.length+(j+1)]?=some q2[j]:=by rw[aC C,a6];simp[hj]
    obtain⟨m1,m2⟩:=h.key e1 e2;obtain⟨x1,x2⟩:=Fy.1 an;exact al _ (aL ac) ⟨by rw[m1,x1,a8,b1],by rw[m2,x2,a9,b2]⟩
  have ap:∀x∈F,x.is z.cl z.ln=false:=λx D=>by simpa using h1 x D
  have ez:=L1 ap Z h2;rw[ez];have Q:z.cl=e.cl:=j4 a8 b1;have V:z.ln=e.ln:=j4 a9 b2;by_cases hn:z.nr<=b.nr
  .rw[aE hn];rw[show ak z.cl z.ln=ak e.cl e.ln from by rw[Q,V]];have:=QH h hk z.nr b.nr sa oa z.data.length sc b.data.length oc hv hn;refine gF this λw' Y=>?_;exact⟨rfl,aY,λ_ _=>rfl,⟨_,_,_,_,h.bl Y gK⟩,bz.E Y⟩
  rw[az hn];rw[show ak z.cl z.ln=ak e.cl e.ln from by rw[Q,V]];have:=TF h hk z.nr b.nr sa oa z.data.length sc b.data.length oc hv C;refine this.L ?_;rintro en w'⟨rfl,wx,a0,rfl⟩;have D:=h.bl a0 (bp:=aY) gK;have ar:vL wx aY tb ⟨e.cl,e.ln,.agg #[I z.nr,dk sa z.data.length sc],e.bo⟩ z:=by have:=(hz e.bo).only (bp:=aY) (iD a0) (λ_ _ e=>e.elim) gK;rwa[Q,V]at this
  refine⟨rfl,aY,λ_ _=>rfl,⟨_,_,_,_,D.tZ a6 ar ?_⟩,(bz.E a0).H ((jT _ _ _).L λb Z e=>?_)⟩
  .intro x av b' Y e';have:=a2 e.bo;rw[Q,V]at this;rw[this]at e';exact a1 x av b' Y e'
  rw[e];exact h.tm
end
theorem sF(g):∀(F:List Value) (o:Nat) (w:World) (D:Array Value) (t:TypeId),w.heap[g]?=some (gO D t (0,0))->∃j,(w.setCells g o F).heap[g]?=some (gO j t (0,0))/\j.size=D.size/\bz (λb=>b=g) w (w.setCells g o F)
 |[],_,w,D,_,h=>⟨D,h,rfl,sQ⟩
 |v::r,o,w,D,t,h=>by have L:=fy w g o _ t v h;obtain⟨j,Q,V,Y⟩:=sF g r _ _ _ t L;exact⟨j,Q,nI V,((bz.refl (λb=>b=g) w).setCell (U g o) (.inl rfl) v).H Y⟩
def M0(w)(g n c)(ty)(cur)(Q:w.heap[g]?=some (gO cur 294 (0,0)))(hn:0<n)(hs:n*2<=cur.size):∃w',(Builtin.clear_ #[121] ty #[dk (G g) n c]).run prog w=.ok (.tuple #[]) w'/\bz (λb=>b=g) w w'/\∃D,w'.heap[g]?=some (gO D 294 (0,0))/\D.size=cur.size:=by
 obtain⟨L,V⟩:∃L,L=(Builtin.zeroCells (Value.agg #[I 0,I 0]).cells n).toList:=⟨_,rfl⟩;have Z:L.length=n*2:=by rw[V];simp[Builtin.zeroCells,Value.cells]
 have F:∀v∈L,v.oneCell'=true:=by
  intro v Y;rw[V]at Y;simp only[Builtin.zeroCells,Value.cells,Array.toList_map,aD]at Y;obtain⟨i,_,rfl⟩:=Y;have h2:i%2=0\/i%2=1:=C;obtain h2|h2:=h2
  .simp[h2,Value.oneCell']
  simp[h2,Value.oneCell']
 have H:=run_storeCells_cells (P:=prog) g 0 L 0 w (λj hj=>by rw[ax w g (0+0+j) _ 294 (0,0) Q,dW C];rfl) (λj _=>aP w g (0+0+j) _ 294 Q) F
 simp only[fj]at H;obtain⟨D,k1,k2,k3⟩:=sF g L 0 w cur 294 Q;obtain⟨m,rfl⟩:∃m,n=m+1:=⟨n-1,C⟩;refine⟨w.setCells g 0 L,?_,k3,D,k1,k2⟩;simp[Builtin.clear_,Z4 underlying121,<-V,H]
theorem tO(w)(n:Nat)(v)(xs)(h:w.ownsRow 0 294 2 v n xs)(hn:n<=1000000):ib 244 #[v,I 0,I n] w λen w'=>∃v',en=gG v'/\w'.ownsRow 0 294 2 v' 0 []/\(∀b,v'.ownBlock=some b->v.ownBlock=some b)/\bz (λb=>v.ownBlock=some b) w w':=by
 obtain⟨rfl,rfl⟩|⟨g,cap,D,rfl,hb,Y,hc,Z,j,F⟩:=h.2
 .have H:=fu h;clear h;go_enter func244,ntmps244;go_wp2;go_ret;exact⟨_,rfl,mC,λb e=>e,sQ⟩
 by_cases hz:n=0
 .subst hz;have a0:(cap:Int)<=9223372036854775807:=by unfold maxLen at Z;omega
  have HE:Hid (w.ownsRow 0 294 2 (dk (G g) 0 cap) 0 []):=⟨rfl,.inr ⟨g,cap,D,rfl,jd,Y,jd,Z,j,aq⟩⟩;clear h Y j F;go_enter func244,ntmps244;go_wp2;go_ret;exact⟨_,rfl,HE,λb e=>e,sQ⟩
 have a0:(cap:Int)<=9223372036854775807:=by unfold maxLen at Z;omega
 obtain⟨L,Q,t0,t1,t2⟩:=fx Tryz.IG;obtain⟨A,hA⟩:∃A:Addr,(if cap=n then some ((U g 0):Addr)else some (U g (n*2)))=some A:=by
  by_cases e:cap=n
  .exact⟨_,by simp[e];rfl⟩
  exact⟨_,by simp[e];rfl⟩
 have a2:(n:Int)<=(cap:Int):=C;obtain⟨w',k1,k2,V,k3,k4⟩:=M0 w.drew g n cap 0 D Y C (by rw[j];exact gy 2 hc);have a1:=fu j;clear h Y j F;go_enter func244,ntmps244;go_wp2;go_region_law(refine step_append_room rfl (.tmp 22) (.tmp 25) 121 rfl 294 L 2 underlying121 Q t1 g 0 0 cap (by simp[Act.eval,Act.put]) A 0 (cap-n) [] (by simp[Act.eval,Act.put]) rfl aq aq C aq ?_);have e0:w.drew.setCells g 0 []=w.drew:=rfl;rw[e0];have K1:=fu k1;have HE:Hid (w'.ownsRow 0 294 2 (dk (G g) 0 cap) 0 []):=⟨rfl,.inr ⟨g,cap,V,rfl,jd,k3,jd,Z,jP k4 a1,aq⟩⟩;have HO:Hid (bz (λb=>(dk (some ((U g 0):Addr)) n cap).ownBlock=some b) w w'):=(bz.E (Bl.refl w).drew).H (k2.L λk _ e=>by simp[Value.ownBlock,e]);clear k1 k2 k3 k4;go_wp2;rw[K1.o];go_wp2;go_ret;exact⟨_,rfl,HE,λb e=>e,HO⟩
def Tryz.CE:(prog.info? 179).map (λi=>(i.zero,i.size,i.bytes))=some (some (.agg #[I 0,OO]),2,32):=rfl
structure wF(w:World)(P:Nat->Prop)(v:Value)(ps:List (Int×List Int))(xs:List Value):Prop where
 gZ:w.ownsRow 0 179 2 v ps.length xs
 ob:∀b,v.ownBlock=some b->P b
 f:∀i z,ps[i]?=some z->xs[2*i]?=some (I z.1)/\∃a c,xs[2*i+1]?=some (.slice a z.2.length c)/\w.ownsRow 0 5 1 (.slice a z.2.length c) z.2.length (z.2.map B8)/\∀b,(Value.slice a z.2.length c).ownBlock=some b->P b
 ap:∀i j u v b,i<j->xs[2*i+1]?=some u->xs[2*j+1]?=some v->u.ownBlock=some b->v.ownBlock≠some b
def wF.nil(w)(P):wF w P OO [] []:=⟨mC,λb h=>mX h,λi z h=>lY h,λi j u v b _ h=>lY h⟩
def wF.only{w:World}(h:wF w P v ps xs)(D:bz T w w')(F:∀b,b<w.heap.size->P b->¬T b):wF w' P v ps xs:=
 ⟨D.iJ h.gZ λb j=>F b (h.gZ.lt b j).2 (h.ob b j),h.ob,λi z Q=>by
  obtain⟨V,a,c,Y,H,L⟩:=h.f i z Q
  exact⟨V,a,c,Y,D.iJ H λb j=>F b (H.lt b j).2 (L b j),L⟩,h.ap⟩
def wF.bl{w:World}(h:wF w P v ps xs)(j:Bl w w'):wF w' P v ps xs:=h.only (bz.E j) λ_ _ _ e=>e
def wF.VR{w:World}(h:wF w P v ps xs):xs.length=2*ps.length:=by rw[h.gZ.1];omega
def wF.push{w w1:World}{tt:Int}{a:Option Addr}{c cap:Nat}(h:wF w P v ps xs)(D:Bl w w1)(F:w1.grownBy w2 v.ownBlock)(Y:w2.ownsRow 0 179 2 (dk (G g) (ps.length+1) cap) (ps.length+1) (xs++[I tt,dk a ds.length c]))(hg:P g)(hu:w.ownsRow 0 5 1 (dk a ds.length c) ds.length (ds.map B8))(hP:∀b,(dk a ds.length c).ownBlock=some b->P b)(a0:∀(i:Nat) u b,xs[2*i+1]?=some u->u.ownBlock=some b->(dk a ds.length c).ownBlock≠some b):wF w2 P (dk (G g) (ps.length+1) cap) (ps++[(tt,ds)]) (xs++[I tt,dk a ds.length c]):=by
 have ho:bz (λb=>v.ownBlock=some b) w w2:=(bz.E D).H ((bz.B F).L λx _ e=>e.symm);have hx:=h.VR;have Z:∀{u:Value} {n:Nat} {zs:List Value},w.ownsRow 0 5 1 u n zs->∀b,u.ownBlock=some b->v.ownBlock≠some b:=fun{u n zs} hu b D e=>by obtain⟨cc,hc⟩:=ny h.gZ b e;exact gJ hu hc au D
 refine⟨iG Y,λb D=>by simp[Value.ownBlock]at D;rw[<-D];exact hg,λi z Q=>?_,λi j u u' b a1 h1 V D=>?_⟩
 .by_cases hi:i<ps.length
  .rw[aB hi]at Q;obtain⟨k1,a',c',k2,k3,k4⟩:=h.f i z Q;refine⟨by rw[aB C];exact k1,a',c',by rw[aB C];exact k2,ho.iJ k3 (Z k3),k4⟩
  have a2:=(aj.1 Q).1;simp at a2;have:i=ps.length:=C;subst this;rw[aC jc]at Q;simp at Q;subst Q;refine⟨by rw[<-hx,aC jc];simp,a,c,by rw[<-hx,aC C];simp,ho.iJ hu (Z hu),hP⟩
 have hj:=(aj.1 V).1;simp at hj;by_cases a3:j<ps.length
 .rw[aB C]at h1 V;exact h.ap i j u u' b a1 h1 V D
 have:j=ps.length:=C;subst this;rw[aB C]at h1;rw[<-hx,aC C]at V;simp at V;subst V;exact a0 i u b h1 D
def Ms(a)(x)(n c)(w):(Instr.field 296 (.agg #[I a,dk x n c]) 1).run prog w=.ok (dk x n c) w:=rfl
def bz.andThen{S:Nat->Prop}{a b c:World}(h:bz S a b)(k:bz T b c)(F:∀n,n<a.heap.size->T n->S n):bz S a c:=
 ⟨k.os.H h.os,k.tape.H h.tape,k.output.H h.output,aF h.size k.size,λi j D=>(k.block i (af j h.size) λe=>D (F i j e)).H (h.block i j D)⟩
def pC(q:List Qz):List (Int×List Int):=q.map λz=>(z.cl,z.data)
section
variable{w:World}{q:List Qz}
def Q1(l:List Qv)(xs:List Value)(k:Nat):Prop:=xs.length=2*k/\∀i u,xs[2*i+1]?=some u->∃e,l[i]?=some e/\e.wU=u.ownBlock
theorem Iy:∀(l:List Qv) (k:Nat) (e:Qv),l[k]?=some e->(uP l)[2*k]?=some (I e.cl)/\(uP l)[2*k+1]?=some (I e.ln)
 |[],k,e,h=>lY h
 |x::l,0,e,h=>by simp at h;subst h;simp[uP]
 |x::l,k+1,e,h=>by have:=Iy l k e (iG h);have j:uP (x::l)=I x.cl::I x.ln::uP l:=rfl;rw[show 2*_=2*k+1+1 from by omega];simp_all
def ja{w:World}{B:Nat}{e:TypeId}(h:w.ownsRow B e k v n xs):∃a c,v=dk a n c:=by obtain⟨e,D⟩|⟨g,cap,j,e,_⟩:=h.2;all_goals simp_all
def DK(h:Qm w aY tn tb g gm clk iv ov l q){wr j:World}{F:Value}(V:bz (λb=>b=gm) w wr)(hm:wr.heap[gm]?=some (.map (kh []) clk))(Q:bz (λb=>ov.ownBlock=some b) wr j)(D:j.ownsRow 0 294 2 F 0 [])(hv:∀b,F.ownBlock=some b->ov.ownBlock=some b):Q0 (j.setCell (U g 2) F) (gN aY w.heap.size tb) tn tb g iv []/\bz (λb=>aY b=tn) w (j.setCell (U g 2) F):=by
 have Y:ov.ownBlock≠some g:=gJ h.gZ h.hp au;have Z:ov.ownBlock≠some gm:=nB ⟨_,_,h.mp⟩ h.gZ;have s1:=V.size;have s2:=Q.size;have a0:=(V.block g h.lg h.RO).H h.hp;have L:j.heap[g]?=some (gO [iv,.map (some gm),ov].toArray 127 (0,0)):=(Q.block g (gI h.lg) Y).H a0;have a1:=(Q.block gm (gI h.lm) Z).H hm;have o9:bz (λb=>b=g) j (j.setCell (U g 2) F):=(bz.refl (λb=>b=g) j).setCell (U g 2) (.inl rfl) _;refine⟨⟨gm,clk,F,[],iU 2 F j _ L,(fz _ _ _ _ h.lg).H h.tg,(o9.block gm (gI h.lm) λe=>h.RO e.symm).H a1,(fz _ _ _ _ h.lm).H h.tm,?_,λb hb=>?_,rfl,λi e z he=>lY he,List.Pairwise.nil,List.Pairwise.nil⟩,?_⟩
 .exact o9.iJ D λb hb e=>gJ D L au (j4 hb e)
 .have:=hv b hb;rw[fz _ _ _ _ (h.gZ.lt b this).2];exact h.tw b this
 refine((V.L λb _ e=>?_).H (Q.L λb _ e=>?_)).H (o9.L λb _ e=>?_)
 .rw[e];exact h.tm
 .exact h.tw b e
 rw[e];exact h.tg
theorem Lb(h:Qm w aY tn tb g gm clk iv ov [] []):ib 208 #[.pointer (some (U g 1)),I 200] w λen w'=>∃v xs bp,en=gG v/\(∀b,b<w.heap.size->bp b=aY b)/\wF w' (λb=>bp b=tb) v (pC []) xs/\Q0 w' bp tn tb g iv []/\bz (λb=>aY b=tn) w w':=by
 have c2:w.cell? (U g 2)=some ov:=ax w g 2 _ 127 (0,0) h.hp;have L:=h.lg;have HE:Hid (∀Q V,bz (λb=>ov.ownBlock=some b) w Q->Q.ownsRow 0 294 2 V 0 []->(∀b,V.ownBlock=some b->ov.ownBlock=some b)->_):=λQ V a b c=>DK h (bz.refl _ w) h.mp a b c;obtain⟨HO,HP⟩:=fl h.gZ h.hp;have j:Hid (ov.ownBlock≠some g):=gJ h.gZ h.hp au;obtain⟨oa,F,Y,a1⟩:∃oa F,ov=dk oa 0 F/\F<=9223372036854775807:=by
  obtain⟨e,e'⟩|⟨g,cap,a2,e,_,_,_,hm,_⟩:=h.gZ.2
  .exact⟨_,_,e,C⟩
  exact⟨_,_,e,by unfold maxLen at hm;omega⟩
 subst Y;have HD:=fu (tO w 0 _ [] HO C);have a0:(F:Int)<=9223372036854775807:=C;clear h;go_enter func208,ntmps208;go_wp2;refine Z6 1 ?_;rw[ZZ];go_wp2_with(go_at_call 244;refine HD.L ?_;rintro en w2⟨v2,rfl,Z,h3,D⟩;obtain⟨va,vc,rfl⟩:=ja Z;have z2:=(D.cell L j).H c2;have f2:=aP w2 g 2 _ 127 ((D.block g L j).H HP);have a3:=af L D.size;have H2:=lZ D Z h3;clear Z h3 D);go_ret;obtain⟨k1,k2⟩:=HE _ _ H2.1 H2.2.1 H2.2.2;exact⟨_,[],_,rfl,λb hb=>fz _ _ _ _ hb,wF.nil _ _,k1,k2⟩
def QT{z:Qz}(D:l[k]?=some e)(F:e.v=.agg #[I z.nr,dk sa z.data.length sc])(H:Q1 l xs k):Q1 l (xs++[I c,dk sa z.data.length sc]) (k+1):=by
 obtain⟨L,Q⟩:=H;refine⟨gM,λi u j=>?_⟩;by_cases V:2*i+1<xs.length
 .rw[aB V]at j;exact Q i u j
 have Y:=(aj.1 j).1;simp at Y;have:i=k:=C;subst this;rw[aC C,L]at j;simp at j;exact⟨e,D,by unfold Qv.wU;rw[F,<-j];simp⟩
def KK(h:Qm w aY tn tb g gm clk iv ov l q)(L:tb≠tn){z:Qz}{Q:Option Addr}{V gg cp:Nat}{wr W' Y:World}(he:l[k]?=some e)(hz:q[k]?=some z)(hv:e.v=.agg #[I z.nr,dk sa z.data.length sc])(Z:w.ownsRow 0 5 1 (dk sa z.data.length sc) z.data.length (z.data.map B8))(a0:∀b,(dk sa z.data.length sc).ownBlock=some b->aY b=tb)(hO:bz (λb=>b=gm) w wr)(hB:Bl wr W)(hP:wF wr (λb=>gN aY w.heap.size tb b=tb) (dk Q k V) ((pC q).take k) xs)(hX:Q1 l xs k)(D:Y.ownsRow 0 179 2 (dk (G gg) (k+1) cp) (k+1) (xs++[I e.cl,dk sa z.data.length sc]))(a1:Bl W W')(hg:W'.grownBy Y (dk Q k V).ownBlock)(a2:(dk Q k V).ownBlock=some gg\/W.heap.size<=gg)(hk:k<q.length):wF (setBlock Y.drew gm (.map (kh (l.drop (k+1))) clk)) (λb=>gN aY w.heap.size tb b=tb) (dk (G gg) (k+1) cp) ((pC q).take (k+1)) (xs++[I e.cl,dk sa z.data.length sc]):=by
 have F:((pC q).take k).length=k:=by simp[pC];omega
 have a3:(pC q).take (k+1)=(pC q).take k++[(e.cl,z.data)]:=by rw[aM (by simpa [pC]using hk)];obtain⟨_,rfl⟩:=aj.1 hz;simp[pC,(h.key he hz).1]
 have H:e.wU=(dk sa z.data.length sc).ownBlock:=by unfold Qv.wU;rw[hv];simp
 rw[a3];have:=wF.push (tt:=e.cl) (ds:=z.data) (a:=sa) (c:=sc) (g:=gg) (cap:=cp) hP (hB.H a1) hg (jP F D) ?_ (hO.iJ Z λb j e=>nB ⟨_,_,h.mp⟩ Z (j4 j e)) (λb j=>by rw[fz _ _ _ _ (Z.lt b j).2];exact a0 b j) λi u b hu j e'=>?_
 .rw[F]at this;refine(this.bl jo.drew).only (jT _ _ _) λb _ j e'=>?_;rw[e',fz _ _ _ _ h.lm,h.tm]at j;exact L j.symm
 .obtain h1|h1:=a2
  .exact hP.ob gg h1
  exact ig _ _ _ _ (by have:=hO.size;have:=hB.lt;omega)
 obtain⟨x,a4,a5⟩:=hX.2 i u hu;have hi:=(aj.1 hu).1;have a6:=hX.1;obtain⟨l1,rfl⟩:=aj.1 a4;obtain⟨l2,rfl⟩:=aj.1 he;exact(dE.1 h.ap i k l1 l2 C) b (a5.H j) (H.H e')
theorem Lj(h:Qm w aY tn tb g gm clk iv ov l q)(hq:q.length<=200)(bw:0<q.length)(a0:tb≠tn):ib 208 #[.pointer (some (U g 1)),I 200] w λen w'=>∃v xs bp,en=gG v/\(∀b,b<w.heap.size->bp b=aY b)/\wF w' (λb=>bp b=tb) v (pC q) xs/\Q0 w' bp tn tb g iv []/\bz (λb=>aY b=tn) w w':=by
 obtain⟨c1,c2⟩:=rO h.hp 1 2 rfl;have lg:=h.lg;have lm:=h.lm;have j:=fu h.len;obtain⟨og,cap,rfl,bA,bB⟩:∃og cap,ov=dk (G og) l.length cap/\l.length<=cap/\cap<=9223372036854775807:=by
  obtain⟨e,e'⟩|⟨g,cap,bC,e,_,_,hc,hm,_⟩:=h.gZ.2
  .have:=j.o;omega
  exact⟨_,_,e,hc,by unfold maxLen at hm;omega⟩
 have lo:og<w.heap.size:=(h.gZ.lt og rfl).2;have b6:og≠g:=λe=>gJ h.gZ h.hp au (by rw[e];rfl);have a7:og≠gm:=λe=>nB ⟨_,_,h.mp⟩ h.gZ (by rw[e];rfl);have a5:Hid (∀k e,l[k]?=some e->w.cell? (U og (k*2))=some (I e.cl)/\w.cell? (U og (k*2+1))=some (I e.ln)):=λk e he=>by have hk:=(aj.1 he).1;obtain⟨k1,k2⟩:=Iy l k e he;have hx:(uP l).length=l.length*2:=h.gZ.1;rw[cN k 2];exact⟨(h.gZ.cellAt _ C).H k1,(h.gZ.cellAt _ C).H k2⟩
 obtain⟨HQ,HM⟩:=fl h h.mp;have b7:(l.length:Int)<=200:=gI j.o;have bD:(0:Int)<(l.length:Int):=gI j.o;have bo:(l.length:Int)<=(cap:Int):=C;have bq:(cap:Int)<=9223372036854775807:=C;have bE:¬cap=0:=C;have bs:min (l.length:Int) 200=l.length:=C;obtain⟨ag,ai,t0,t1,t2⟩:=fx Tryz.CE;clear h;go_enter func208,ntmps208;go_wp2;go_loopw[6,23](λd i wr=>∃k:Nat,k<=l.length/\i=I k/\Hid (bz (λb=>b=gm) w wr)/\Hid (wr.heap[gm]?=some (.map (kh (l.drop k)) clk))/\∃xs,Hid (wF wr (λb=>gN aY w.heap.size tb b=tb) d ((pC q).take k) xs)/\Hid (Q1 l xs k)/\Hid (∀b,d.ownBlock=some b->w.heap.size<=b)) λ_ i _=>l.length-(Go.RowKit.intOf i).toNat
 case atStart=>exact⟨0,jd,rfl,sQ,HM,[],wF.nil _ _,⟨rfl,λi u hu=>lY hu⟩,λb Q=>mX Q⟩
 obtain⟨k,hk,rfl,Z,Hm,xs,HP,HX,HN⟩:=hrel;have d1:=(Z.cell lg HQ.RO).H c1;have d2:=(Z.cell lg HQ.RO).H c2;have a1:=af lg Z.size;have bR:=af lo Z.size;have al:=af lm Z.size;by_cases iV:k<l.length
 .have bv:(k:Int)<(l.length:Int):=C;obtain⟨e,he⟩:=m9 iV;obtain⟨z,hz⟩:∃z,q[k]?=some z:=⟨_,ah (qO j.o iV)⟩;obtain⟨x0,x1⟩:=a5 k e he;have x0:=(Z.cell lo a7).H x0;have x1:=(Z.cell lo a7).H x1;obtain⟨e1,e2,sa,sc,e3,e4,e5⟩:=HQ.vs k e z he hz;have a8:l.drop k=e::l.drop (k+1):=by obtain⟨hi,rfl⟩:=aj.1 he;rw[fX]
  obtain⟨Hz,He,bT⟩:=gV hz he a8;obtain⟨HE,bV,am⟩:=gV (And.intro e4 e5) e1 e3;obtain⟨ua,uc,a2⟩:=ja HP.gZ;have V:((pC q).take k).length=k:=by simp[pC];have:=j.o;omega
  have HT:=fu V;rw[V]at a2;subst a2;have a9:=fu HP.gZ;rw[V]at a9;have b8:Hid (k+1<=maxLen):=mQ;have b9:Hid ((k+1)*32<=140737488355328):=lQ;obtain⟨W,hW⟩:=dS (wr.alloc (gO #[I e.cl,I e.ln] 294));have bW:Bl wr W:=by rw[<-hW];exact jo.alloc _
  obtain⟨y0,y1,ly⟩:=N8 (show W.heap[wr.heap.size]?=some (gO #[I e.cl,I e.ln] 294 (0,0)) by rw[<-hW];exact ao wr _);obtain⟨f1,f2⟩:=bW.E a1 d1 d2;have aa:=af a1 bW.lt;have a6:=(bW.heap al).H Hm;rw[a8]at a6;have an:(Instr.lookup 120 (.map (some gm)) (ak e.cl e.ln) false).run prog W.drew=.ok e.v W.drew:=rA (w:=W.drew) (l1:=[]) a6 aq rfl rfl false;rw[e3]at an;have bb:=Ms z.nr sa z.data.length sc;obtain⟨bc,HW,HB⟩:=gV a6 hW bW;have ap:Hid ((dk ua k uc).ownBlock≠some g):=λe=>by have h1:=HP.ob g e;rw[fz _ _ _ _ lg,HQ.tg]at h1;exact a0 h1.symm
  clear he hz a8 e1 e2 e3 e4 e5 V bW hW a6 d1 d2;go_upto_region 6 with fail;rw[HW.o];clear HW;go_cut[6] λd wx=>∃gg cp,d=dk (G gg) (k+1) cp/\Hid (wx.ownsRow 0 179 2 (dk (G gg) (k+1) cp) (k+1) (xs++[I e.cl,dk sa z.data.length sc]))/\Hid (∃W',Bl W W'/\W'.grownBy wx (dk ua k uc).ownBlock)/\Hid ((dk ua k uc).ownBlock=some gg\/W.heap.size<=gg)
  case first=>
   go_region_law
    ((refine step_append_lies _ jz _ _ _ jz 0 179 ag _ 2 32 underlying176 ai t0 t1 t2 rfl C _ k xs jz (((iD HB).iJ a9 λ_ _ e=>e).alloc _).drew (U W.heap.size 0) 1 1 [I e.cl,dk sa z.data.length sc] jz jz (fW (cs:=#[I e.cl,dk sa z.data.length sc]) (t:=179) (fr:=(0,0)) (ao W _)) qR C b8 b9 aq (W.heap.size+1) aq ?_;intro gg cp w6 F D Y a3;have bd:=ow F D Y a3;clear F D Y a3))
   all_goals(go_wp2_with fail;go_meet)
   all_goals
    obtain⟨F,D,Y,a3⟩:=bd.o;exact⟨gg,cp,rfl,F,⟨_,(jo.alloc _).drew,D⟩,Y.imp (λe=>e) λe=>C⟩
  case rest=>
   obtain⟨gg,cp,rfl,be,bg,ar⟩:=hcut;obtain⟨w6,rfl⟩:∃w6,w6=wc:=⟨_,rfl⟩;obtain⟨W',ab,ac⟩:=bg.o;have o6:bz (λb=>(dk ua k uc).ownBlock=some b) W w6:=(bz.E ab).H ((bz.B ac).L λx _ e=>e.symm);have nb:∀b,wr.heap.size<=b->(dk ua k uc).ownBlock≠some b:=λb Q e=>by have:=(a9.lt b e).2;omega
   have av:(dk ua k uc).ownBlock≠some gm:=λe=>by have h1:=HP.ob gm e;rw[fz _ _ _ _ lm,HQ.tm]at h1;exact a0 h1.symm
   have v0:=(o6.cell ly (nb _ jc)).H y0;have v1:=(o6.cell ly (nb _ jc)).H y1;have vd:=(o6.cell aa ap).H f1;have vf:=(o6.cell aa ap).H f2;have bi:=af al HB.lt;have ad:=(o6.block gm bi av).H bc;have bX:=af aa o6.size;have c0:=af ly o6.size;have c3:=λty=>DZ (w:=w6.drew) ty ad;obtain⟨bl,H6,aw⟩:=gV ad o6 (And.intro ab ac);clear ad o6 nb av ab ac y0 y1 f1 f2 an bb;go_upto_region 7 with fail;go_region;all_goals
    go_wp2;refine⟨⟨k+1,C,gX,?_,ni (w:=w6.drew) (ae.1 bl).1 _,_,KK HQ a0 He Hz am HE.1 HE.2 Z HB HP HX be aw.1 aw.2 ar (by rwa[j.o]at iV),QT He am HX,λb Q=>?_⟩,gW⟩
    .exact((Z.H (bz.E HB)).andThen H6 λb Q e=>by have:=HN b e;omega).H ((bz.E (Bl.refl w6).drew).H (jT _ _ _))
    obtain h1|h1:=ar.o
    .simp[Value.ownBlock]at Q;rw[<-Q];exact HN gg h1
    simp[Value.ownBlock]at Q;rw[<-Q];have:=Z.size;have:=HB.lt;omega
 have b0:k=l.length:=C;have c4:¬((k:Int)<(l.length:Int)):=C;have a4:=Z.iJ HQ.gZ λb Q e=>a7 (by simp[Value.ownBlock]at Q;omega);have HD:=fu (tO wr l.length _ _ a4 C);have b1:Hid ((dk (some ((U og 0):Addr)) l.length cap).ownBlock≠some g):=λe=>by simp[Value.ownBlock]at e;exact b6 e
 have b2:=(Z.block g lg HQ.RO).H HQ.hp;obtain⟨bn,b3⟩:=fl b2 b0;obtain⟨ua,uc,a2⟩:=ja HP.gZ;have V:((pC q).take k).length=k:=by simp[pC];have:=j.o;omega
 rw[V]at a2;subst a2;clear a4 b2 b0 V;go_wp2_with(go_at_call 244;refine HD.L ?_;rintro en w2⟨v2,rfl,h2,h3,h4⟩;obtain⟨va,vc,rfl⟩:=ja h2;have z2:=(h4.cell a1 b1).H d2;have f2:=aP w2 g 2 _ 127 ((h4.block g a1 b1).H bn);have c5:=af a1 h4.size;have H2:=lZ h4 h2 h3;clear h2 h3 h4);go_ret;have b4:=Hm.o;rw[b3.o,eQ]at b4;obtain⟨k1,k2⟩:=DK HQ Z b4 H2.1 H2.2.1 H2.2.2;refine⟨_,xs,_,rfl,λb Q=>fz _ _ _ _ Q,?_,k1,k2⟩;have b5:=HP.o;rw[bI (by simp[pC];have:=j.o;have:=b3.o;omega)]at b5;refine(b5.only H2.1 λb _ Q e=>?_).only ((bz.refl (λb=>b=g) w2).setCell (U g 2) (.inl rfl) _) λb _ Q e=>?_
 .simp[Value.ownBlock]at e;rw[<-e,fz _ _ _ _ lo,HQ.tw og rfl]at Q;exact a0 Q.symm
 rw[e,fz _ _ _ _ lg,HQ.tg]at Q;exact a0 Q.symm
def Ou(h:Qm w aY tn tb g gm clk iv ov l q)(D:q.length<=200)(j:tb≠tn):ib 208 #[.pointer (some (U g 1)),I 200] w λF w'=>∃v xs bp,F=gG v/\(∀b,b<w.heap.size->bp b=aY b)/\wF w' (λb=>bp b=tb) v (pC q) xs/\Q0 w' bp tn tb g iv []/\bz (λb=>aY b=tn) w w':=by
 by_cases H:0<q.length
 .exact Lj h D H j
 have e:q=[]:=aW.1 C;subst e;have e:l=[]:=aW.1 (by rw[h.len];rfl);subst e;exact Lb h
end
structure Rq where
 kd:Int
 ln:Int
 nr:Int
 ep:Int
 pl:Int
 ct:Ct
inductive Pn
 |unit (ch:Int) (rs:List Rc) (S:Nat->St)
 |voter (rs:List Rc) (S:Nat->Int->Ep)
def Pn.iT:Pn->List Int
 | .unit _ rs _=>gY rs
 | .voter rs _=>gY rs
def Pn.B:Pn->List Rc
 | .unit _ rs _=>rs
 | .voter rs _=>rs
def Pn.step(a b c d:Int)(r:Rq)(ds:List Int):Pn->Pn->Prop
 | .unit ch rs S,.unit ch' rs' S'=>ch'=ch/\pF rs S rs' S'/\S' rs'.length=(uM a b c d ch (S rs.length) r.kd r.ep r.pl r.ct.kd r.ct.cl r.ct.ca r.ct.val).2/\(gY rs').length<=(gY rs).length+60/\
  ds=(λA:An=>iB 101 [r.nr,A.wh,A.ep,A.mark,A.ct.kd,A.ct.cl,A.ct.ca] A.ct.val) (uM a b c d ch (S rs.length) r.kd r.ep r.pl r.ct.kd r.ct.cl r.ct.ca r.ct.val).1
 | .voter rs S,.voter rs' S'=>tS rs S rs' S'/\S' rs'.length=(nV (S rs.length) r.kd r.ep r.pl r.ct.val).2/\(gY rs').length<=(gY rs).length+300/\
  ds=(λA:Vo=>iB 102 [r.nr,oG rs',A.wh,A.pr,A.ba] A.val) (nV (S rs.length) r.kd r.ep r.pl r.ct.val).1
 |_,_=>False
def mm(w:World)(aY:Nat->Nat)(tg:Nat)(a b c d:Int)(iv:Value):Pn->Prop
 | .unit ch rs S=>∃p,iv=.iface 233 (.agg #[O p])/\Kt w aY tg p a b c d ch rs S
 | .voter rs S=>∃p,iv=.iface 238 (.agg #[O p])/\Vt w aY tg p rs S
def Nd(w:World)(aY:Nat->Nat)(tg tn tb g:Nat)(a b c d:Int)(N:Pn)(q:List Qz):Prop:=∃iv,mm w aY tg a b c d iv N/\Q0 w aY tn tb g iv q
section
variable{w:World}{b:Int}{N:Pn}{q:List Qz}
theorem mm.only(h:mm w aY tg a b c d iv N)(j:bz T w w')(D:∀b,b<w.heap.size->T b->aY b≠tg)(F:∀b,b<w.heap.size->bp b=aY b):mm w' bp tg a b c d iv N:=by
 cases N with
 |unit ch rs S=>obtain⟨p,e,h⟩:=h;exact⟨p,e,h.only j D F⟩
 |voter rs S=>obtain⟨p,e,h⟩:=h;exact⟨p,e,h.only j D F⟩
def Q0.only(h:Q0 w aY tn tb g iv q)(j:bz T w w')(D:∀b,b<w.heap.size->T b->aY b≠tn/\aY b≠tb)(F:∀b,b<w.heap.size->bp b=aY b):Q0 w' bp tn tb g iv q:=by obtain⟨gm,clk,ov,l,h⟩:=h;exact⟨gm,clk,ov,l,h.only j D F⟩
def Nd.only(h:Nd w aY tg tn tb g a b c d N q)(D:bz T w w')(F:∀b,b<w.heap.size->T b->aY b≠tg/\aY b≠tn/\aY b≠tb)(H:∀b,b<w.heap.size->bp b=aY b):Nd w' bp tg tn tb g a b c d N q:=by obtain⟨iv,L,Q⟩:=h;exact⟨iv,L.only D (λb j e=>(F b j e).1) H,Q.only D (λb j e=>(F b j e).2) H⟩
def Nd.bl(h:Nd w aY tg tn tb g a b c d N q)(j:Bl w w')(D:∀b,b<w.heap.size->bp b=aY b):Nd w' bp tg tn tb g a b c d N q:=h.only (iD j) (λ_ _ e=>e.elim) D
def Nd.lt(h:Nd w aY tg tn tb g a b c d N q):g<w.heap.size/\aY g=tn:=by obtain⟨iv,_,gm,clk,ov,l,h⟩:=h;exact⟨h.lg,h.tg⟩
end
structure Pj(r:Rq)(N:Pn):Prop where
 ln:0<=r.ln/\r.ln<10
 kd:match N with
  | .unit _ _ _=>(r.kd=1\/r.kd=2\/r.kd=3\/r.kd=4)/\(r.kd=2->qd r.ct.kd r.ct.val.length=true)
  | .voter _ _=>r.kd=5\/r.kd=6\/r.kd=7
 ok:Rc.Ok m8 ⟨r.kd,[r.ln,r.nr,r.ep,r.pl,r.ct.kd,r.ct.cl,r.ct.ca],r.ct.val⟩
 a:mA r.ct.val
def Lz{b ch:Int}{S:Nat->St}(h:zO a b c d ch rs S)(x):(tN a b c d ch (S rs.length) x).ct.val.length<=255:=by
 unfold tN jQ;split
 .simp
 rename_i j;split
 .simp
 split
 .simp
 have D:(n9 a b c d x).2.2=0:=by omega
 obtain⟨i,F,e⟩:=uL D;have H:(n9 a b c d x).2.1.toNat=i:=nI e;rw[H];exact (h.vU rs.length jc) i F
def LR{b ch:Int}{S:Nat->St}(h:zO a b c d ch rs S)(kd e x ck cl ca)(ys):(uM a b c d ch (S rs.length) kd e x ck cl ca ys).1.ct.val.length<=255:=by
 have j:=Lz h;unfold uM;split
 .unfold tM;split<;>simp[an]
 split
 .unfold r9;split
  .simp[an]
  split
  .simp[an]
  split<;>first|exact j x|(simp[an];done)
 split
 .unfold xq;split
  .simp[an]
  exact j x
 unfold tK;split<;>simp[an]
def Mr(h:oS rs S)(kd e b)(ys):(nV (S rs.length) kd e b ys).1.val.length<=255:=by
 have j:=(h.vU rs.length jc e).1;unfold nV;split
 .split
  .simp
  omega
 split
 .split<;>simp
 exact j
end Go.Proofs.YtbghhbpacijmmaaGreat
