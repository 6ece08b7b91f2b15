import Derived.Test.YtbghhbpacijmmaaGreatL07
open Go.Proofs.Tryz
namespace Go.Proofs.YtbghhbpacijmmaaGreat
set_option maxRecDepth 99999
set_option maxHeartbeats 0
set_option linter.defProp false
open Go.RowKit Go.Maps Go.Shelf
open Go.ChangeMaps (setBlock)
attribute [local go_sem ↓] Go.wp_at_zero Go.wp_at_succ
variable {aY bp qb:Nat->Nat} {zz:List (Int×Vo)} {t p b gm n j N g r:Nat} {w' w1:World} {l:List Ae} {c c':jf} {X X' Y Z:Cx} {V V':CV} {cv cv':j7} {M:Int->Int} {v:Value} {R:List (List Int)} {sn:Array Nat} {P:Ae->Bool} {e:Ae} {u:Int} {vs:List Int} {cs:List Value} {S:Nat->Prop}
def Pu{w:World}{bm clk:Nat}{l1 l2:List Ae}(ty)(i:w.heap[bm]?=some (.map (gR (l1++e::l2)) clk))(y:∀x∈l1,x.k≠e.k)(d:∀x∈l2,x.k≠e.k):(Builtin.delete_ #[104,3] ty #[.map (some bm),I e.k]).run prog w=.ok (.tuple #[]) (setBlock w bm (.map (gR (l1++l2)) clk)):=by
 have A:=fa (w:=w) underlying3 (R9 y d);have D:=eW (P:=prog) (w:=w) (k:= I e.k) underlying3 sj (gR (l1++e::l2)).isEmpty 9999;simp[Builtin.delete_,Sem.run_bind,Result.andThen,aI i,D,A,Z7 _ i,setBlock,Ox]
def tI(l:List Ae)(sn:Array Nat)(P:Ae->Bool):List Ae:=l.filter λe=> !(sn.contains e.bo&&P e)
def G0(l)(P):tI l #[] P=l:=by unfold tI;simp
theorem Tc(d:(l.map (·.bo)).Nodup){x y:Ae}(i:x∈l)(A:y∈l)(h:x.bo=y.bo):x=y:=by
 induction l with
 |nil=>simp at i
 |cons z l D=>
  rw[bj,bY]at d;obtain rfl|hx':=bh.1 i<;>obtain rfl|hy':=bh.1 A
  .rfl
  .exact absurd (aD.2 ⟨y,hy',h.symm⟩) d.1
  all_goals simp_all
def KJ(i:(l.map (·.bo)).Nodup)(y:e∈l)(A:P e=false):tI l (sn.push e.bo) P=tI l sn P:=by
 refine dH λx D=>?_;by_cases d:x.bo=e.bo
 .rw[Tc i D y d,A];simp
 simp[d]
def JN(d:(l.map (·.bo)).Nodup)(i:e∈l)(y:P e=true)(A:e.bo∉sn):∃l1 l2,tI l sn P=l1++e::l2/\tI l (sn.push e.bo) P=l1++l2:=by
 obtain⟨a,b,rfl⟩:=fe i;refine⟨tI a sn P,tI b sn P,?_,?_⟩
 .unfold tI;rw[cz,cT,aE (mY A)]
 unfold tI;rw[cz,cT,az (mY y)];rw[aZ,bj,cX,bY]at d;congr 1<;>refine dH λx D=>?_
 .simp_all
 simp_all
def L6(h:∀e∈tI l sn P,e.bo∈sn):tI l sn P=l.filter λe=> !P e:=by
 refine dH λx i=>?_;by_cases d:x.bo∈sn
 .simp[d]
 exact absurd (h x (aU.2 ⟨i,mY d⟩)) d
def I7(l:List Ae)(sn:Array Nat):Nat:=(l.filter λe=> !sn.contains e.bo).length
def yp(d:e∈l)(i:e.bo∉sn):I7 l (sn.push e.bo)<I7 l sn:=by
 unfold I7;have y:l.filter (λx=> !(sn.push e.bo).contains x.bo)=(l.filter λx=> !sn.contains x.bo).filter λx=>x.bo !=e.bo:=by rw[List.filter_filter];refine dH λx _=>?_;by_cases A:x.bo=e.bo;all_goals simp[A]
 rw[y];have D:e∈l.filter λx=> !sn.contains x.bo:=aU.2 ⟨d,mY i⟩;have:=List.length_filter_lt_length_iff_exists (p:=λx:Ae=>x.bo !=e.bo) (l:=l.filter λx=> !sn.contains x.bo);exact this.2 ⟨e,D,aq⟩
section
variable{P:Program}(w:World){ops:Array Oper}{rest:List Oper}{o:Oper}{a:Act}{Q:Exit->Act->World->Prop}
def Am(hg:o.guard=none)(it)(A:o.op=Op.next it false)(r gm clk)(l)(sn)(D:a.eval it= O r)(hi:w.heap[r]?=some (.mapIter (some gm) clk sn clk))(hm:w.heap[gm]?=some (.map (gR l) clk))(a0:r≠gm)(a1:∀e∈l,e.bo<clk)(a2:(l.map (·.bo)).Nodup)(i:(∀e∈l,e.bo∈sn)->wpList P ops Q rest (a.put o.dst (.tuple #[.bool false])) w)(y:∀(e:Ae) (W:World),e∈l->e.bo∉sn->W.heap[r]?=some (.mapIter (some gm) clk (sn.push e.bo) clk)->bz (λb=>b=r) w W->(Instr.entry (O r)).run P W=.ok (.tuple #[I e.k,e.v]) W->
 wpList P ops Q rest (a.put o.dst (.tuple #[.bool true,I e.k,e.v])) W):wpList P ops Q (o::rest) a w:=by
 refine wpList_plain hg λK' F=>?_;unfold Oper.wp;have e1:(gR l).toList=l.map Ae.B:=by simp[gR]
 have a3:∀x∈(gR l).toList,x.born<clk:=λx hx=>by obtain⟨e,L,rfl⟩:=kZ hx;exact a1 e L
 have a4:((gR l).toList.map (·.born)).Nodup:=by rw[e1,br];exact a2
 obtain⟨h0,d⟩|⟨x,L,w1,hw,d⟩:=run_next_at (P:=P) w o.type r gm clk clk sn (gR l) clk hi hm a3 jc
 .simp[execOp,A,D,d,Result.andThen];refine F _ _ (i λe L=>?_);have h1:(gR l).filter (λx=> !sn.contains x.born)=#[]:=gf.1 h0;have h2:=fP.1 h1 e.B (by rw[<-Array.mem_toList_iff,e1];exact aD.2 ⟨e,L,rfl⟩);simpa [Ae.B]using h2
 simp[execOp,A,D,d,Result.andThen];obtain⟨T,a5⟩:=mem_left L;obtain⟨e,a6,rfl⟩:=kZ T;have iV:r<w.heap.size:=(ae.1 hi).1;have hh:w1.heap=w.heap:=by obtain rfl|rfl:=hw<;>rfl
 have hI:(setBlock w1 r (.mapIter (some gm) clk (sn.push e.bo) clk)).heap[r]?=some (.mapIter (some gm) clk (sn.push e.bo) clk):=by simp[setBlock,hh,iV]
 have hM:(setBlock w1 r (.mapIter (some gm) clk (sn.push e.bo) clk)).heap[gm]?=some (.map (gR l) clk):=by simp[setBlock,hh,a0,hm]
 refine F _ _ (y e _ a6 (by simpa [Ae.B]using a5) hI ?_ (run_entry_at _ r gm clk _ (gR l) clk e.B hI hM T a4));obtain rfl|rfl:=hw
 .exact oC _ _ _
 exact(bz.E (jo.drew)).H (oC _ _ _)
end
theorem No(w)(g:Nat)(caps)(eg:∀T w,(callFunc g T).run prog w=.ok (.enter g T) w)(gm clk)(l0)(hm:w.heap[gm]?=some (.map (gR l0) clk))(a1:∀e∈l0,e.bo<clk)(a2:(l0.map (·.bo)).Nodup)(ab:(l0.map (·.k)).Nodup)(hv:∀e∈l0,∃(x0 x1 x2:Int) (va:Option Addr) (vn vc:Nat),e.v=.agg #[I x0,I x1,I x2,dk va vn vc])(P:Ae->Bool)(L:∀W e,e∈l0->bz (λb=>b=gm) w W->ib g (#[I e.k,e.v]++caps) W λen w'=>en=gG (.bool (P e))/\Bl W w'):ib 294 #[.map (some gm),.func (.func g) #[] caps] w λen w'=>en=gS/\w'.heap[gm]?=some (.map (gR (l0.filter λe=> !P e)) clk)/\bz (λb=>b=gm) w w':=by
 have HD:Aside _:=L;obtain⟨HM,am,a3⟩:=gV hm a1 a2;obtain⟨an,Hv⟩:=fl ab hv;have lm:=(ae.1 hm).1;have i:Hid (∀x∈(gR l0).toList,x.born<clk):=λx hx=>by obtain⟨e,he,rfl⟩:=kZ hx;exact a1 e he
 have ap:Hid (((gR l0).toList.map (·.born)).Nodup):=by
  have e1:(gR l0).toList=l0.map Ae.B:=by simp[gR]
  unfold Hid;rw[e1,br];exact a2
 clear L hm a1 a2 ab hv;go_enter func294,ntmps294;go_wp2_with(at_range;refine jS _ rfl _ 104 rfl 3 222 underlying104 gm (gR l0) clk rfl HM i ap ?_;intro hI;have HI:=fu hI;clear hI);go_frame;go_loopw[8](λ_ wr=>∃sn:Array Nat,Hid (wr.heap[w.heap.size]?=some (.mapIter (some gm) clk sn clk))/\Hid (wr.heap[gm]?=some (.map (gR (tI l0 sn P)) clk))/\Hid (bz (λb=>b=gm) w wr)) λ_ wr=>I7 l0 (wr.iterSeen w.heap.size)
 case atStart=>exact⟨#[],HI.it,by rw[G0];exact HI.mp,bz.E (jo.alloc _)⟩
 obtain⟨sn,Hi,Hm,HO⟩:=hrel;have a0:Hid (∀e∈tI l0 sn P,e∈l0):=λe he=>(aU.1 he).1;have av:w.heap.size<wr.heap.size:=(ae.1 Hi).1;go_wp2_with(at_next;refine Am _ rfl _ rfl w.heap.size gm clk (tI l0 sn P) sn rfl Hi Hm C (λe he=>am.o e (a0 e he)) (a3.sublist (List.filter_sublist.map _)) ?_ ?_)
 .intro ac;have hE:=L6 ac;go_wp2;go_end0;exact⟨rfl,qO hE Hm,HO⟩
 intro e W he ad a4 hO ar;have a5:=a0 e he;obtain⟨x0,x1,x2,va,vn,vc,hx⟩:=Hv e a5;have a6:Hid (bz (λb=>b=gm) w W):=HO.wu hO λb hb=>C;have A:Hid (W.heap[gm]?=some (.map (gR (tI l0 sn P)) clk)):=(hO.block gm (gI HO.size) C).H Hm;obtain⟨a7,D,a8⟩:=gV a4 a5 ad;rw[hx]at ar|-;have bA:=(Bl.refl W).alloc (gO #[I x0,I x1,I x2,dk va vn vc] 222);have hc:=HD (W.alloc (gO #[I x0,I x1,I x2,dk va vn vc] 222)) e a5 (a6.H (bz.E bA));rw[hx]at hc;have F:w.heap.size<W.heap.size:=(ae.1 a4).1;have a9:gm<W.heap.size:=(ae.1 A).1;clear hO a4 he ad
 cases hp:P e<;>rw[hp]at hc
 .have Hc:=fu hc;clear hc;go_wp2_with(first|(go_at_fn g;refine gF Hc λw2 i=>?_;have d:=fu (bA.H i);clear i)|go_in);go_roundw
  case rel=>exact⟨sn.push e.bo,(d.heap F).H a7,by rw[KJ a3.o D.o hp];exact(d.heap a9).H A,a6.H (bz.E d)⟩
  have e1:w2.iterSeen w.heap.size=sn.push e.bo:=by unfold World.iterSeen;rw[(d.heap F).H a7.o]
  have e2:wr.iterSeen w.heap.size=sn:=by unfold World.iterSeen;rw[Hi.o]
  rw[e1,e2];exact yp D a8
 obtain⟨l1,l2,h1,h2⟩:=JN (sn:=sn) a3 D hp a8;obtain⟨Hc,H2⟩:=fl hc h2;have y:Hid (((l1++e::l2).map (·.k)).Nodup):=by unfold Hid;rw[<-h1];exact an.sublist (List.filter_sublist.map _)
 have ag:Hid ((∀x∈l1,x.k≠e.k)/\∀x∈l2,x.k≠e.k):=by have y:=y.o;rw[aZ,bj,cX,bY]at y;exact⟨λx hx=>y.2.2 _ (aD.2 ⟨x,hx,rfl⟩) _ aN,λx hx h=>y.2.1.1 (aD.2 ⟨x,hx,h⟩)⟩
 rw[h1]at A;clear hc h1 h2;go_wp2_with(first|(go_at_fn g;refine gF Hc λw2 i=>?_;have aa:=bA.H i;have aw:=λty=>Pu (e:=e) ty ((aa.heap a9).H A) ag.1 ag.2;have d:=fu aa;clear i aa)|go_in);have O3:bz (λb=>b=gm) w2 (setBlock w2 gm (.map (gR (l1++l2)) clk)):=jT _ _ _;have ai:=af F d.lt;have ak:=af a9 d.lt;have al:(setBlock w2 gm (.map (gR (l1++l2)) clk)).heap[w.heap.size]?=some (.mapIter (some gm) clk (sn.push e.bo) clk):=(O3.block _ ai C).H ((d.heap F).H a7);go_roundw
 case rel=>exact⟨sn.push e.bo,al,by rw[H2.o];exact ni ak _,(a6.H (bz.E d)).H O3⟩
 have e1:(setBlock w2 gm (.map (gR (l1++l2)) clk)).iterSeen w.heap.size=sn.push e.bo:=by unfold World.iterSeen;rw[al]
 have e2:wr.iterSeen w.heap.size=sn:=by unfold World.iterSeen;rw[Hi.o]
 rw[e1,e2];exact yp D a8
def rz(b)(es)(clk)(w)(d:w.heap[b]?=some (.map es clk)):ib 293 #[.map (some b)] w λe w'=>e=gG (.map (some w.heap.size))/\w'=w.alloc (.map es clk):=AnyW.maps_Clone Tryz.Md b es clk w d
def uv(w):ib 293 #[.map none] w λe w'=>e=gG (.map none)/\w'=w:=AnyW.maps_Clone_nil Tryz.Md w
def yK(fv)(w):Calls prog 294 #[.map none,fv] w λe w'=>e=gS/\Bl w w':=by have i:=run_range_nilMap (P:=prog) w 104 _ _ underlying104;have y:∀d,(Instr.next _ false d).run prog _=_:=λd=>run_next_nilMap (P:=prog) w d 0 0 #[];go_wp2;refine Z6 1 ?_;rw[ZZ];go_wp2;go_end0;exact⟨rfl,jo.alloc _⟩
theorem DJ(h:l.length=zz.length)(P)(Q)(A:∀(i:Nat) e z,l[i]?=some e->zz[i]?=some z->P e=Q z)(R:Ae->Int×Vo->Prop)(F:∀(i:Nat) e z,l[i]?=some e->zz[i]?=some z->R e z):(l.filter P).length=(zz.filter Q).length/\∀(i:Nat) e z,(l.filter P)[i]?=some e->(zz.filter Q)[i]?=some z->R e z:=by
 induction l generalizing zz with
 |nil=>
  cases zz with
  |nil=>exact⟨rfl,λi e z T=>lY T⟩
  |cons z zz=>simp at h
 |cons x l W=>
  cases zz with
  |nil=>simp at h
  |cons z zz=>
   obtain⟨H,L⟩:=W (zz:=zz) (iG h) (λi e D d y=>A (i+1) e D (iG d) (iG y)) λi e D d y=>F (i+1) e D (iG d) (iG y);have e0:=A 0 x z rfl rfl;have r0:=F 0 x z rfl rfl;rw[cT,cT,e0]
   cases Q z
   .exact⟨H,L⟩
   refine⟨mY H,λi e D d y=>?_⟩
   cases i with
   |zero=>simp at d y;subst d;subst y;exact r0
   |succ i=>exact L i e D (iG d) (iG y)
def Mm.filter{w:World}{d clk:Nat}(h:Mm w gm clk l zz (nA.ev w aY t))(A:Bl w w')(P)(Q)(y:∀(i:Nat) e z,l[i]?=some e->zz[i]?=some z->P e=Q z)(D:w'.heap[d]?=some (.map (gR (l.filter P)) clk)):Mm w' d clk (l.filter P) (zz.filter Q) (nA.ev w' aY t):=by obtain⟨F,H⟩:=DJ h.len P Q y _ (h.bl A).f;exact⟨D,F,H,λe L=>h.bo e (aU.1 L).1,h.nd.sublist (List.filter_sublist.map _),h.ky.sublist (List.filter_sublist.map _)⟩
def Mm.Tq{w:World}{clk:Nat}(h:Mm w gm clk l zz (nA.ev w aY t)):∀e∈l,∃(d y A:Int) (D:Option Addr) (F H:Nat),e.v=.agg #[I d,I y,I A,dk D F H]:=λe L=>by obtain⟨i,Q,rfl⟩:=aV.1 L;have W:=h.len;obtain⟨_,s,h3,T⟩:=h.f i l[i] zz[i] (ah Q) (ah C);obtain⟨a,c,rfl⟩:=T.E;simp_all
def Mm.SK{w:World}{clk:Nat}(h:Mm w gm clk l zz (nA.ev w aY t)):(l.map (·.k)).Nodup:=by
 have:l.map (·.k)=zz.map (·.1):=by
  refine bJ λi=>?_;rw[aK,aK];have y:=h.len;by_cases d:i<l.length
  .have:=h.f i l[i] zz[i] (ah d) (ah C);rw[ah d,ah C];simp_all
  simp_all
 rw[this];exact h.ky
def yn(f:Nat)(caps:Array Value)(w:World)(aY:Nat->Nat)(t:Nat)(zz:List (Int×Vo))(Q:Int×Vo->Bool):Prop:=
 ∀W k v z,Bl w W->z∈zz->k=z.1->nA.ev w aY t z.2 v->Calls prog f (#[I k,v]++caps) W λen w'=>en=gG (.bool (!Q z))/\Bl W w'
def tx{w:World}{clk:Nat}(h:Mm w gm clk l zz (nA.ev w aY t))(y:Bl w w1)(hg:w.heap.size<=g)(hm:w1.heap[g]?=some (.map (gR l) clk))(f:Nat)(caps)(ef:∀d w,(callFunc f d).run prog w=.ok (.enter f d) w)(Q)(hL:yn f caps w aY t zz Q):ib 294 #[.map (some g),.func (.func f) #[] caps] w1 λen w'=>en=gS/\pI w' aY t (.map (some g)) (zz.filter Q)/\Bl w w':=by
 have a0:∀e∈l,∃z∈zz,e.k=z.1/\nA.ev w aY t z.2 e.v:=λe he=>by obtain⟨i,hi,rfl⟩:=aV.1 he;have hl:=h.len;have D:i<zz.length:=C;have:=h.f i l[i] zz[i] (ah hi) (ah D);exact⟨_,aL D,this⟩
 obtain⟨vf,A⟩:=CG w aY t;have hP:∀(i:Nat) e z,l[i]?=some e->zz[i]?=some z->Q (e.k,vf e.v)=Q z:=λi e z F h2=>by obtain⟨H,T⟩:=h.f i e z F h2;rw[A _ _ T,H]
 refine(No w1 f caps ef g clk l hm h.bo h.nd h.SK h.Tq (λe=> !Q (e.k,vf e.v)) λW e he hO=>?_).L ?_
 .obtain⟨z,D,H,T⟩:=a0 e he;have hW:Bl w W:=y.B hO λb e=>C;rw[A _ _ T,show(e.k,z.2)=z from Prod.ext H rfl];exact hL W e.k e.v z hW D H T
 rintro en w'⟨rfl,F,h2⟩;have hW:Bl w w':=y.B h2 λb e=>C;simp only[Bool.not_not]at F;exact⟨rfl,.inr ⟨g,clk,_,rfl,h.filter hW _ Q hP F⟩,hW⟩
def Jo(k x0 x1 x2)(va)(vn vc)(w):Calls prog 299 #[I k,.agg #[I x0,I x1,I x2,dk va vn vc]] w λd w'=>d=gG (.bool (!(x0==1)))/\Bl w w':=by go_wp2;go_ret;exact⟨by simp[bne],(Bl.refl w).alloc _⟩
def EH{w:World}(zz):yn 299 #[] w aY t zz (λz=>z.2.wh==1):=λW k v z _ _ _⟨s,d,i⟩=>by obtain⟨a,c,rfl⟩:=i.E;subst d;exact Jo _ _ _ _ _ _ _ W
theorem EO{w:World}(h:pI w aY t v zz):ib 279 #[v] w λL w'=>∃A,L=gG A/\pI w' aY t A (oB zz)/\Bl w w':=by
 obtain⟨rfl,rfl⟩|⟨gm,clk,l,rfl,h⟩:=h
 .obtain⟨d,i⟩:=fl uv yK;go_enter func279,ntmps279;go_wp2_with(first|(go_at_call 293;refine gF (d _) λw' D=>?_;have Q:=D.symm;clear D;subst Q)|(go_at_call 294;refine ix (i _ _) λw2 y=>?_));go_ret;exact⟨_,rfl,.inl ⟨rfl,rfl⟩,y⟩
 obtain⟨d,i⟩:=fl (rz gm _ clk w h.mp) (tx h ((Bl.refl w).alloc _) jc (ao w _) 299 #[] (enters_of func299 ij rfl) _ (EH (aY:=aY) (t:=t) zz));clear h;go_enter func279,ntmps279;go_wp2_with(first|(go_at_call 293;refine d.L ?_;rintro e w'⟨rfl,rfl⟩)|(go_at_call 294;refine i.L ?_;rintro e w2⟨rfl,F,H⟩;obtain⟨T,y⟩:=fl F H;clear H F));go_ret;exact⟨_,rfl,T,y⟩
def Gi(k x0 x1 x2 b)(va)(vn vc)(w)(g)(y:w.cell? (U g 0)=some (I b))(A:g<w.heap.size):Calls prog 302 #[I k,.agg #[I x0,I x1,I x2,dk va vn vc],O g] w λd w'=>d=gG (.bool (!decide (x2<=b)))/\Bl w w':=by
 have i:(!decide (x2<=b))=decide (b<x2):=by
  by_cases h:x2<=b
  .simp[h]
  simp[h];omega
 rw[i];go_wp2;go_ret;exact⟨aq,jo.alloc _⟩
theorem KN{w:World}(h:pI w aY t v zz)(b):ib 281 #[I b,v] w λen w'=>∃Q,en=gG Q/\pI w' aY t Q (Co b zz)/\Bl w w':=by
 obtain⟨W,A⟩:=dS (w.alloc (gO #[I b] 3));have i:=(Bl.refl w).alloc (gO #[I b] 3);have y:=ao w (gO #[I b] 3);rw[A]at i y;have r0:W.cell? (U w.heap.size 0)=some (I b):=ax W w.heap.size 0 _ 3 (0,0) y;have T:=(ae.1 y).1;obtain⟨HW,BW⟩:=fl A i;have hT:=h.bl i;clear A i y h;obtain⟨rfl,rfl⟩|⟨gm,clk,l,rfl,h⟩:=hT
 .obtain⟨D,F⟩:=fl uv yK;go_enter func281,ntmps281;go_upto_region 1 with fail;rw[HW.o];go_wp2_with(first|(go_at_call 293;refine gF (D _) λw' h3=>?_;have e3:=h3.symm;clear h3;subst e3)|(go_at_call 294;refine ix (F _ _) λw2 L=>?_));go_ret;exact⟨_,rfl,.inl ⟨rfl,rfl⟩,BW.H L⟩
 have D:=fu (rz gm _ clk W h.mp);have hL:yn 302 #[O w.heap.size] W aY t zz (λz=>decide (z.2.ba<=b)):=λW2 k v z d _ _⟨s,e1,e2⟩=>by obtain⟨a,c,rfl⟩:=e2.E;subst e1;exact Gi _ _ _ _ b _ _ _ W2 w.heap.size ((d.cell T).H r0) (af T d.lt)
 have F:=fu (tx h ((Bl.refl W).alloc _) jc (ao W _) 302 _ (enters_of func302 ij rfl) _ hL);clear h hL;go_enter func281,ntmps281;go_upto_region 1 with fail;rw[HW.o];go_wp2_with(first|(go_at_call 293;refine D.L ?_;rintro e w'⟨rfl,rfl⟩)|(go_at_call 294;refine F.L ?_;rintro e w2⟨rfl,ha,hb⟩;obtain⟨HA,L⟩:=fl ha hb;clear hb ha));go_ret;exact⟨_,rfl,HA,BW.H L⟩
def Rd.lM{w:World}{e i:TypeId}{d:Array Value}{f:Nat×Nat}(h:Rd w aY t e v cs)(A:bz (λb=>b=g) w w')(W:w.heap[g]?=some (gO d i f))(D:i≠e):Rd w' aY t e v cs:=by
 obtain h|⟨b,o,c,F,fr,L,Q,y,T⟩:=h
 .exact .inl h
 refine .inr ⟨b,o,c,F,fr,L,Q,(A.block b (ae.1 y).1 λe1=>?_).H y,T⟩;simp_all
def UC(w):(zeroValue 3).run prog w=.ok (I 0) w:=rfl
def Mi(w:World)(b n:Nat)(M:Int->Int):Prop:=
 ∃D:DataW Value,w.ownsMap prog 3 Rv b n D/\IsMap D/\∀k,D.atKey (.int .i64 k) (.held (.int .i64 0))=.held (.int .i64 (M k))
def Mi.lt{w:World}(h:Mi w b n M):b<w.heap.size:=by obtain⟨D,d,_⟩:=h;exact d.lt
def Mi.ox{w:World}(h:Mi w b n M)(e:w'.heap[b]?=w.heap[b]?):Mi w' b n M:=by obtain⟨D,⟨i,d,y,A⟩,F⟩:=h;exact⟨D,⟨i,d,e.H y,A⟩,F⟩
def Mi.only{w:World}(h:Mi w b n M)(d:bz S w w')(i:¬S b):Mi w' b n M:=h.ox (d.block b h.lt i)
def Mi.bl{w:World}(h:Mi w b n M)(d:Bl w w'):Mi w' b n M:=h.ox (d.heap h.lt)
def Mi.Cr(w:World):Mi (w.alloc (.map #[] 0)) w.heap.size 0 (λ_=>0):=
 ⟨.map [],World.ownsMap_made w prog 3 Rv,⟨_,rfl⟩,λ_=>rfl⟩
def Mi.oH{w:World}(h:Mi w b n M)(k)(i:(Lit.int .i64 k).wf=true):(Instr.lookup 371 (.map (some b)) (I k) false).run prog w=.ok (I (M k)) w:=by obtain⟨D,y,F,A⟩:=h;obtain⟨v,ps,H,d⟩:=y.lookup Lu underlying371 (UC w) rfl (keyOf_int_mk underlying3 i);rw[A]at d;simp only[Rv,aJ,Prod.mk.injEq,DataW.held.injEq]at d;simp_all
def Mi.put{w:World}(h:Mi w b n M)(k)(d:(Lit.int .i64 k).wf=true)(x)(y:n<maxLen):∃w',(Instr.mapUpdate 371 (.map (some b)) (I k) (I x)).run prog w=.ok () w'/\Mi w' b (n+1) (λj=>if j=k then x else M j)/\bz (λx=>x=b) w w':=by
 obtain⟨D,A,i,F⟩:=h;obtain⟨w',H,Q,T⟩:=A.update Lu underlying371 y (keyOf_int_mk underlying3 d) rfl;refine⟨w',H,⟨_,Q,?_,λj=>?_⟩,(bz.B T).L λx _ e=>iG e⟩
 .obtain⟨W,rfl⟩:=i;exact⟨_,rfl⟩
 show _=DataW.held (I (if j=k then x else M j));by_cases e:j=k
 .subst e;rw[aE rfl,atKey_put_same i (Lu.key (keyOf_int_mk underlying3 d))]
 rw[az e,atKey_put_other (iG e),F]
def so(b:Int)(l:List Vo):Nat:=(l.filter λv=>v.ba==b).length
def Lp(b)(v)(l):so b (v::l)=so b l+if v.ba=b then 1 else 0:=by unfold so;by_cases h:v.ba=b<;>simp[h]
def Js{b:Int}{l1 l2:List Vo}(h:l1.Perm l2):so b l1=so b l2:=(h.filter _).length_eq
def Qc(b)(l):so b l<=l.length:=bF _ _
def RB(b)(zz:List (Int×Vo)):so b (zz.map (·.2))=(zz.filter λy=>y.2.ba==b).length:=by unfold so;rw[dZ,ay];rfl
theorem Qd(k x0 x1 x2)(oI:Nat)(va)(vn vc)(w)(g3 g6 b n)(M)(d:Mi w b n M)(i:(Lit.int .i64 x2).wf=true)(H:w.cell? (U g3 0)=some (I oI))(L:w.cell? (U g6 0)=some (.map (some b)))(Q:g3<w.heap.size)(T:g6<w.heap.size):ib 292 #[I k,.agg #[I x0,I x1,I x2,dk va vn vc],O g6,O g3] w λA w'=>A=gG (.bool (!decide ((oI:Int)<=M x2)))/\Bl w w':=by
 have D:=(d.bl ((Bl.refl w).alloc (gO #[I x0,I x1,I x2,dk va vn vc] 222))).oH x2 i;have F:(!decide ((oI:Int)<=M x2))=decide (M x2<oI):=by
  by_cases h:(oI:Int)<=M x2
  .simp[h]
  simp[h];omega
 rw[F];generalize M x2=y at*;clear d;go_enter func292,ntmps292;go_wp2;go_ret;exact⟨aq,jo.alloc _⟩
theorem GG{w:World}{clk:Nat}(h:Mm w gm clk l zz (nA.ev w aY t))(hB:∀z∈zz,mA z.2.val)(hW:∀z∈zz,(Lit.int .i64 z.2.ba).wf=true)(hl:zz.length<=100)(oI:Nat):Calls prog 274 #[.map (some gm),I oI] w λen w'=>∃(x0 x1:Int) (s:Value),en=gG (.tuple #[.agg #[I x0,I x1,I (sr zz oI).1,s],.bool (decide (0<(sr zz oI).1))])/\Rd w' aY t 5 s ((sr zz oI).2.map B8)/\Bl w w':=by
 obtain⟨f,hf⟩:=CG w aY t;obtain⟨HV,HE,Hf⟩:=gV (h.Vk hf) h.Vq hf;have ac:Hid (∀A∈zz.map (·.2),(Lit.int .i64 A.ba).wf=true):=λA hA=>by obtain⟨z,hz,rfl⟩:=aD.1 hA;exact hW z hz
 obtain⟨bo,nd⟩:=h.born;obtain⟨W0,Q⟩:=dS (((RU w oI).alloc (.map #[] 0)).alloc (gO #[.map (some (w.heap.size+1+1))] 371));have bW:Bl w W0:=by rw[<-Q];exact(((jo.alloc _).alloc _).alloc _).alloc _
 have ad:Bl (w.alloc (gO #[I oI] 3)) W0:=by rw[<-Q];exact((jo.alloc _).alloc _).alloc _
 have T:Bl (RU w oI) W0:=by rw[<-Q];exact(jo.alloc _).alloc _
 have ag:Bl ((RU w oI).alloc (.map #[] 0)) W0:=by rw[<-Q];exact jo.alloc _
 have k0:W0.heap[w.heap.size]?=some (gO #[I oI] 3 (0,0)):=(ad.heap aq).H (ao w _);have k1:W0.heap[w.heap.size+1]?=some (gO zV 222 (0,0)):=(T.heap aq).H (by have:=ao (w.alloc (gO #[I oI] 3)) (gO zV 222);simpa using this);have k2:Mi W0 (w.heap.size+1+1) 0 (λ_=>0):=by have:=(Mi.Cr (RU w oI)).bl ag;simpa using this
 have k3:W0.heap[w.heap.size+1+1+1]?=some (gO #[.map (some (w.heap.size+1+1))] 371 (0,0)):=by have:=ao ((RU w oI).alloc (.map #[] 0)) (gO #[.map (some (w.heap.size+1+1))] 371);rw[Q]at this;simpa using this
 have hs:W0.heap.size=w.heap.size+1+1+1+1:=by rw[<-Q];simp
 have b4:=fu (h.bl bW);have HM:=fu (h.bl bW).mp;have b5:=fu h;have bB:(Instr.makeMap 371 none).run prog (RU w oI)=_:=(show(Instr.makeMap 371 none).run prog (RU w oI)=.ok (.map (some (RU w oI).heap.size)) ((RU w oI).alloc (.map #[] 0))from by kernel_rfl);have bC:=(ae.1 h.mp).1;obtain⟨b6,b7,b8,K0⟩:=ju bo nd Q k0;obtain⟨K1,K2,K3,BW⟩:=ju k1 k2 k3 bW;obtain⟨Hs,HB,b9,Hl⟩:=ju hs hB hW hl;have a5:Hid (∃b,sr zz oI=b):=⟨_,rfl⟩;obtain⟨bb,a0⟩:=a5.o;rw[a0];have a5:=fu a0;obtain⟨F,i⟩:=bb;clear h bo nd hf hB hW hl Q k0 k1 k2 k3 bW hs ad T ag a0;go_enter func274,ntmps274;go_upto_region 2 with fail;rw[b8.o];go_wp2_with(at_range;refine jS _ rfl _ 104 rfl 3 222 underlying104 gm (gR l) clk rfl HM b6 b7 ?_;intro hI;have HI:=fu hI;clear hI);go_frame;go_loopw[15](λ_ wr=>∃(d:List MapEntry),Hid (Mi wr (w.heap.size+1+1) d.length λb=>so b (d.map λx=>f x.val))/\Hid (bz (λb=>b=w.heap.size+1+1) W0 wr)/\Hid (It wr W0.heap.size gm (gR l) clk d)) λ_ wr=>(gR l).size-(wr.iterSeen W0.heap.size).size
 case atStart=>exact⟨[],K2.bl (jo.alloc _),bz.E (jo.alloc _),HI⟩
 obtain⟨d,KM,KO,HJ⟩:=hrel;have r6:=(KO.cell (b:=w.heap.size+1+1+1) (o:=0) (gI Hs.o) C).H (ax W0 _ 0 _ 371 (0,0) K3);have r3:=(KO.cell (b:=w.heap.size) (o:=0) (gI Hs.o) C).H (ax W0 _ 0 _ 3 (0,0) K0);have ba:=fu ((KO.block (w.heap.size+1) (gI Hs.o) C).H K1);have ai:Hid (Bl w wr):=BW.B KO λb e=>C;have bD:=KO.size;go_wp2_with(at_next;refine kl _ rfl _ rfl W0.heap.size gm clk (gR l) d rfl HJ ?_ ?_)
 .intro h0;have e0:(d.map λx=>f x.val).Perm (zz.map (·.2)):=by rw[<-HV.o];exact h0.map _
  have ak:∀b,so b (d.map λx=>f x.val)=so b (zz.map (·.2)):=λb=>Js e0;have a6:Mm wr gm clk l zz (nA.ev wr aY t):=b5.bl ai;have H1:=fu (rz gm _ clk wr a6.mp);have hL:yn 292 #[O (w.heap.size+1+1+1),O w.heap.size] wr aY t zz (λz=>decide (oI<=(zz.filter λy=>y.2.ba==z.2.ba).length)):=λW2 k v z T hz _⟨s,e1,e2⟩=>by obtain⟨a,c,rfl⟩:=e2.E;subst e1;have:=Qd k z.2.wh z.2.pr z.2.ba oI a (z.2.val.map B8).length c W2 w.heap.size (w.heap.size+1+1+1) (w.heap.size+1+1) _ _ (KM.bl T) (b9 z hz) ((T.cell (gI Hs.o)).H r3) ((T.cell (gI Hs.o)).H r6) (af (gI Hs.o) T.lt) (af (gI Hs.o) T.lt);refine this.L λen w'⟨h1,h2⟩=>⟨?_,h2⟩;rw[h1,ak,RB];congr 3;simp
  have H2:=fu (tx a6 ((Bl.refl wr).alloc _) jc (ao wr _) 292 _ (enters_of func292 ij rfl) _ hL);have H3:Hid (∀W v,pI W aY t v (zz.filter λz=>decide (oI<=(zz.filter λy=>y.2.ba==z.2.ba).length))->Calls prog 277 #[v] W λen w'=>∃(x0 x1:Int) (sa:Option Addr) (sc:Nat),en=gG (.agg (qe x0 x1 F sa i sc))/\Rd w' aY t 5 (lI sa i sc) (i.map B8)/\Bl W w'):=λW v hA=>by refine(qu hA λz hz=>HB.o z (aU.1 hz).1).L λen w'⟨x0,x1,s,h1,h2,h3⟩=>?_;have a0:jF (zz.filter λz=>decide (oI<=(zz.filter λy=>y.2.ba==z.2.ba).length))=(F,i):=a5.o;rw[a0]at h1 h2;obtain⟨a,c,rfl⟩:=h2.E;rw[ay]at h1 h2;exact⟨x0,x1,a,c,h1,h2,h3⟩
  have al:w.heap.size+1<wr.heap.size:=gI Hs.o;clear a6 hL ak e0 h0 HE HV ac;go_wp2_with(first|(go_at_call 293;refine H1.L ?_;rintro e w'⟨rfl,rfl⟩)|(go_at_call 294;refine H2.L ?_;rintro e w2⟨rfl,ha,hb⟩;obtain⟨HA,bc⟩:=fl ha hb;clear hb ha)|(go_at_call 277;refine(H3 _ _ HA).L ?_;rintro e w3⟨x0,x1,sa,sc,rfl,hr,hb⟩;have HR:=fu hr;have a7:=bc.H hb;have a1:=(a7.heap al).H ba;obtain⟨y0,y1,y2,y3,ly⟩:=qP a1;obtain⟨f0,f1,f2,f3⟩:=xj a1 0 1 2 3;obtain⟨HZ,OZ,bd,be⟩:=ju (jY [I x0,I x1,I F,dk sa i.length sc] 0 w3 _ a1) (jw (S:=λb=>b=w.heap.size+1) (.inl rfl) [I x0,I x1,I F,dk sa i.length sc] 0 w3 (bz.refl _ w3)) (ai.H a7) a1;clear a7 hb hr a1));go_region;all_goals
   go_wp2;have bg:=(cL _ (gO (qe x0 x1 F sa i sc) 222) (ae.1 HZ).1).H HZ;obtain⟨q0,q1,q2,q3⟩:=nN bg 0 1 2 3 rfl;simp only[jX,vC]at q0 q1 q2 q3;refine aG (v:= .tuple #[.agg (qe x0 x1 F sa i sc),.bool (decide (0<F))]) (by simp[results,results274,go_sem,q0,q1,q2,q3]) rfl ?_;have bi:Bl w (((jX w3 (w.heap.size+1) 0 [I x0,I x1,I F,dk sa i.length sc]).alloc (gO (qe x0 x1 F sa i sc) 222)).drew):=((bd.B OZ λb e=>C).alloc _).drew;refine⟨x0,x1,_,rfl,?_,bi⟩;exact(HR.lM OZ be au).bl ((jo.alloc _).drew) λ_ _ e=>e
 intro e W he am hO an;obtain⟨A,hA,sv,a8,a9⟩:=HE e (iG he);have ap:f e.val=A:=Hf _ _ ⟨sv,a8,a9⟩;obtain⟨va,vc,ar⟩:=a9.E;rw[ay]at ar;subst ar;have aa:=ac A hA;have a2:Hid (∀b,so b ((e::d).map λx=>f x.val)=so b (d.map λx=>f x.val)+if A.ba=b then 1 else 0):=λb=>by rw[bj,Lp,ap]
 have bm:d.length<=100:=by
  have h1:=HJ.len;have h2:=b4.len;have h3:=Hl.o;have h4:(gR l).size=l.length:=by simp[gR]
  omega
 have a3:so A.ba (d.map λx=>f x.val)<=100:=aF (Qc _ _) (by rw[ay];exact bm);rw[a8]at an|-;have av:Hid (Mi W (w.heap.size+1+1) d.length λb=>so b (d.map λx=>f x.val)):=KM.only hO (gI Hs.o);have d6:=(hO.cell (b:=w.heap.size+1+1+1) (o:=0) (gI Hs.o) (gI Hs.o)).H r6;have bn:Hid (bz (λb=>b=w.heap.size+1+1) W0 W):=KO.wu hO λb e=>gI Hs.o;have aw:=fu am;obtain⟨A0,A1,A2,A3⟩:=A;simp only at an a2 a3 aa|-;have bA:=(Bl.refl W).alloc (gO (qe A0 A1 A2 va A3 vc) 222);obtain⟨cc,ab⟩:=dS (so A2 (d.map λx=>f x.val));have bq:=(av.bl bA).oH A2 aa;rw[ab]at bq a3;obtain⟨w',bw,b0,b1⟩:=(av.bl bA).put A2 aa ((cc:Int)+1) (by unfold maxLen;omega);have bE:IntKind.i64.wrap ((cc:Int)+1)=(cc:Int)+1:=Z3 _ C;obtain⟨bs,b2,BA⟩:=gV b0 b1 bA;have a4:Hid (d.length+1<=(gR l).size/\(wr.iterSeen W0.heap.size).size=d.length):=⟨by simpa using aw.len,HJ.yG⟩;have bR:w.heap.size+1+1+1<W.heap.size:=by have:=hO.size;have:=Hs.o;omega
 clear a9 ap a8 hO am he hA HE HV HJ bA b0 b1;have bv:=fu ab;clear ab;go_wp2;have b3:=(aw.bl BA).only b2 (gI Hs.o) C;go_roundw
 case rel=>
  refine⟨e::d,?_,bn.H ((bz.E BA).H b2),b3⟩;obtain⟨D,d1,d2,d3⟩:=bs.o;refine⟨D,d1,d2,λk=>(d3 k).H ?_⟩;show DataW.held (I (if k=A2 then _ else _))=DataW.held (I (so k ((e::d).map λx=>f x.val):Nat));rw[a2.o];by_cases ek:k=A2
  .rw[aE ek,aE ek.symm,ek,bv.o];simp
  rw[az ek,az (Ne.symm ek)];simp
 case measure=>rw[b3.yG,a4.2];have:=a4.1;simp;omega
theorem pL:∀(us d:List Int),d=(iL us d).1++(iL us d).2/\(iL us d).1.Sublist us
 |[],d=>⟨rfl,dy _⟩
 |u::us,[]=>by have:=pL us [];simp only[iL];simp_all
 |u::us,x::d=>by
  simp only[iL];by_cases h:x=u
  .rw[aE h];have:=pL us d;exact⟨by rw[h];show u::d=u::((iL us d).1++(iL us d).2);rw[<-this.1],this.2.cons_cons u⟩
  rw[az h];have:=pL us (x::d);exact⟨this.1,this.2.H (List.sublist_cons_self _ _)⟩
def tC(R L:List (List Int)):Prop:=R.length=L.length/\∀(i:Nat) r ch,R[i]?=some r->L[i]?=some ch->r.Sublist ch/\r≠[]
theorem qw:∀{L:List (List Int)} {d:List Int} {R:List (List Int)},within L d=some R->d=kz R/\tC R L
 |[],d,R,h=>by
  simp only[within]at h;split at h
  .rename_i Q;simp at h;subst h;exact⟨Q,rfl,λi r ch h=>lY h⟩
  simp at h
 |ch::L,d,R,h=>by
  simp only[within]at h;split at h
  .simp at h
  rename_i y;obtain⟨T,A,e⟩:=bN.1 h;subst e;obtain⟨W,h2,h3⟩:=qw A;have H:=pL ch d;refine⟨?_,mY h2,λi r c D F=>?_⟩
  .show d=(iL ch d).1++kz T;rw[<-W];exact H.1
  cases i with
  |zero=>simp at D F;subst D;subst F;exact⟨H.2,y⟩
  |succ i=>exact h3 i r c (iG D) (iG F)
def tC.mem{L:List (List Int)}(h:tC R L){r:List Int}(d:r∈R):∃ch∈L,r.Sublist ch/\r≠[]:=by obtain⟨i,y,rfl⟩:=aV.1 d;have A:=h.1;exact⟨L[i]' C,aL _,h.2 i _ _ (ah y) (ah C)⟩
def Qj(c):rm (-1) c=c:=eD.2 λu _=>by simp[qI]
def JA(L)(zs):vw L (-1) zs=if pN L zs=true then 0 else 5:=by
 unfold vw;rw[az aq];have:L.map (rm (-1))=L:=by
  conv=>rhs;rw[<-eI L]
  exact bf λc _=>Qj c
 rw[this]
def wQ(L){us:List Int}(h:us.Perm vs):pN L us=qv L vs:=by unfold pN qv;congr 1;simp[h.mem_iff]
def zW(X:Cx):Prop:=∀ch∈X.lay,∀u∈ch,0<=u/\u<=255
def yb(h:0<=u/\u<=255):(Lit.int .i64 u).wf=true:=qy h.1 C
section
variable{w:World}
theorem M5(h:iN w aY t p qb X V)(hx:mD X)(hs:yh X)(hu:zW X)(va)(vc)(val)(hv:Rd w aY (t+3) 5 (dk va val.length vc) (val.map B8))(hB:mA val):ib 301 #[ptr p,dk va val.length vc] w λen w'=>en=gG (.bool (X.yZ val))/\Bl w w':=by
 obtain⟨b1,b2,_⟩:=hx.B;have a0:=hx.ll;have d6:=h.cellAt 6 rfl;have lp:=h.B;obtain⟨gl,clv,a1⟩:∃gl clv,V.lv=dk (G gl) X.lay.length clv:=by obtain⟨g,ag,cap,f,e,_⟩:=h.r.lay;exact⟨g,cap,e⟩
 rw[a1]at d6;have D:=fu (yi V.lv X.lay (lI va val vc) val w h.r.lay.TO hv hB C C λc hc=>by have:=hx.ne c hc;omega);rw[a1]at D;have H:=fu h;obtain⟨Y,F⟩:=dS (X.yZ val);rw[F];unfold Cx.yZ at F;obtain⟨a7,Hu,Hs,ai⟩:=ju hx.ne hu hs a0;have a8:Hid (X.lay.length<=3):=lQ;clear h hx hu hv hB hs a0
 cases hw:within X.lay val with
 |none=>rw[hw]at D F;subst F;clear hw;go_enter func301,ntmps301;go_wp2_with(go_at_call 295;refine D.L ?_;rintro en w2⟨he,d⟩;simp only[wX]at he;subst he;have HB:=fu d;clear D d);go_ret;exact⟨rfl,HB⟩
 |some R=>
  rw[hw]at D F;have hS:=(qw hw).2;have a9:=fu hS.1;have aa:Hid (∀W,Bl w W->_):=λW hW=>sN (H.bl hW (bp:=aY) gK) Hs;have HN:Hid (∀(W Q:World) (g:Nat) (ms:List Value) (base i:Nat) (a:Option Addr) (n:Nat) (us:List Int),lS base W g X.lay.length ms R->Bl W Q->Q.ownsRow i 3 1 (dk a us.length n) us.length (us.map I)->us.Perm X.jH->ib 164 #[dk (G g) X.lay.length X.lay.length,I (-1),dk a us.length n] Q λe w'=>∃r,e=gG (.tuple #[r,I (if Y=true then 0 else 5)])/\Bl Q w'):=λW Q g ms base i a n us hR hb ho T=>by
   have a2:∀z∈us,0<=z/\z<=255:=λz hz=>by have:=T.mem_iff.1 hz;obtain⟨y,hy,rfl⟩:=aD.1 this;exact Hs.ids y hy
   have ad:us.length<=100:=by rw[T.length_eq];show(X.mv.b.B.map _).length<=_;rw[ay];exact Hs.len
   refine(Ey _ _ R (-1) us Q (hR.bl hb).TO (iC ho) (by have:=a8.o;have:=a9.o;omega) (λc hc=>?_) C λz hz=>yb (a2 z hz)).L ?_
   .obtain⟨ch,a3,A,_⟩:=hS.mem hc;have:=a7 ch a3;exact⟨gI A.length_le,λz hz=>yb (Hu ch a3 z (A.subset hz))⟩
   rintro e w'⟨r,rfl,h1,h2⟩;refine⟨r,?_,h1⟩;rw[JA,wQ R T];have ab:qv R X.jH=Y:=F;rw[ab]
  clear F hS hw;go_enter func301,ntmps301;go_wp2_with fail;refine D.L ?_;rintro en w2⟨⟨g,ms,rfl,hR⟩,d⟩;obtain⟨HB,HR⟩:=fl d hR;clear D d hR;go_wp2_with fail;refine(aa _ HB).L ?_;rintro en w3⟨a,n,us,rfl,ho,T,a4⟩;obtain⟨HO,HP,a5⟩:=gV ho T a4;clear ho T a4;go_wp2_with fail;refine(HN _ _ _ _ _ _ _ _ _ HR a5 HO HP).L ?_;rintro en w4⟨r,rfl,a6⟩;have ac:=fu a6;clear a6;go_wp2;all_goals
   go_ret;exact⟨rfl,(HB.H a5).H ac⟩
theorem GL(h:iN w aY t p qb X V)(y:mD X)(A:yh X)(D:zW X)(k x0 x1 x2)(va)(vc)(val)(F:Rd w aY (t+3) 5 (dk va val.length vc) (val.map B8))(H:mA val)(g)(hg:w.cell? (U g 0)=some (ptr p))(lg:g<w.heap.size):ib 300 #[I k,.agg #[I x0,I x1,I x2,dk va val.length vc],O g] w λT w'=>T=gG (.bool (decide (0<x2)&& !X.yZ val))/\Bl w w':=by
 have d:=(Bl.refl w).alloc (gO (qe x0 x1 x2 va val vc) 222);obtain⟨W,L⟩:=fl (M5 (h.bl d (bp:=aY) gK) y A D va vc val (F.bl d λ_ _ e=>e) H) d;generalize X.yZ val=Y at*;clear h y A D F H d;by_cases Q:0<x2
 .have i:(decide (0<x2)&& !Y)= !Y:=by simp[Q]
  rw[i];go_enter func300,ntmps300;go_wp2_with(go_at_call 301;refine ix W λw2 HB=>?_);go_ret;exact⟨rfl,L.H HB⟩
 have i:(decide (0<x2)&& !Y)=false:=by simp[Q]
 rw[i];go_enter func300,ntmps300;go_wp2;go_ret;exact⟨rfl,L⟩
theorem Bu(h:iN w aY t p qb X V)(hx:mD X)(hs:yh X)(hu:zW X)(i:pI w aY (t+3) v zz)(hB:∀z∈zz,mA z.2.val):ib 280 #[ptr p,v] w λen w'=>∃v',en=gG v'/\pI w' aY (t+3) v' (X.nH zz)/\Bl w w':=by
 obtain⟨W,F⟩:=dS (w.alloc (gO #[ptr p] 94));have y:=(Bl.refl w).alloc (gO #[ptr p] 94);have D:=ao w (gO #[ptr p] 94);rw[F]at y D;have r0:W.cell? (U w.heap.size 0)=some (ptr p):=ax W w.heap.size 0 _ 94 (0,0) D;have lr:=(ae.1 D).1;obtain⟨HW,BW⟩:=fl F y;have hT:=i.bl y;have L:=h.bl y (bp:=aY) gK;clear F y D i h;obtain⟨rfl,rfl⟩|⟨gm,clk,l,rfl,h⟩:=hT
 .obtain⟨Q,T⟩:=fl uv yK;clear L;go_enter func280,ntmps280;go_upto_region 1 with fail;rw[HW.o];go_wp2_with(first|(go_at_call 293;refine gF (Q _) λw' h3=>?_;have e3:=h3.symm;clear h3;subst e3)|(go_at_call 294;refine ix (T _ _) λw2 HB=>?_));go_ret;exact⟨_,rfl,.inl ⟨rfl,rfl⟩,BW.H HB⟩
 have Q:=fu (rz gm _ clk W h.mp);have hL:yn 300 #[O w.heap.size] W aY (t+3) zz (λz=> !(decide (0<z.2.ba)&& !X.yZ z.2.val)):=λW2 k v z d hz _⟨s,e1,e2⟩=>by obtain⟨a,c,A⟩:=e2.E;rw[ay]at A;subst A;subst e1;have:=GL (L.bl d (bp:=aY) gK) hx hs hu k z.2.wh z.2.pr z.2.ba a c z.2.val (e2.bl d λ_ _ e=>e) (hB z hz) w.heap.size ((d.cell lr).H r0) (af lr d.lt);simpa using this
 have T:=fu (tx h ((Bl.refl W).alloc _) jc (ao W _) 300 _ (enters_of func300 ij rfl) _ hL);clear h hL L hx hs hu hB;go_enter func280,ntmps280;go_upto_region 1 with fail;rw[HW.o];go_wp2_with(first|(go_at_call 293;refine Q.L ?_;rintro e w'⟨rfl,rfl⟩)|(go_at_call 294;refine T.L ?_;rintro e w2⟨rfl,i,hb⟩;obtain⟨HA,HB⟩:=fl i hb;clear hb i));go_ret;exact⟨_,rfl,HA,BW.H HB⟩
end
def FI(L)(x):uI L x=L.map (rm x):=by refine bf λc _=>dH λu _=>?_;unfold qI;rw[dr];simp
def wW(L)(x):mV L x=0↔uS L x=true:=by
 unfold mV uS pZ qa;have d:(L.any λc=>decide (x∈c))=L.any λch=>ch.contains x:=by simp_all
 have i:(L.any λc=>decide (x∈c)&&decide (c.length=1))=L.any λch=>ch.contains x&&ch.length==1:=by congr 1;funext c;rw[dr];simp
 rw[d,i]
 cases(L.any λch=>ch.contains x)<;>cases(L.any λch=>ch.contains x&&ch.length==1)<;>simp
def M7(L)(x){us:List Int}(h:us.Perm vs):qo L x vs=if vw L x us=0 then some (L.map (rm x))else none:=by
 unfold qo vw;rw[FI,<-wQ _ h];by_cases i:x=-1
 .simp_all
 cases d:uS L x
 .have:mV L x≠0:=λe=>by rw[wW,d]at e;simp at e
  simp_all
 have:mV L x=0:=(wW L x).2 d;simp_all
section
variable{w:World}
def Cx.xu(X:Cx):List Int:=if X.jN.isEmpty then [-1]else X.jN
theorem Pe(h:iN w aY t p qb X V)(hx:mD X)(hs:yh X)(hu:zW X)(hr:X.res.length<=1000000000)(h8:X.dd.length<=8):ib 303 #[ptr p] w λen w'=>wX w.heap.size w' X.lay.length en X.next/\Bl w w':=by
 obtain⟨i3,ji,bw,bA,bB⟩:=fx Tryz.sU;have HC:=fu (zj h hr h8);have be:X.jN.length<=8:=aF (Im X.dd) h8;obtain⟨b1,b2,_⟩:=hx.B;have ap:=hx.ll;have d6:=h.cellAt 6 rfl;have lp:=h.B;obtain⟨gl,clv,b5⟩:∃gl clv,V.lv=dk (G gl) X.lay.length clv:=by obtain⟨g,bC,cap,f,e,_⟩:=h.r.lay;exact⟨g,cap,e⟩
 rw[b5]at d6;have b6:Hid (∀W,Bl w W->_):=λW hW=>sN (h.bl hW (bp:=aY) gK) hs;have HN:Hid (∀(W2:World) (a8:Nat) (a:Option Addr) (n:Nat) (us:List Int) (x:Int),Bl w W2->W2.ownsRow a8 3 1 (dk a us.length n) us.length (us.map I)->us.Perm X.jH->∀W3,Bl W2 W3->ib 164 #[dk (G gl) X.lay.length clv,I x,dk a us.length n] W3 λe w'=>∃(ra:Option Addr) (rn rc:Nat) (F:Int),e=gG (.tuple #[dk ra rn rc,I F])/\(F=0->∃g2 ms R,qo X.lay x X.jH=some R/\ra=G g2/\rn=X.lay.length/\rc=X.lay.length/\lS w.heap.size w' g2 X.lay.length ms R)/\(F≠0->qo X.lay x X.jH=none)/\Bl W3 w'):=λW2 a8 a n us x hb ho hp W3 a1=>by
  have b7:∀z∈us,0<=z/\z<=255:=λz hz=>by have:=hp.mem_iff.1 hz;obtain⟨y,hy,rfl⟩:=aD.1 this;exact hs.ids y hy
  have bq:us.length<=100:=by rw[hp.length_eq];show(X.mv.b.B.map _).length<=_;rw[ay];exact hs.len
  rw[<-b5];have hb:=hb.H a1;refine(Ey _ _ X.lay x us W3 (h.bl hb (bp:=aY) gK).r.lay.TO ((iC ho).bl a1) C (λc hc=>⟨gI (hx.ne c hc),λz hz=>yb (hu c hc z hz)⟩) C λz hz=>yb (b7 z hz)).L ?_;rintro e w'⟨r,rfl,h1,h2⟩;have hN:=M7 X.lay x hp;obtain⟨rfl,h2⟩|⟨g2,n2,ms,rfl,h2⟩:=h2
  .refine⟨none,0,0,_,rfl,λe0=>?_,λe0=>by rw[hN,az e0],h1⟩;unfold Ch at h2;rw[aE e0]at h2;have:=Z5 List.length h2;simp at this;rw[this]at ap;simp at ap;omega
  refine⟨_,_,_,_,rfl,λe0=>?_,λe0=>by rw[hN,az e0],h1⟩;unfold Ch at h2;rw[aE e0]at h2;have bg:n2=X.lay.length:=by rw[<-h2.len];simp
  subst bg;exact⟨g2,ms,_,by rw[hN,aE e0],rfl,rfl,rfl,⟨pP h2.gZ hb.lt,h2.len,λi hi bi=>pP (h2.row i hi bi) hb.lt,h2.lM⟩⟩
 obtain⟨Y,hY⟩:=dS X.next;rw[hY];have HY:Hid (X.xu.findSome? (λa9=>qo X.lay a9 X.jH)=Y):=hY;have bD:X.xu.length<=8:=by
  unfold Cx.xu;split
  .simp
  exact be
 have ar:Hid (X.jN=[]->X.xu=[-1]):=λe=>by unfold Cx.xu;rw[e];rfl
 have aa:Hid (X.jN≠[]->X.xu=X.jN):=λe=>by unfold Cx.xu;rw[az (iG e)]
 clear h hx hs hu hY ap;generalize X.xu=os at*;go_enter func303,ntmps303;go_wp2_with fail;refine HC.L ?_;rintro en w2⟨v,rfl,ho,b8⟩;obtain⟨a,cap,rfl⟩:=ja ho;obtain⟨HO,HB⟩:=fl ho b8;clear HC ho b8;by_cases a7:X.jN=[]
 .have a6:X.jN.length=0:=by rw[a7];rfl
  have ab:=ar a7;subst ab;have av:=HY;rw[a6]at*;clear HY ar aa HO a7 a6;go_wp2_with fail;have b9:=ao w2 (gO #[I (-1)] 3);have ba:=(Bl.refl w2).alloc (gO #[I (-1)] 3);have ac:Hid ((w2.alloc (gO #[I (-1)] 3)).ownsRow w.heap.size 3 1 (dk (G w2.heap.size) 1 1) 1 (([-1]:List Int).map I)):=⟨rfl,.inr ⟨w2.heap.size,1,_,rfl,HB.lt,b9,jc,au,rfl,rfl⟩⟩;have ad:=fu (HB.H ba);clear b9 ba;generalize w2.alloc (gO #[I (-1)] 3)=w5 at*;generalize w2.heap.size=g5 at*;go_loopw[17](λi wr=>∃j:Nat,j<=1/\i=I j/\Hid (Y=(([-1]:List Int).drop j).findSome? λa9=>qo X.lay a9 X.jH)/\Hid (Bl w5 wr)) λi _=>1-(Go.RowKit.intOf i).toNat
  case atStart=>exact⟨0,jd,rfl,av.symm,jo⟩
  obtain⟨j,hj,rfl,HE,D⟩:=hrel;by_cases iV:j<1
  .have bb:(j:Int)<((1:Nat):Int):=C;have hB:=ad.H D;have ag:j<([-1]:List Int).length:=by first|exact iV|(simp;omega)
   have d:=ac.cellAt j (by first|exact iV|(simp;omega));rw[aK,ah ag]at d;have ai:=(ac.lt g5 rfl).2;have k1:=(D.cell ai).H d;simp only[bG]at k1;have bc:=af ai D.lt;have hE:=HE.o;rw[cm ag,gC]at hE;obtain⟨Q,a2⟩:=fl hE hB;have c6:=(hB.cell lp).H d6;have ak:=af lp hB.lt;generalize ([-1]:List Int)[j]=x at*;clear hE HE hB d;go_upto_region 7 with fail;go_cut[7,8] λr e wx=>∃(ra:Option Addr) (rn rc:Nat) (F:Int),r=dk ra rn rc/\e=I F/\Hid (F=0->∃g2 ms R,qo X.lay x X.jH=some R/\ra=G g2/\rn=X.lay.length/\rc=X.lay.length/\lS w.heap.size wx g2 X.lay.length ms R)/\Hid (F≠0->qo X.lay x X.jH=none)/\Hid (Bl wr wx)
   case first=>
    go_region_held3(λW=>W.cell? (U p 6)=some (dk (G gl) X.lay.length clv)) (go_keep) (first|(go_at_call 314;refine(b6 _ (a2.H ?hb)).L ?_;(case hb=>exact iZ);rintro en w3⟨a3,n3,us,rfl,al,am,a1⟩;have T:Bl wr w3:=Bl.H iZ a1;have e6:=(T.cell ak).H c6;have aw:=af ak T.lt;obtain⟨b0,b3,an⟩:=gV al am T;clear al am a1 T)|(go_at_call 164;refine(HN w3 _ _ _ _ _ (a2.H an) b0 b3 _ ?hb).L ?_;(case hb=>exact iZ);rintro en w4⟨ra,rn,rc,F,rfl,h0,h1,a4⟩;have bm:w4.cell? (U p 6)=some (dk (G gl) X.lay.length clv):=(a4.cell (by first|exact aw)).H e6;obtain⟨H0,H1⟩:=fl h0 h1;have a0:Hid (Bl wr w4):=an.H (Bl.H iZ a4);clear h0 h1 a4));all_goals(go_wp2_with fail;go_meet)
    all_goals exact⟨ra,rn,rc,F,rfl,rfl,H0,H1,a0⟩
   case rest=>
    obtain⟨ra,rn,rc,F,rfl,rfl,H0,H1,a0⟩:=hcut;by_cases he:F=0
    .obtain⟨g2,ms,R,hN,rfl,rfl,rfl,hR⟩:=H0 he;have A:=Q.o;rw[hN]at A;obtain⟨a5,HR⟩:=fl A hR;subst he;clear hN A hR H0 H1;go_wp2;go_ret2;rw[a5.o];exact⟨⟨g2,ms,rfl,HR⟩,a2.H a0⟩
    have A:=Q.o;rw[H1.o he]at A;have a5:=fu A;have bn:(F==0)=false:=iG he;clear A H0 H1;go_wp2;go_roundw
    case rel=>exact⟨j+1,C,gX,a5,D.H a0⟩
    exact gW
  have bo:¬((j:Int)<((1:Nat):Int)):=C;have b4:j=1:=C;subst b4;have hE:=HE.o;rw[eo aq]at hE;have Q:=fu hE;clear hE HE;go_wp2;go_ret2;rw[Q.o];exact⟨rfl,ad.H D⟩
 have a6:¬((X.jN.length:Nat):Int)=0:=by intro e;exact a7 (aW.1 C)
 have bs:(((X.jN.length:Nat):Int)==0)=false:=iG a6;have ab:=aa a7;subst ab;have av:=HY;have ac:=HO;have ad:=HB;obtain⟨g,bv,bd⟩:=lL HO C;simp at bd;obtain⟨rfl,rfl⟩:=bd;clear HY ar aa HO HB a7;go_wp2_with fail;go_loopw[17](λi wr=>∃j:Nat,j<=X.jN.length/\i=I j/\Hid (Y=(X.jN.drop j).findSome? λa9=>qo X.lay a9 X.jH)/\Hid (Bl w2 wr)) λi _=>X.jN.length-(Go.RowKit.intOf i).toNat
 case atStart=>exact⟨0,jd,rfl,av.symm,jo⟩
 obtain⟨j,hj,rfl,HE,D⟩:=hrel;by_cases iV:j<X.jN.length
 .have bb:(j:Int)<((X.jN.length:Nat):Int):=C;have hB:=ad.H D;have ag:j<X.jN.length:=by first|exact iV|(simp;omega)
  have d:=ac.cellAt j (by first|exact iV|(simp;omega));rw[aK,ah ag]at d;have ai:=(ac.lt g rfl).2;have k1:=(D.cell ai).H d;simp only[bG]at k1;have bc:=af ai D.lt;have hE:=HE.o;rw[cm ag,gC]at hE;obtain⟨Q,a2⟩:=fl hE hB;have c6:=(hB.cell lp).H d6;have ak:=af lp hB.lt;generalize X.jN[j]=x at*;clear hE HE hB d;go_upto_region 7 with fail;go_cut[7,8] λr e wx=>∃(ra:Option Addr) (rn rc:Nat) (F:Int),r=dk ra rn rc/\e=I F/\Hid (F=0->∃g2 ms R,qo X.lay x X.jH=some R/\ra=G g2/\rn=X.lay.length/\rc=X.lay.length/\lS w.heap.size wx g2 X.lay.length ms R)/\Hid (F≠0->qo X.lay x X.jH=none)/\Hid (Bl wr wx)
  case first=>
   go_region_held3(λW=>W.cell? (U p 6)=some (dk (G gl) X.lay.length clv)) (go_keep) (first|(go_at_call 314;refine(b6 _ (a2.H ?hb)).L ?_;(case hb=>exact iZ);rintro en w3⟨a3,n3,us,rfl,al,am,a1⟩;have T:Bl wr w3:=Bl.H iZ a1;have e6:=(T.cell ak).H c6;have aw:=af ak T.lt;obtain⟨b0,b3,an⟩:=gV al am T;clear al am a1 T)|(go_at_call 164;refine(HN w3 _ _ _ _ _ (a2.H an) b0 b3 _ ?hb).L ?_;(case hb=>exact iZ);rintro en w4⟨ra,rn,rc,F,rfl,h0,h1,a4⟩;have bm:w4.cell? (U p 6)=some (dk (G gl) X.lay.length clv):=(a4.cell (by first|exact aw)).H e6;obtain⟨H0,H1⟩:=fl h0 h1;have a0:Hid (Bl wr w4):=an.H (Bl.H iZ a4);clear h0 h1 a4));all_goals(go_wp2_with fail;go_meet)
   all_goals exact⟨ra,rn,rc,F,rfl,rfl,H0,H1,a0⟩
  case rest=>
   obtain⟨ra,rn,rc,F,rfl,rfl,H0,H1,a0⟩:=hcut;by_cases he:F=0
   .obtain⟨g2,ms,R,hN,rfl,rfl,rfl,hR⟩:=H0 he;have A:=Q.o;rw[hN]at A;obtain⟨a5,HR⟩:=fl A hR;subst he;clear hN A hR H0 H1;go_wp2;go_ret2;rw[a5.o];exact⟨⟨g2,ms,rfl,HR⟩,a2.H a0⟩
   have A:=Q.o;rw[H1.o he]at A;have a5:=fu A;have bn:(F==0)=false:=iG he;clear A H0 H1;go_wp2;go_roundw
   case rel=>exact⟨j+1,C,gX,a5,D.H a0⟩
   exact gW
 have bo:¬((j:Int)<((X.jN.length:Nat):Int)):=C;have b4:j=X.jN.length:=C;subst b4;have hE:=HE.o;rw[eo aq]at hE;have Q:=fu hE;clear hE HE;go_wp2;go_ret2;rw[Q.o];exact⟨rfl,ad.H D⟩
end
section
variable{w:World}
def iN.SX{tag3:Nat->Nat}(h:iN w (gN aY N 5) t p qb X V)(i:100<=t)(d:∀b,b<N->tag3 b=aY b):iN w tag3 t p qb X V:=
 h.J λb _ A _=>by
  by_cases y:b<N
  .rw[fz _ _ _ _ y];exact d b y
  rw[ig _ _ _ _ C]at A;omega
def uE(aY:Nat->Nat)(N gm g3 a r:Nat):Nat->Nat:=λb=>if b<N then aY b else if b=gm then a else if b=g3 then r else 5
def pV{d a:Nat}(h:b<N):uE aY N gm d a r b=aY b:=aE h
def BF{d a:Nat}(h:N<=gm):uE aY N gm d a r gm=a:=by unfold uE;rw[az C,aE rfl]
def CP{d a:Nat}(h:N<=d)(i:d≠gm):uE aY N gm d a r d=r:=by unfold uE;rw[az C,az i,aE rfl]
def DW{w2:World}(vs)(d:iN w2 aY t p qb X V)(i:aY g<t\/t+32<=aY g):iN (jX w2 g 0 vs) aY t p qb X V:=
 d.only (jw (S:=λb=>b=g) (.inl rfl) _ 0 w2 (bz.refl _ w2)) (λb _ e=>jP e i) gK
def iN.Uk(h:iN w aY t p qb X V)(r)(nodes)(mP)(v2 n2)(gm)(d:Rd w aY (t+3) 5 v2 (r.ct.val.map B8))(i:Rd w aY (t+3) 3 n2 (nodes.map I))(y:w.heap[gm]?=some (.map #[] 0))(tg:aY gm=t+4):iN (jX w p 10 [I r.kd,I r.ln,I r.nr,I r.ep,I r.pl,I r.ct.kd,I r.ct.cl,I r.ct.ca,v2,n2,.bool mP,.map (some gm)]) aY t p qb {X with jg:=⟨r,nodes,mP,[]⟩} {V with pr:=⟨v2,n2,.map (some gm)⟩}:=
 h.tB (jw (S:=λb=>b=p) (.inl rfl) _ 10 w (bz.refl _ w)) (jY _ 10 w _ h.hp) ⟨h.r.lay,h.r.res,h.r.tb,h.r.mp,h.r.bo,h.r.bn,⟨d,i,nM.new y tg,λe=>lY e⟩,h.r.sl,h.r.vt,h.r.bg,h.r.b,h.r.a,h.r.pd.gH,h.r.pd.lt,h.r.pd.im,h.r.pd.a⟩
theorem zT(h:iN w aY t p qb X V)(a0:100<=t)(hx:mD X):ib 158 #[ptr p] w λen w'=>en=gS/\CS w aY t p qb X.jR w':=by
 obtain⟨b1,b2,_⟩:=hx.B;have a1:1<=X.lay.length/\X.lay.length<=3:=by rw[hx.ll];omega
 have HN:Hid (∀W',Bl w W'->_):=λW' ad=>tj (h.bl (bp:=gN aY w.heap.size 5) ad λb hb=>fz _ _ _ _ hb) hx.a0 hx.a1;obtain⟨H,Hx⟩:=fl h hx;have d5:=h.cellAt 5 rfl;have lp:=h.B;clear h hx;go_enter func158,ntmps158;go_upto_region 0 with fail;go_cut[2] λy wx=>∃gb,y= O gb/\Hid (iN wx (gN aY w.heap.size 5) t p qb {X with iu:=X.iu+1} V)/\Hid (wx.heap[gb]?=some (gO #[I 1,I 8,I (X.iu+1),I X.c,I 0,I 0,I 0,I 0,OO] 100 (0,0)))/\w.heap.size<=gb/\Hid (bz (λb=>b=p) w wx)
 case first=>
  go_region_with(go_at_call 194;refine(HN _ ?hb).L ?_;(case hb=>exact mG);rintro en w2⟨rfl,D,F⟩;have z5:=D.cellAt 5 rfl;have ar:=D.B;obtain⟨a2,a3⟩:=fl D F;have ag:=F.size;(first|(have e1:w2.heap[w.heap.size]?=some (gO Pd 100 (0,0)):=(F.block w.heap.size aq C).H (ao w.drew _);obtain⟨⟨y0,y1,y2,y3,y4,y5,y6,y7,y8⟩,gg,lz⟩:=sB e1;have g0:=gg 0;have g1:=gg 1;have g2:=gg 2;have g3:=gg 3;have g4:=gg 4;have g5:=gg 5;have g6:=gg 6;have g7:=gg 7;have g8:=gg 8;have ai:=fu e1;clear e1 gg)|skip);clear D F);all_goals(go_wp2_with fail;go_meet)
  all_goals first
   |(have hE:=ai.o;exact⟨_,rfl,DW [I 1,I 8,I (X.iu+1),I X.c,I 0,I 0,I 0,I 0,OO] a2 (.inl (by rw[ig _ _ _ _ jc];omega)),jY [I 1,I 8,I (X.iu+1),I X.c,I 0,I 0,I 0,I 0,OO] 0 w2 [I 0,I 0,I 0,I 0,I 0,I 0,I 0,I 0,OO] hE,jc,jw (S:=λb=>b=p) (.inr jc) [I 1,I 8,I (X.iu+1),I X.c,I 0,I 0,I 0,I 0,OO] 0 w2 (bz.H (bz.E (by exact mG)) a3)⟩)
   |exact⟨_,rfl,a2.bl (jo.alloc _) gK,ao w2 _,iG ag,(bz.H (bz.E (by exact mG)) a3).alloc _⟩
 case rest=>
  obtain⟨gb,rfl,HC,HX,av,HO⟩:=hcut;obtain⟨⟨z0,z1,z2,z3,z4,z5,z6,z7,z8⟩,_,lz⟩:=sB HX;have d6:=HC.cellAt 6 rfl;have a4:=HC.B;have HL:Hid (∀W,Bl wc W->_):=λW hW=>xW (HC.bl hW (bp:=gN aY w.heap.size 5) gK).r.lay a1.1 a1.2 Hx.ne;have HQ:=fu λna nc W=>pD W na (kz X.lay).length nc 1 8 (X.iu+1) X.c 0 0 0 0 none 0 0;obtain⟨gl,clv,ak⟩:∃gl clv,V.lv=dk (G gl) X.lay.length clv:=by obtain⟨g,aw,cap,f,e,_⟩:=HC.r.lay;exact⟨g,cap,e⟩
  rw[ak]at d6 HL;have b0:=HO.size;clear d5 HN;go_upto_region 1 with fail;go_region_with(first|(go_at_call 191;refine(HL _ ?hb).L ?_;(case hb=>exact iZ);rintro en w3⟨g3,a5,rfl,a6,a7⟩;have i:Bl wc w3:=Bl.H iZ a7;have b3:=(i.cell a4).H d6;obtain⟨s0,s1,s2,s3⟩:=i.J lz z0 z1 z2 z3;obtain⟨s4,s5,s6⟩:=i.F lz z4 z5 z6;obtain⟨s7,s8⟩:=i.E lz z7 z8;have Q:=af lz i.lt;have b4:=af a4 i.lt;obtain⟨a8,T⟩:=fl (pP (b1:=wc.heap.size) a6 (by first|exact jc)) i;clear a6 a7 i)|(go_at_call 207;refine(HQ _ _ _).L ?_;rintro en w4⟨gm,rfl,al,a9,aa⟩;have A:Bl w3 w4:=Bl.H iZ aa;have d:=(HC.bl (T.H A) (bp:=gN aY w.heap.size 5) gK).SX a0 (tag3:=uE aY w.heap.size gm g3 (t+4) (t+3)) λb hb=>pV hb;have y6:=d.cellAt 6 rfl;obtain⟨y0,y1,y2,y3⟩:=A.J Q s0 s1 s2 s3;obtain⟨y4,y5,b5⟩:=A.F Q s4 s5 s6;obtain⟨y7,y8⟩:=A.E Q s7 s8;obtain⟨b6,b7,b8,b9⟩:=d.Z 10 11 12 13 rfl;obtain⟨ba,bb,bc,bd⟩:=d.Z 14 15 16 17 rfl;obtain⟨be,bg,bi,bm⟩:=d.Z 18 19 20 21 rfl;obtain⟨bn,bo,bq,bs⟩:=d.zN 10 11 12 13;obtain⟨bv,bw,bA,bB⟩:=d.zN 14 15 16 17;obtain⟨bC,bD,bE,bR⟩:=d.zN 18 19 20 21;have bT:=d.B;have bV:w3.heap.size<=gm:=aF (by first|exact jc) al;obtain⟨am,ab,an⟩:=gV d A a9;clear d aa A a9));all_goals
   go_wp2;go_end0;have l3:=T.lt;have lo:=a8.lt g3 rfl;have ap:=(Rd.pB (aY:=uE aY w.heap.size gm g3 (t+4) (t+3)) (t:=t+3) a8 (λb hb=>by
    simp[Value.ownBlock]at hb
    subst hb
    exact CP C C)).bl ab (bp:=uE aY w.heap.size gm g3 (t+4) (t+3)) λ_ _ e=>e
   have ac:=am.Uk ⟨1,8,X.iu+1,X.c,0,no⟩ (kz X.lay) true OO _ gm Rd.nil ap an (BF C);refine⟨rfl,_,λb hb=>pV hb,⟨_,ac⟩,?_⟩;have O1:bz (λb=>b=p) w (jX w4 p 10 [I 1,I 8,I (X.iu+1),I X.c,I 0,I 0,I 0,I 0,OO,dk (G g3) (kz X.lay).length a5,.bool true,.map (some gm)]):=jw (S:=λb=>b=p) (.inl rfl) _ 10 w4 (HO.H (bz.E (T.H ab)));exact H.mB O1
def iN.UY(h:iN w aY t p qb X V)(r)(nodes)(mP)(v2 n2)(gm)(d:Rd w aY (t+3) 5 v2 (r.ct.val.map B8))(i:Rd w aY (t+3) 3 n2 (nodes.map I))(y:w.heap[gm]?=some (.map #[] 0))(tg:aY gm=t+5):iN (jX w p 29 [I r.kd,I r.ln,I r.nr,I r.ep,I r.pl,I r.ct.kd,I r.ct.cl,I r.ct.ca,v2,n2,.bool mP,.map (some gm)]) aY t p qb {X with mv:={X.mv with b:=⟨r,nodes,mP,[]⟩}} {V with sl:=⟨v2,n2,.map (some gm)⟩}:=
 h.tB (jw (S:=λb=>b=p) (.inl rfl) _ 29 w (bz.refl _ w)) (jY _ 29 w _ h.hp) ⟨h.r.lay,h.r.res,h.r.tb,h.r.mp,h.r.bo,h.r.bn,h.r.pr,⟨d,i,nM.new y tg,λe=>lY e⟩,h.r.vt,h.r.bg,h.r.b,h.r.a,h.r.pd.gH,h.r.pd.lt,h.r.pd.im,h.r.pd.a⟩
theorem RC(h:iN w aY t p qb X V)(a0:100<=t)(hx:mD X):ib 298 #[ptr p] w λen w'=>en=gS/\CS w aY t p qb X.rL w':=by
 obtain⟨b1,b2,_⟩:=hx.B;have a1:1<=X.lay.length/\X.lay.length<=3:=by rw[hx.ll];omega
 have HN:Hid (∀W',Bl w W'->_):=λW' ad=>tj (h.bl (bp:=gN aY w.heap.size 5) ad λb hb=>fz _ _ _ _ hb) hx.a0 hx.a1;obtain⟨H,Hx⟩:=fl h hx;have d5:=h.cellAt 24 rfl;have lp:=h.B;clear h hx;go_enter func298,ntmps298;go_upto_region 0 with fail;go_cut[2] λy wx=>∃gb,y= O gb/\Hid (iN wx (gN aY w.heap.size 5) t p qb {X with iu:=X.iu+1} V)/\Hid (wx.heap[gb]?=some (gO #[I 1,I 9,I (X.iu+1),I X.mv.c,I 0,I 0,I 0,I 0,OO] 100 (0,0)))/\w.heap.size<=gb/\Hid (bz (λb=>b=p) w wx)
 case first=>
  go_region_with(go_at_call 194;refine(HN _ ?hb).L ?_;(case hb=>exact mG);rintro en w2⟨rfl,D,F⟩;have z5:=D.cellAt 24 rfl;have ar:=D.B;obtain⟨a2,a3⟩:=fl D F;have ag:=F.size;(first|(have e1:w2.heap[w.heap.size]?=some (gO Pd 100 (0,0)):=(F.block w.heap.size aq C).H (ao w.drew _);obtain⟨⟨y0,y1,y2,y3,y4,y5,y6,y7,y8⟩,gg,lz⟩:=sB e1;have g0:=gg 0;have g1:=gg 1;have g2:=gg 2;have g3:=gg 3;have g4:=gg 4;have g5:=gg 5;have g6:=gg 6;have g7:=gg 7;have g8:=gg 8;have ai:=fu e1;clear e1 gg)|skip);clear D F);all_goals(go_wp2_with fail;go_meet)
  all_goals first
   |(have hE:=ai.o;exact⟨_,rfl,DW [I 1,I 9,I (X.iu+1),I X.mv.c,I 0,I 0,I 0,I 0,OO] a2 (.inl (by rw[ig _ _ _ _ jc];omega)),jY [I 1,I 9,I (X.iu+1),I X.mv.c,I 0,I 0,I 0,I 0,OO] 0 w2 [I 0,I 0,I 0,I 0,I 0,I 0,I 0,I 0,OO] hE,jc,jw (S:=λb=>b=p) (.inr jc) [I 1,I 9,I (X.iu+1),I X.mv.c,I 0,I 0,I 0,I 0,OO] 0 w2 (bz.H (bz.E (by exact mG)) a3)⟩)
   |exact⟨_,rfl,a2.bl (jo.alloc _) gK,ao w2 _,iG ag,(bz.H (bz.E (by exact mG)) a3).alloc _⟩
 case rest=>
  obtain⟨gb,rfl,HC,HX,av,HO⟩:=hcut;obtain⟨⟨z0,z1,z2,z3,z4,z5,z6,z7,z8⟩,_,lz⟩:=sB HX;have d6:=HC.cellAt 6 rfl;have a4:=HC.B;have HL:Hid (∀W,Bl wc W->_):=λW hW=>xW (HC.bl hW (bp:=gN aY w.heap.size 5) gK).r.lay a1.1 a1.2 Hx.ne;have HQ:=fu λna nc W=>pD W na (kz X.lay).length nc 1 9 (X.iu+1) X.mv.c 0 0 0 0 none 0 0;obtain⟨gl,clv,ak⟩:∃gl clv,V.lv=dk (G gl) X.lay.length clv:=by obtain⟨g,aw,cap,f,e,_⟩:=HC.r.lay;exact⟨g,cap,e⟩
  rw[ak]at d6 HL;have b0:=HO.size;clear d5 HN;go_upto_region 1 with fail;go_region_with(first|(go_at_call 191;refine(HL _ ?hb).L ?_;(case hb=>exact iZ);rintro en w3⟨g3,a5,rfl,a6,a7⟩;have i:Bl wc w3:=Bl.H iZ a7;have b3:=(i.cell a4).H d6;obtain⟨s0,s1,s2,s3⟩:=i.J lz z0 z1 z2 z3;obtain⟨s4,s5,s6⟩:=i.F lz z4 z5 z6;obtain⟨s7,s8⟩:=i.E lz z7 z8;have Q:=af lz i.lt;have b4:=af a4 i.lt;obtain⟨a8,T⟩:=fl (pP (b1:=wc.heap.size) a6 (by first|exact jc)) i;clear a6 a7 i)|(go_at_call 207;refine(HQ _ _ _).L ?_;rintro en w4⟨gm,rfl,al,a9,aa⟩;have A:Bl w3 w4:=Bl.H iZ aa;have d:=(HC.bl (T.H A) (bp:=gN aY w.heap.size 5) gK).SX a0 (tag3:=uE aY w.heap.size gm g3 (t+5) (t+3)) λb hb=>pV hb;have y6:=d.cellAt 6 rfl;obtain⟨y0,y1,y2,y3⟩:=A.J Q s0 s1 s2 s3;obtain⟨y4,y5,b5⟩:=A.F Q s4 s5 s6;obtain⟨y7,y8⟩:=A.E Q s7 s8;obtain⟨b6,b7,b8,b9⟩:=d.Z 29 30 31 32 rfl;obtain⟨ba,bb,bc,bd⟩:=d.Z 33 34 35 36 rfl;obtain⟨be,bg,bi,bm⟩:=d.Z 37 38 39 40 rfl;obtain⟨bn,bo,bq,bs⟩:=d.zN 29 30 31 32;obtain⟨bv,bw,bA,bB⟩:=d.zN 33 34 35 36;obtain⟨bC,bD,bE,bR⟩:=d.zN 37 38 39 40;have bT:=d.B;have bV:w3.heap.size<=gm:=aF (by first|exact jc) al;obtain⟨am,ab,an⟩:=gV d A a9;clear d aa A a9));all_goals
   go_wp2;go_end0;have l3:=T.lt;have lo:=a8.lt g3 rfl;have ap:=(Rd.pB (aY:=uE aY w.heap.size gm g3 (t+5) (t+3)) (t:=t+3) a8 (λb hb=>by
    simp[Value.ownBlock]at hb
    subst hb
    exact CP C C)).bl ab (bp:=uE aY w.heap.size gm g3 (t+5) (t+3)) λ_ _ e=>e
   have ac:=am.UY ⟨1,9,X.iu+1,X.mv.c,0,no⟩ (kz X.lay) true OO _ gm Rd.nil ap an (BF C);refine⟨rfl,_,λb hb=>pV hb,⟨_,ac⟩,?_⟩;have O1:bz (λb=>b=p) w (jX w4 p 29 [I 1,I 9,I (X.iu+1),I X.mv.c,I 0,I 0,I 0,I 0,OO,dk (G g3) (kz X.lay).length a5,.bool true,.map (some gm)]):=jw (S:=λb=>b=p) (.inl rfl) _ 29 w4 (HO.H (bz.E (T.H ab)));exact H.mB O1
end
def rJ(k:Nat):List Int:=(List.range k).map λ(i:Nat)=>100+(i:Int)
def BS(k):rJ (k+1)=rJ k++[100+(k:Int)]:=by unfold rJ;rw[dp,aZ];rfl
section
variable{w:World}
def iN.Ua(h:iN w aY t p qb X V)(e:V.bg=.map (some b)):b<w.heap.size:=by
 obtain⟨d,_⟩|⟨_,d,_⟩|⟨_,_,i⟩:=h.r.bg
 .simp_all
 .exact(h.r.vt.B.map (d.symm.H e)).1
 exact(i.map e).1
def iN.Ug(h:iN w aY t p qb X V)(r)(nodes)(mP)(v2 n2)(gm)(A:Rd w aY (t+3) 5 v2 (r.ct.val.map B8))(D:Rd w aY (t+3) 3 n2 (nodes.map I))(F:w.heap[gm]?=some (.map #[] 0))(tg:aY gm=t+6)(i:r.kd≠7\/(V.bg=.map none/\X.mv.E=[]))(d:V.bg≠.map (some gm)):iN (jX w p 41 [I r.kd,I r.ln,I r.nr,I r.ep,I r.pl,I r.ct.kd,I r.ct.cl,I r.ct.ca,v2,n2,.bool mP,.map (some gm)]) aY t p qb {X with mv:={X.mv with a:=⟨r,nodes,mP,[]⟩}} {V with vt:=⟨v2,n2,.map (some gm)⟩}:=by
 have H:Lr w aY t {X.mv with a:=⟨r,nodes,mP,[]⟩} V.bg (.map (some gm)):=by
  obtain hk|hk:=i
  .obtain e|⟨_,L,y,_⟩|⟨_,_,y⟩:=h.r.bg
   .exact .inl e
   .exact .inr (.inr ⟨hk,d,by rw[L];show nM w aY _ _ _ X.mv.E;rw[y];exact h.r.vt.B⟩)
   exact .inr (.inr ⟨hk,d,y⟩)
  exact .inl hk
 exact h.tB (jw (S:=λb=>b=p) (.inl rfl) _ 41 w (bz.refl _ w)) (jY _ 41 w _ h.hp) ⟨h.r.lay,h.r.res,h.r.tb,h.r.mp,h.r.bo,h.r.bn,h.r.pr,h.r.sl,⟨A,D,nM.new F tg,λe=>lY e⟩,H,h.r.b,h.r.a,h.r.pd.gH,h.r.pd.lt,h.r.pd.im,h.r.pd.a⟩
theorem qZ(h:iN w aY t p qb X V)(a1:100<=t)(hx:mD X)(kd pl)(val)(va)(vc)(hv:Rd w aY (t+3) 5 (dk va val.length vc) (val.map B8))(a2:kd≠7\/(V.bg=.map none/\X.mv.E=[])):ib 154 #[ptr p,EJ kd 0 0 0 pl 0 0 0 (dk va val.length vc)] w λen w'=>en=gS/\CS w aY t p qb (X.kD kd pl val) w':=by
 obtain⟨i3,ji,a7,a8,a9⟩:=fx Tryz.sU;obtain⟨W,hW⟩:=dS (w.alloc (gO #[I kd,I 0,I 0,I 0,I pl,I 0,I 0,I 0,dk va val.length vc] 100));have bW:=(Bl.refl w).alloc (gO #[I kd,I 0,I 0,I 0,I pl,I 0,I 0,I 0,dk va val.length vc] 100);have hX:=ao w (gO #[I kd,I 0,I 0,I 0,I pl,I 0,I 0,I 0,dk va val.length vc] 100);rw[hW]at bW hX;have HN:Hid (∀W',Bl W W'->_):=λW' aa=>tj (h.bl (bp:=gN aY w.heap.size 5) (bW.H aa) λb hb=>fz _ _ _ _ hb) hx.a0 hx.a1;obtain⟨H,Hv,ab⟩:=gV h hv a2;obtain⟨_,_,_,_,v1,v5,_⟩:=hx.B;have ac:=h.B;obtain⟨a3,BW,HX⟩:=gV hW bW hX;have lg:w.heap.size<W.heap.size:=(ae.1 hX).1;have ad:Hid (p≠w.heap.size):=lQ;have ag:=(h.bl (bp:=aY) bW gK).cellAt 24 rfl;obtain⟨⟨q0,q1,q2,q3,q4,q5,q6,q7,q8⟩,D,_⟩:=sB hX;have f1:=D 1;have f2:=D 2;have f3:=D 3;have b4:=af ac bW.lt;clear h hv hW bW hX D hx a2;go_enter func154,ntmps154;go_upto_region 1 with fail;rw[a3.o];clear a3;go_cut[] λwx=>Hid (iN wx (gN aY w.heap.size 5) t p qb {X with iu:=X.iu+1} V)/\Hid (wx.heap[w.heap.size]?=some (gO #[I kd,I 9,I (X.iu+1),I X.mv.c,I pl,I 0,I 0,I 0,dk va val.length vc] 100 (0,0)))/\Hid (bz (λb=>b=p\/b=w.heap.size) W wx)
 case first=>
  go_region_with(go_at_call 194;refine(HN _ ?hb).L ?_;(case hb=>exact iZ);rintro en w2⟨rfl,F,a0⟩;have e1:=(a0.block w.heap.size lg (gI ad.o)).H HX;have b5:=F.cellAt 24 rfl;obtain⟨⟨y0,y1,y2,y3,_⟩,D,ly⟩:=sB e1;have g1:=D 1;have g2:=D 2;have g3:=D 3;have b6:=F.B;obtain⟨ai,ak,al⟩:=gV e1 F a0;clear F a0 e1 D);all_goals(go_wp2_with fail;go_meet)
  all_goals exact IE (.inl (by rw[ig _ _ _ _ jc];omega)) ak ai al iZ
 case rest=>
  obtain⟨HC,HB,HO⟩:=hcut;obtain⟨⟨z0,z1,z2,z3,z4,z5,z6,z7,z8⟩,_,lz⟩:=sB HB;have c2:=HC.cellAt 2 rfl;have b7:=HC.B;have HQ:=fu λna nc W=>wI W na X.vo nc kd 9 (X.iu+1) X.mv.c pl 0 0 0 va val.length vc;have b8:=BW.lt;have b9:=HO.size;clear q0 q1 q2 q3 q4 q5 q6 q7 q8 f1 f2 f3 ag HN HX;go_wp2;go_loopw[4,21](λv i wr=>∃j:Nat,j<=X.vo/\i=I j/\Hid (wr.ownsRow wc.heap.size 3 1 v j ((rJ j).map I))/\Hid (Bl wc wr)) λ_ i _=>X.vo-(Go.RowKit.intOf i).toNat
  case atStart=>exact⟨0,jd,rfl,mC,jo⟩
  obtain⟨j,hj,rfl,y,d⟩:=hrel;by_cases iV:j<X.vo
  .have b1:(j:Int)<(X.vo:Int):=C;have HT:=fu (Z5 (List.map I) (BS j));have am:Hid (j+1<=maxLen):=mQ;have an:Hid ((j+1)*8<=140737488355328):=lQ;have ba:IntKind.i64.wrap (100+(j:Int))=100+(j:Int):=Z3 _ C;go_wp2_with(at_builtin;refine fm _ rfl _ _ 24 rfl wc.heap.size 3 i3 (I 0) 1 8 underlying24 ji a7 a8 a9 rfl au u4 j _ rfl (y.alloc _) (U wr.heap.size 0) 1 1 [I (100+(j:Int))] rfl rfl (ZV _ _ _) qR au am an (by have:=d.lt;simp;omega) (wr.heap.size+1) aq ?_);intro g' a4 w3 T A ap b2;have ar:Hid (Bl wc w3):=(d.alloc _).B (bz.B A) λk e=>(y.lt k e.symm).1;have av:Hid (w3.ownsRow wc.heap.size 3 1 (dk (G g') (j+1) a4) (j+1) ((rJ (j+1)).map I)):=by unfold Hid;rw[HT.o,aZ];exact T
   clear T A ap;go_wp2;go_roundw
   case rel=>exact⟨j+1,C,aq,av,ar⟩
   exact gW
  have bb:¬((j:Int)<(X.vo:Int)):=C;have aw:j=X.vo:=C;subst aw;obtain⟨na,nc,rfl⟩:=ja y;have hB:=d.o;obtain⟨s0,s1,s2,s3⟩:=hB.J lz z0 z1 z2 z3;obtain⟨s4,s5,s6⟩:=hB.F lz z4 z5 z6;obtain⟨s7,s8⟩:=hB.E lz z7 z8;have bc:=af lz hB.lt;clear hB z0 z1 z2 z3 z4 z5 z6 z7 z8;go_wp2_with fail;refine(HQ _ _ _).L ?_;rintro en w3⟨gm,rfl,bd,a5,b3⟩;have b0:w.heap.size<=gm:=by have:=d.lt;omega
  obtain⟨g3,a6⟩:∃g3,∀b,(dk na X.vo nc).ownBlock=some b->b=g3:=by
   cases na with
   |none=>exact⟨0,λb hb=>mX hb⟩
   |some a=>exact⟨a.block,λb hb=>by simp[Value.ownBlock]at hb;exact hb.symm⟩
  have Q:iN w3 (uE aY w.heap.size gm g3 (t+6) (t+3)) t p qb {X with iu:=X.iu+1} V:=(HC.bl (d.H b3) (bp:=gN aY w.heap.size 5) gK).SX a1 λb hb=>pV hb;have oW:bz (λb=>b=p) w wc:=⟨HO.os.H BW.os,HO.tape.H BW.tape,HO.output.H BW.output,C,λi hi hs=>(HO.block i C C).H (BW.heap hi)⟩;have O3:=fu (oW.H (bz.E (d.H b3)));have V3:Rd w3 (uE aY w.heap.size gm g3 (t+6) (t+3)) (t+3) 5 (lI va val vc) (val.map B8):=Hv.only O3 (λb _ e=>by rw[e,H.tp];omega) (λb hb e=>by rw[pV hb];exact e);have N3:Rd w3 (uE aY w.heap.size gm g3 (t+6) (t+3)) (t+3) 3 (dk na X.vo nc) ((rJ X.vo).map I):=(Rd.pB (aY:=uE aY w.heap.size gm g3 (t+6) (t+3)) (t:=t+3) y (λb hb=>by
   have:=y.lt b hb
   have e:=a6 b hb
   subst e
   exact CP C C)).bl b3 λ_ _ e=>e
  have HF:=fu (Q.Ug ⟨kd,9,X.iu+1,X.mv.c,pl,⟨0,0,0,val⟩⟩ (rJ X.vo) true (lI va val vc) (dk na X.vo nc) gm V3 N3 a5 (BF b0) ab λe=>by have:=H.Ua e;omega);have be:=Q.B;obtain⟨bg,bi,bm,bn⟩:=Q.Z 41 42 43 44 rfl;obtain⟨bo,bq,bs,bv⟩:=Q.Z 45 46 47 48 rfl;obtain⟨bw,bA,bB,bC⟩:=Q.Z 49 50 51 52 rfl;obtain⟨bD,bE,bR,bT⟩:=Q.zN 41 42 43 44;obtain⟨bV,bX,c0,c1⟩:=Q.zN 45 46 47 48;obtain⟨c3,c4,c5,c6⟩:=Q.zN 49 50 51 52;clear HQ a5 b3 Q HC HB HO oW V3 N3 y d a6;go_wp2;go_end0;refine⟨rfl,_,λb hb=>pV hb,⟨_,HF⟩,?_⟩;exact H.mB (jw (S:=λb=>b=p) (.inl rfl) [I kd,I 9,I (X.iu+1),I X.mv.c,I pl,I 0,I 0,I 0,dk va val.length vc,dk na X.vo nc,.bool true,.map (some gm)] 41 w3 O3)
end
def sH(e:Int)(ch:Bool):List Value:=[I e,.bool ch,.map none,I 0,OO,
 I 0,I 0,I 0,I 0,I 0,I 0,I 0,I 0,OO,OO,.bool false,.map none,
 I 0,I 0,I 0,I 0,I 0,I 0,I 0,I 0,OO,OO,.bool false,.map none]
theorem vI(p):∀(vs:List Value) (o:Nat) (w:World),w.setCells p o vs=jX w p o vs
 |[],_,_=>rfl
 |_::vs,o,_=>vI p vs (o+1) _
structure XN(X:Cx):Prop where
 e:0<=X.c/\X.c<=1000000000000000
 t:0<=X.kH/\X.kH<=1000000000000000
section
variable{w:World}
def Pq(X)(V)(e)(ch):vC (pO X V) 24 (sH e ch)=pO {X with mv:={Mv.zero with c:=e,uk:=ch}} {V with bg:= .map none,b:= OO,sl:=QV.zero,vt:=QV.zero}:=ij
def iN.ya(h:iN w aY t p qb X V)(e)(ch):iN (jX w p 24 (sH e ch)) aY t p qb {X with mv:={Mv.zero with c:=e,uk:=ch}} {V with bg:= .map none,b:= OO,sl:=QV.zero,vt:=QV.zero}:=
 h.tB (jw (S:=λb=>b=p) (.inl rfl) _ 24 w (bz.refl _ w)) (by
  have:=jY (sH e ch) 24 w _ h.hp
  rwa[Pq]at this) ⟨h.r.lay,h.r.res,h.r.tb,h.r.mp,h.r.bo,h.r.bn,h.r.pr,QR.zero,QR.zero,.inl ⟨rfl,rfl⟩,Rd.nil,h.r.a,h.r.pd.gH,h.r.pd.lt,h.r.pd.im,h.r.pd.a⟩
def mD.mv(d:mD X)(M):mD {X with mv:=M}:=⟨d.mI,d.ll,d.ne,d.a0,d.a1⟩
def iN.there(h:iN w aY t p qb X V):w.there p 24 29:=λj d=>by refine⟨?_,aP _ p _ _ 114 h.hp⟩;rw[ax _ p _ _ 114 _ h.hp];simp[pO];omega
theorem oq(h:iN w aY t p qb X V)(y:100<=t)(hx:mD X)(hn:XN X):ib 93 #[ptr p] w λQ w'=>Q=gS/\CS w aY t p qb X.jn w':=by
 obtain⟨e,he⟩:=dS (max (X.c+1) (X.kH-1));have HA:Hid (∀W,Bl w W->ib 154 #[ptr p,EJ 7 0 0 0 0 0 0 0 OO] (jX W p 24 (sH e (decide (e<X.kH)))) λQ w'=>Q=gS/\CS w aY t p qb X.jn w'):=λW T=>by have hk:=h.bl T (bp:=aY) gK;have H1:=hk.ya e (decide (e<X.kH));have O1:bz (λb=>b=p) W (jX W p 24 (sH e (decide (e<X.kH)))):=jw (S:=λb=>b=p) (.inl rfl) _ 24 W (bz.refl _ W);refine(qZ H1 y (hx.mv _) 7 0 [] none 0 Rd.nil (.inr ⟨rfl,rfl⟩)).L λQ w'⟨e1,e2⟩=>⟨e1,?_⟩;unfold Cx.jn;rw[he];exact CS.F T (CS.iz (hk.mB O1) e2)
 obtain⟨d5,A⟩:=h.M 5 22 rfl;have lp:=h.B;obtain⟨e0,e1⟩:=hn.e;obtain⟨t0,t1⟩:=hn.t;have w1:IntKind.i64.wrap (X.c+1)=X.c+1:=Z3 _ C;have w2:IntKind.i64.wrap (X.kH-1)=X.kH-1:=Z3 _ C;have D:Hid (∀W,Bl w W->W.there p 24 (sH e (decide (e<X.kH))).toArray.size):=λW T=>(h.bl T (bp:=aY) gK).there;have He:=fu he;clear h hx hn he;go_enter func93,ntmps93;go_upto_region 0 with fail;go_cut[2] λx wx=>x=I e/\Hid (Bl w wx)
 case first=>
  go_region;all_goals(go_wp2_with fail;go_meet)
  all_goals exact⟨qz He.o,iZ⟩
 case rest=>obtain⟨rfl,HB⟩:=hcut;have a1:=(HB.cell lp).H A;have a2:=af lp HB.lt;obtain⟨a0,d⟩:=fl (HA wc HB) (D wc HB);have F:(prog.info? 108).map (·.size)=some (sH e (decide (e<X.kH))).toArray.size:=ij;have i:(sH e (decide (e<X.kH))).toArray.all (·.oneCell')=true:=ij;clear HA D d5 A w1 w2 He;go_upto_region 2 with((show Go.wpList _ _ _ [{dst:=none,op:=Op.store 108 _ _,type:=_,pos:=_,after:=_,guard:=_}] _ _);refine wpList_store_mid rfl 108 (.tmp 24) (.tmp 22) rfl p 24 (sH e (decide (e<X.kH))).toArray rfl rfl d F i ?_);have hE:wc.setCells p 24 (sH e (decide (e<X.kH))).toArray.toList=jX wc p 24 (sH e (decide (e<X.kH))):=vI p _ 24 _;rw[hE];clear hE F i d;generalize jX wc p 24 (sH e (decide (e<X.kH)))=W1 at*;go_wp2_with(go_at_call 154;refine ix a0 λw3 HS=>?_);go_end0;exact⟨rfl,HS⟩
theorem Bx(h:iN w aY t p qb X V)(y:100<=t)(i:mD X)(A:XN X)(e)(he:0<=e/\e<=1000000000000000):ib 250 #[ptr p,I e] w λF w'=>F=gS/\CS w aY t p qb (X.iz e) w':=by
 obtain⟨Y,d⟩:=dS (X.iz e);rw[d];unfold Cx.iz at d;obtain⟨d5,a0,a1⟩:=h.Iq 5 22 24 rfl;have a2:=h.F 22;have lp:=h.B;by_cases h1:e<=X.c
 .rw[aE (.inl h1)]at d;subst d;have HF:=fu (CS.E (w':=w) ⟨V,h⟩ (Bl.refl w));clear h i A;go_enter func250,ntmps250;go_wp2;refine aG (v:= .tuple #[]) (by simp[results,results250,go_sem]) rfl ?_;exact⟨rfl,HF⟩
 by_cases h2:e<=X.kH
 .rw[aE (.inr h2)]at d;subst d;have HF:=fu (CS.E (w':=w) ⟨V,h⟩ (Bl.refl w));clear h i A;go_enter func250,ntmps250;go_wp2;refine aG (v:= .tuple #[]) (by simp[results,results250,go_sem]) rfl ?_;exact⟨rfl,HF⟩
 rw[az C]at d;have D:bz (λb=>b=p) w (w.setCell (U p 22) (I e)):=(bz.refl (λb=>b=p) w).setCell (U p 22) (.inl rfl) _;have H:iN (w.setCell (U p 22) (I e)) aY t p qb {X with kH:=e} V:=h.tB D (iU 22 _ w _ h.hp) ⟨h.r.lay,h.r.res,h.r.tb,h.r.mp,h.r.bo,h.r.bn,h.r.pr,h.r.sl,h.r.vt,h.r.bg,h.r.b,h.r.a,h.r.pd.gH,h.r.pd.lt,h.r.pd.im,h.r.pd.a⟩;have Q:CS w aY t p qb {X with kH:=e} (w.setCell (U p 22) (I e)):=CS.mk H (h.mB D);by_cases W:X.mv.c<e
 .rw[aE W]at d;have HM:Hid (ib 93 #[ptr p] (w.setCell (U p 22) (I e)) λF w'=>F=gS/\CS w aY t p qb Y w'):=(oq H y ⟨i.mI,i.ll,i.ne,i.a0,i.a1⟩ ⟨A.e,he⟩).L λF w'⟨e1,e2⟩=>⟨e1,by rw[<-d];exact CS.iz (h.mB D) e2⟩;clear h i A H D Q d;go_enter func250,ntmps250;go_wp2_with(go_at_call 93;refine ix HM λw3 HS=>?_);go_end0;exact⟨rfl,HS⟩
 rw[az W]at d;subst d;have T:=fu Q;clear h i A H D Q;go_enter func250,ntmps250;go_wp2;go_end0;exact⟨rfl,T⟩
end
def FO{L:List (List Int)}{x:Int}{us:List Int}(h:qo L x us=some R):tC R L/\qv R us=true:=by
 unfold qo at h;split at h
 .rename_i y;simp at y;simp at h;subst h;refine⟨⟨by simp[uI],λi r ch d A=>?_⟩,y.2⟩;have D:=aR d;unfold uI at d;rw[aK,A]at d;simp at d;subst d;refine⟨cE,?_⟩;have:=y.2;unfold qv at this;rw[List.all_eq_true]at this;have:=this _ D;rw[cK]at this;obtain⟨u,F,_⟩:=this;intro e;simp_all
 simp at h
def CY{α β:Type}{f:α->Option β}{l:List α}{b:β}(h:l.findSome? f=some b):∃a∈l,f a=some b:=List.exists_of_findSome?_eq_some h
def Cx.Bm(h:X.next=some R):tC R X.lay/\qv R X.jH=true:=by obtain⟨a,_,d⟩:=CY h;exact FO d
section
variable{w:World}
def iN.Cy(h:iN w aY t p qb X V):pI w aY (t+3) V.bg X.mv.E:=by
 obtain e|⟨_,i,d,_⟩|⟨_,_,d⟩:=h.r.bg
 .exact .inl e
 .rw[i,d];exact h.r.vt.B.t
 exact d.t
def tC.Wo{L:List (List Int)}(h:tC R L)(A:∀ch∈L,∀u∈ch,0<=u/\u<=255):mA (kz R):=λd i=>by obtain⟨r,D,i⟩:=fq.1 i;obtain⟨ch,y,F,_⟩:=h.mem D;exact A ch y d (F.subset i)
def G5(e:aY b=r):gN aY N r b=r:=by
 by_cases d:b<N
 .rw[fz _ _ _ _ d];exact e
 exact ig _ _ _ _ C
def Eo(w:World)(aY:Nat->Nat)(t:Nat)(en:Ending):Option (List Int)->Prop
 |none=>en=.returned (.tuple #[OO,.bool false])
 |some v=>∃a c,en=.returned (.tuple #[.slice a v.length c,.bool true])/\Rd w aY t 5 (.slice a v.length c) (v.map B8)
theorem xe(h:iN w aY t p qb X V)(hx:mD X)(hs:yh X)(hu:zW X)(hr:X.res.length<=1000000000)(h8:X.dd.length<=8)(hB:∀z∈X.mv.E,mA z.2.val):ib 282 #[ptr p] w λF w'=>Eo w' (gN aY w.heap.size (t+3)) (t+3) F X.kB/\Bl w w':=by
 have a8:=h.cellAt 26 rfl;have lp:=h.B;obtain⟨mb,a0⟩:∃mb,V.bg=.map mb:=by
  obtain⟨e,_⟩|⟨_,_,_,e,_⟩:=h.Cy
  .exact⟨_,e⟩
  exact⟨_,e⟩
 rw[a0]at a8;have HL:=fu (Bu h hx hs hu h.Cy hB);rw[a0]at HL;have a2:∀z∈X.nH X.mv.E,mA z.2.val:=λz hz=>hB z (aU.1 hz).1;have HH:Hid (∀W v,pI W aY (t+3) v (X.nH X.mv.E)->_):=λW v hA=>qu hA a2;have HN:Hid (∀W,Bl w W->ib 303 #[ptr p] W λF w'=>wX W.heap.size w' X.lay.length F X.next/\Bl W w'):=λW hW=>Pe (h.bl hW (bp:=aY) gK) hx hs hu hr h8;obtain⟨b1,b2,_⟩:=hx.B;have a9:=hx.ll;have aa:Hid (∀W g ms R base,w.heap.size<=base->X.next=some R->lS base W g X.lay.length ms R->ib 304 #[dk (G g) X.lay.length X.lay.length] W λe w'=>∃a c,e=gG (dk a (kz R).length c)/\Rd w' (gN aY w.heap.size (t+3)) (t+3) 5 (dk a (kz R).length c) ((kz R).map B8)/\Bl W w'):=λW g ms R base an hN hR=>by
  obtain⟨hS,_⟩:=Cx.Bm hN;have a3:pj W (gN aY w.heap.size (t+3)) (t+3) _ R:=hR.lay λb Q=>ig _ _ _ _ C;have ap:=hS.1;refine(Lt a3 C C (λr hr=>?_) (hS.Wo hu)).L ?_
  .obtain⟨ch,ab,a4,ac⟩:=hS.mem hr;have h1:=hx.ne ch ab;have h2:=a4.length_le;have h3:0<r.length:=cU.2 ac;omega
  rintro e w'⟨a,c,rfl,ho,Q⟩;refine⟨a,c,rfl,Rd.pB ho λb ad=>ig _ _ _ _ ?_,Q⟩;have h1:=(ho.lt b ad).1;have h2:=(hR.gZ.lt g rfl);omega
 have ag:=fu J6;obtain⟨Y,D⟩:=dS X.kB;rw[D];unfold Cx.kB at D;have H:=fu h;clear h hx hs hu hB a2 a0 a9;generalize jF (X.nH X.mv.E)=b at*;obtain⟨ai,ar⟩:=b;simp only at D HH;by_cases h0:0<ai
 .rw[aE h0]at D;have HY:=fu D;clear D;go_enter func282,ntmps282;go_wp2_with(first|(go_at_call 280;refine HL.L ?_;rintro F w2⟨v2,rfl,ha,Q⟩;obtain⟨HA,HB⟩:=fl ha Q;clear HL ha Q)|(go_at_call 277;refine(HH _ _ HA).L ?_;rintro F w3⟨x0,x1,s,rfl,d,i⟩;obtain⟨sa,sc,y⟩:=d.E;rw[ay]at y;subst y;obtain⟨HR,A⟩:=fl d (HB.H i);clear d i));go_ret2;rw[<-HY.o];exact⟨⟨sa,sc,rfl,HR.bl (jo.alloc _) λb _ e=>G5 e⟩,A.alloc _⟩
 rw[az h0]at D
 cases hN:X.next with
 |none=>rw[hN]at D HN;have HY:=fu D;clear D hN;go_enter func282,ntmps282;go_wp2_with(first|(go_at_call 280;refine HL.L ?_;rintro F w2⟨v2,rfl,ha,Q⟩;obtain⟨HA,HB⟩:=fl ha Q;clear HL ha Q)|(go_at_call 277;refine(HH _ _ HA).L ?_;rintro F w3⟨x0,x1,s,rfl,d,i⟩;obtain⟨sa,sc,y⟩:=d.E;rw[ay]at y;subst y;obtain⟨HR,A⟩:=fl d (HB.H i);clear d i)|(go_at_call 303;refine(HN _ (A.alloc _)).L ?_;rintro F w4⟨he,T⟩;simp only[wX]at he;subst he;have a1:=fu ((A.alloc _).H T);clear T)|(go_at_call 304;refine gF (ag _) λw5 h5=>?_;have e5:=h5.symm;clear h5;subst e5));go_ret2;rw[<-HY.o];exact⟨rfl,a1⟩
 |some R=>rw[hN]at D HN;obtain⟨HY,ak⟩:=fl D hN;clear D hN;go_enter func282,ntmps282;go_wp2_with(first|(go_at_call 280;refine HL.L ?_;rintro F w2⟨v2,rfl,ha,Q⟩;obtain⟨HA,HB⟩:=fl ha Q;clear HL ha Q)|(go_at_call 277;refine(HH _ _ HA).L ?_;rintro F w3⟨x0,x1,s,rfl,d,i⟩;obtain⟨sa,sc,y⟩:=d.E;rw[ay]at y;subst y;obtain⟨HR,A⟩:=fl d (HB.H i);clear d i)|(go_at_call 303;refine(HN _ (A.alloc _)).L ?_;rintro F w4⟨he,T⟩;simp only[wX]at he;obtain⟨g,ms,rfl,hR⟩:=he;have a5:=(A.alloc _).H T;obtain⟨HC,a1⟩:=fl (aa w4 g ms R _ (A.alloc _).lt ak hR) a5;clear T a5 hR)|(go_at_call 304;refine HC.L ?_;rintro F w5⟨a,c,rfl,a6,a7⟩;obtain⟨al,am⟩:=fl a6 a7;clear a6 a7));go_ret2;rw[<-HY.o];exact⟨⟨a,c,rfl,al⟩,a1.H am⟩
structure Vg(X:Cx):Prop where
 b:0<=X.jB/\X.jB<=1000000000000000
 id:1000<=X.id/\X.id<=1099
 pr:∀z∈X.mv.E,z.2.pr<=1000000000000000
theorem EW(h:∀z∈zz,z.2.pr<=1000000000000000):0<=ki zz/\ki zz<=1000000000000000:=by
 rw[xi];have:∀l:List Vo,(∀v∈l,v.pr<=1000000000000000)->0<=IJ l/\IJ l<=1000000000000000:=λl=>by
  induction l with
  |nil=>intro _;exact⟨au,au⟩
  |cons v l d=>intro h;have D:=d λu i=>h u (aX _ i);have F:=h v aN;rw[pq];omega
 exact this _ λv y=>by obtain⟨z,A,rfl⟩:=aD.1 y;exact h z A
def iN.jB(h:iN w aY t p qb X V)(a):iN (w.setCell (U p 23) (I a)) aY t p qb {X with jB:=a} V:=
 h.tB ((bz.refl (λb=>b=p) w).setCell (U p 23) (.inl rfl) _) (iU 23 _ w _ h.hp) ⟨h.r.lay,h.r.res,h.r.tb,h.r.mp,h.r.bo,h.r.bn,h.r.pr,h.r.sl,h.r.vt,h.r.bg,h.r.b,h.r.a,h.r.pd.gH,h.r.pd.lt,h.r.pd.im,h.r.pd.a⟩
def iN.PO(h:iN w aY t p qb X V)(a):iN (w.setCell (U p 27) (I a)) aY t p qb {X with mv:={X.mv with jB:=a}} V:=
 h.tB ((bz.refl (λb=>b=p) w).setCell (U p 27) (.inl rfl) _) (iU 27 _ w _ h.hp) ⟨h.r.lay,h.r.res,h.r.tb,h.r.mp,h.r.bo,h.r.bn,h.r.pr,h.r.sl,h.r.vt,h.r.bg,h.r.b,h.r.a,h.r.pd.gH,h.r.pd.lt,h.r.pd.im,h.r.pd.a⟩
theorem zY(h:iN w aY t p qb X V)(hb:0<=X.jB/\X.jB<=1000000000000000)(hi:1000<=X.id/\X.id<=1099)(pr)(hp:0<=pr/\pr<=1000000000000000):ib 305 #[ptr p,I pr] w λL w'=>L=gG (I (X.jD pr))/\iN w' aY t p qb {X with jB:=X.jD pr} V/\bz (λb=>b=p) w w':=by
 have HF:Hid (∀W,Bl w W->iN (W.setCell (U p 23) (I (X.jD pr))) aY t p qb {X with jB:=X.jD pr} V):=λW Q=>(h.bl Q (bp:=aY) gK).jB _;have T:Hid (X.jD pr=(max pr X.jB/100+1)*100+X.id-1000):=rfl;obtain⟨c4,d⟩:=h.M 4 23 rfl;have i:=h.F 23;have lp:=h.B;clear h;generalize X.jD pr=nb at*;generalize D:max pr X.jB=m at*;have y:0<=m/\m<=1000000000000000:=C;have HM:=fu D;have hq:m.tdiv 100=m/100:=eF y.1;have a0:0<=m/100/\m/100<=10000000000000:=C;have w1:IntKind.i64.wrap (m/100)=m/100:=Z3 _ C;have w2:IntKind.i64.wrap (m/100+1)=m/100+1:=Z3 _ C;have w3:IntKind.i64.wrap ((m/100+1)*100)=(m/100+1)*100:=Z3 _ C;have w4:IntKind.i64.wrap ((m/100+1)*100+X.id)=(m/100+1)*100+X.id:=Z3 _ C;have w5:IntKind.i64.wrap ((m/100+1)*100+X.id-1000)=(m/100+1)*100+X.id-1000:=Z3 _ C;clear D;go_enter func305,ntmps305;go_upto_region 1 with fail;go_cut[] λF=>Hid (iN F aY t p qb {X with jB:=nb} V)/\Hid (bz (λb=>b=p) w F)
 case first=>
  go_region;all_goals(go_wp2_with fail;go_meet)
  all_goals
   have hE:(max pr X.jB/100+1)*100+X.id-1000=nb:=by rw[HM.o];exact T.symm
   rw[hE];exact⟨(HF w jo).bl jo.drew gK,((bz.refl (λb=>b=p) w).setCell (U p 23) (.inl rfl) _).H (bz.E jo.drew)⟩
 case rest=>obtain⟨A,HO⟩:=hcut;have a1:=A.cellAt 23 rfl;have a2:=A.B;clear d i HF;go_wp2;go_ret;exact⟨rfl,A,HO⟩
theorem uf(h:iN w aY t p qb X V)(Q:100<=t)(D:mD X)(hs:yh X)(hu:zW X)(hr:X.res.length<=1000000000)(h8:X.dd.length<=8)(hB:∀z∈X.mv.E,mA z.2.val)(T:Vg X):ib 287 #[ptr p] w λA w'=>A=gS/\CS w aY t p qb X.kL w':=by
 obtain⟨HP,H⟩:=fl (xe h D hs hu hr h8 hB) h;obtain⟨Y,y⟩:=dS X.kL;rw[y];unfold Cx.kL at y
 cases hp:X.kB with
 |none=>rw[hp]at HP y;have y:X=Y:=y;subst y;clear h D hs hu hB T hp;go_enter func287,ntmps287;go_wp2_with(go_at_call 282;refine HP.L ?_;rintro A w2⟨he,d⟩;simp only[Eo]at he;subst he;have HB:=fu d;clear d);go_end0;exact⟨rfl,CS.E ⟨V,H⟩ HB⟩
 |some v0=>
  rw[hp]at HP y;simp only at y;have a0:=h.cellAt 26 rfl;have lp:=h.B;obtain⟨mb,F⟩:∃mb,V.bg=.map mb:=by
   obtain⟨e,_⟩|⟨_,_,_,e,_⟩:=h.Cy
   .exact⟨_,e⟩
   exact⟨_,e⟩
  have a5:Hid (∀W,Bl w W->ib 306 #[.map mb] W λA w'=>A=gG (I (ki X.mv.E))/\Bl W w'):=λW hW=>by rw[<-F];exact Cm (h.Cy.bl hW)
  rw[F]at a0;have a1:=EW T.pr;have a6:Hid (∀W,Bl w W->_):=λW hW=>zY (h.bl hW (bp:=aY) gK) T.b T.id (ki X.mv.E) a1;have a7:Hid (∀W,iN W aY t p qb {X with jB:=X.jD (ki X.mv.E)} V->bz (λb=>b=p) w W->ib 154 #[ptr p,EJ 5 0 0 0 (X.jD (ki X.mv.E)) 0 0 0 OO] (W.setCell (U p 27) (I (X.jD (ki X.mv.E)))) λA w'=>A=gS/\CS w aY t p qb Y w'):=λW hW hO=>by have hk:=hW.PO (X.jD (ki X.mv.E));refine(qZ hk Q ⟨D.mI,D.ll,D.ne,D.a0,D.a1⟩ 5 _ [] none 0 Rd.nil (.inl au)).L λA w'⟨e1,e2⟩=>⟨e1,?_⟩;rw[<-y];exact CS.iz (h.mB (hO.setCell (U p 27) (.inl rfl) _)) e2
  clear h D hs hu hB T hp F y a1;generalize ki X.mv.E=pr at*;generalize X.jD pr=nb at*;go_enter func287,ntmps287;go_wp2_with(first|(go_at_call 282;refine HP.L ?_;rintro A w2⟨he,d⟩;simp only[Eo]at he;obtain⟨va,vc,rfl,_⟩:=he;have a9:=(d.cell lp).H a0;have aa:=af lp d.lt;have HB:=fu d;clear d)|(go_at_call 306;refine gF (a5 _ HB) λw3 a2=>?_;have a3:=fu (HB.H a2);clear a2)|(go_at_call 305;refine(a6 _ a3).L ?_;rintro A w4⟨rfl,i,a4⟩;have ab:=i.cellAt 27 rfl;have ac:=i.F 27;have ad:=i.B;have a8:=fu (a7 _ i ((bz.E a3).H a4));clear i a4)|(go_at_call 154;refine ix a8 λw5 HS=>?_));go_end0;exact⟨rfl,HS⟩
end
def pI.yC{w:World}(h:pI w aY t v zz):(Builtin.len_ #[104] 3 #[v]).run prog w=.ok (I zz.length) w:=by
 obtain⟨rfl,rfl⟩|⟨gm,clk,l,rfl,h⟩:=h
 .simp[Builtin.len_,Sem.run_bind,Z4 underlying104,Result.andThen];rfl
 have e:(gR l).size=zz.length:=by rw[<-h.len];simp[gR]
 simp[Builtin.len_,Sem.run_bind,Z4 underlying104,Result.andThen,aI h.mp,e];rfl
def pI.E{α:Type}[nA α]{w:World}{zz:List (Int×α)}(h:pI w aY t v zz):∃mb,v=.map mb:=by obtain⟨rfl,_⟩|⟨gm,_,_,rfl,_⟩:=h<;>exact⟨_,rfl⟩
section
variable{w:World}
def CS.tF(y:bz (λb=>Mc t (aY b)) w w1)(A:∀b,b<w.heap.size->bp b=aY b)(h:CS w1 bp t p qb X w'):CS w aY t p qb X w':=by obtain⟨i,D,F,L⟩:=h;refine⟨i,λb d=>(D b (af d y.size)).H (A b d),F,?_⟩;exact y.andThen L λb d e=>by rwa[A b d]at e
theorem sK(h:iN w aY t p qb X V)(i:mD X):ib 275 #[ptr p] w λD w'=>D=gG (I (X.oI:Nat))/\w'=w:=by
 obtain⟨_,_,_,_,L,Q,_⟩:=i.B;have c2:=h.cellAt 2 rfl;have T:=h.B;have F:((X.vo:Nat):Int).tdiv 2=((X.vo/2:Nat):Int):=by rw[eF C];omega
 have y:X.oI=X.vo/2+1:=rfl;rw[y];have H:X.vo/2<=2:=C;have A:(((X.vo/2+1:Nat)):Int)=((X.vo/2:Nat):Int)+1:=C;rw[A];generalize X.vo/2=d at*;have w1:IntKind.i64.wrap ((d:Int))=(d:Int):=Z3 _ C;have w2:IntKind.i64.wrap ((d:Int)+1)=(d:Int)+1:=Z3 _ C;clear h i y A;generalize ((X.vo:Nat):Int)=W at*;go_enter func275,ntmps275;go_wp2;go_ret;exact⟨by first|rfl|(rw[F]),rfl⟩
def iN.GD(h:iN w aY t p qb X V)(val)(v2)(d:Rd w aY (t+3) 5 v2 (val.map B8)):iN (w.setCell (U p 28) v2) aY t p qb {X with mv:={X.mv with value:=val}} {V with b:=v2}:=
 h.tB ((bz.refl (λb=>b=p) w).setCell (U p 28) (.inl rfl) _) (iU 28 _ w _ h.hp) ⟨h.r.lay,h.r.res,h.r.tb,h.r.mp,h.r.bo,h.r.bn,h.r.pr,h.r.sl,h.r.vt,h.r.bg,d,h.r.a,h.r.pd.gH,h.r.pd.lt,h.r.pd.im,h.r.pd.a⟩
structure Gl(zz:List (Int×Vo)):Prop where
 a:∀z∈zz,mA z.2.val
 ba:∀z∈zz,(Lit.int .i64 z.2.ba).wf=true
 pr:∀z∈zz,z.2.pr<=1000000000000000
 len:zz.length<=100
def GJ(d:100<=t)(i:mD X)(val)(W W2)(tag1)(V1)(D:∀b,b<w.heap.size->tag1 b=aY b)(F:iN W tag1 t p qb {X with mv:={X.mv with value:=val}} V1)(H:bz (λb=>Mc t (aY b)) w W)(va)(vc)(Q:Rd W tag1 (t+3) 5 (dk va val.length vc) (val.map B8))(y:Bl W W2):ib 154 #[ptr p,EJ 6 0 0 0 X.mv.jB 0 0 0 (dk va val.length vc)] W2 λA w'=>A=gS/\CS w aY t p qb (({X with mv:={X.mv with value:=val}}:Cx).kD 6 X.mv.jB val) w':=
 (qZ (F.bl y (bp:=tag1) gK) d ⟨i.mI,i.ll,i.ne,i.a0,i.a1⟩ 6 X.mv.jB val va vc (Q.bl y λ_ _ e=>e) (.inl au)).L λA w'⟨T,e2⟩=>⟨T,CS.tF (H.H (bz.E y)) D e2⟩
theorem xd(h:iN w aY t p qb X V)(b7:100<=t)(hx:mD X)(hs:yh X)(hu:zW X)(hr:X.res.length<=1000000000)(h8:X.dd.length<=8)(hB:Gl X.mv.E)(hV:Gl X.mv.a.B):ib 253 #[ptr p] w λD w'=>D=gS/\CS w aY t p qb X.ko w':=by
 have bv:=h.cellAt 52 rfl;have lp:=h.B;obtain⟨mb,b8⟩:=h.r.vt.B.t.E;have HD:=fu (EO h.r.vt.B.t);rw[b8]at bv HD;have aw:∀z∈oB X.mv.a.B,mA z.2.val:=λz hz=>hV.a z (aU.1 hz).1;have HL:Hid (∀W,Bl w W->∀v,pI W aY (t+3) v (oB X.mv.a.B)->_):=λW hW v hA=>Bu (h.bl hW (bp:=aY) gK) hx hs hu hA aw;have b9:∀z∈X.nH (oB X.mv.a.B),mA z.2.val:=λz hz=>aw z (aU.1 hz).1;have HH:Hid (∀W v,pI W aY (t+3) v (X.nH (oB X.mv.a.B))->_):=λW v hA=>qu hA b9;have a9:Hid (∀W,Bl w W->_):=λW hW=>sK (h.bl hW (bp:=aY) gK) hx;have HP:Hid (∀W d X1 V1,(∀b,b<w.heap.size->d b=aY b)->iN W d t p qb {X with mv:={X.mv with value:=X1}} V1->_):=λW d X1 V1 _ hk=>xe hk ⟨hx.mI,hx.ll,hx.ne,hx.a0,hx.a1⟩ ⟨hs.ids,hs.len⟩ hu hr h8 hB.a;have ai:Hid (∀X1,({X with mv:={X.mv with value:=X1}}:Cx).kB=X.kB):=λ_=>rfl;obtain⟨Y,F⟩:=dS X.ko;rw[F];unfold Cx.ko at F;simp only at F;have ba:=fu λval W W2 d V1=>GJ (w:=w) (aY:=aY) (p:=p) (qb:=qb) (X:=X) b7 hx val W W2 d V1;have bR:X.oI<=3:=by obtain⟨_,_,_,_,v1,v5,_⟩:=hx.B;unfold Cx.oI;omega
 have H:=fu h;generalize hv:jF (X.nH (oB X.mv.a.B))=v at*;obtain⟨v1,vv⟩:=v;simp only at F HH;have HU:Hid (∀W v,pI W aY (t+3) v (oB X.mv.a.B)->_):=λW v hA=>KN hA v1;have bT:(Co v1 (oB X.mv.a.B)).length<=100:=aF (bF _ _) (aF (bF _ _) hV.len);generalize Co v1 (oB X.mv.a.B)=uu at*;clear h hx hs hu hB hV aw b9 b8 hv;by_cases iV:uu.length<X.oI
 .rw[aE iV]at F;subst F;have bb:((uu.length:Nat):Int)<((X.oI:Nat):Int):=C;go_enter func253,ntmps253;go_wp2_with(first|(go_at_call 279;refine HD.L ?_;rintro D w2⟨v2,rfl,i,hb⟩;obtain⟨bw,rfl⟩:=i.E;obtain⟨aa,ab⟩:=fl i hb;clear HD i hb)|(go_at_call 280;refine(HL _ ab _ aa).L ?_;rintro D w3⟨v3,rfl,i,hb⟩;obtain⟨bA,rfl⟩:=i.E;obtain⟨b0,ac,b1⟩:=gV i hb (ab.H hb);clear i hb)|(go_at_call 277;refine(HH _ _ b0).L ?_;rintro D w4⟨x0,x1,s,rfl,Q,T⟩;obtain⟨sa,sc,ad⟩:=Q.E;rw[ay]at ad;subst ad;have bc:=fu Q;have a0:=b1.H T;obtain⟨b2,bd,b3⟩:=gV (aa.bl ((ac.H T).alloc (gO (qe x0 x1 v1 sa vv sc) 222))) a0 (a0.alloc (gO (qe x0 x1 v1 sa vv sc) 222));clear Q T a0)|(go_at_call 281;refine(HU _ _ b2).L ?_;rintro D w5⟨v5,rfl,i,hb⟩;obtain⟨bB,rfl⟩:=i.E;have be:=i.yC;obtain⟨a6,bg⟩:=fl (b3.H hb) hb;have a1:=(hb.heap aq).H (ao w4 (gO (qe x0 x1 v1 sa vv sc) 222));obtain⟨z0,z1,z2,z3,lz⟩:=qP a1;have bi:=fu a1;clear i hb a1)|(go_at_call 275;refine gF (a9 _ a6) λw6 h6=>?_;have e6:=h6.symm;clear h6;subst e6));refine aG (v:= .tuple #[]) (by simp[results,results253,go_sem]) rfl ?_;exact⟨rfl,CS.E ⟨V,H⟩ a6⟩
 rw[az iV]at F;have bb:¬((uu.length:Nat):Int)<((X.oI:Nat):Int):=C;have HY:=fu F;clear F;go_enter func253,ntmps253;go_upto_region 3 with(first|(go_at_call 279;refine HD.L ?_;rintro D w2⟨v2,rfl,i,hb⟩;obtain⟨bw,rfl⟩:=i.E;obtain⟨aa,ab⟩:=fl i hb;clear HD i hb)|(go_at_call 280;refine(HL _ ab _ aa).L ?_;rintro D w3⟨v3,rfl,i,hb⟩;obtain⟨bA,rfl⟩:=i.E;obtain⟨b0,ac,b1⟩:=gV i hb (ab.H hb);clear i hb)|(go_at_call 277;refine(HH _ _ b0).L ?_;rintro D w4⟨x0,x1,s,rfl,Q,T⟩;obtain⟨sa,sc,ad⟩:=Q.E;rw[ay]at ad;subst ad;have bc:=fu Q;have a0:=b1.H T;obtain⟨b2,bd,b3⟩:=gV (aa.bl ((ac.H T).alloc (gO (qe x0 x1 v1 sa vv sc) 222))) a0 (a0.alloc (gO (qe x0 x1 v1 sa vv sc) 222));clear Q T a0)|(go_at_call 281;refine(HU _ _ b2).L ?_;rintro D w5⟨v5,rfl,i,hb⟩;obtain⟨bB,rfl⟩:=i.E;have be:=i.yC;obtain⟨a6,bg⟩:=fl (b3.H hb) hb;have a1:=(hb.heap aq).H (ao w4 (gO (qe x0 x1 v1 sa vv sc) 222));obtain⟨z0,z1,z2,z3,lz⟩:=qP a1;have bi:=fu a1;clear i hb a1)|(go_at_call 275;refine gF (a9 _ a6) λw6 h6=>?_;have e6:=h6.symm;clear h6;subst e6));have a2:=H.bl a6 (bp:=aY) gK;have ak:=bc.bl (((Bl.refl w4).alloc _).H bg) (bp:=aY) λ_ _ e=>e;have a7:=a2.GD vv _ ak;have O6:bz (λb=>b=p) w5 (w5.setCell (U p 28) (lI sa vv sc)):=(bz.refl (λb=>b=p) w5).setCell (U p 28) (.inl rfl) _;have al:=ak.only O6 (λb hb e=>by rw[e,a2.tp];omega) (bp:=aY) λ_ _ e=>e;have bl:=a2.cellAt 28 rfl;have bm:=a2.F 28;have bV:=a2.B;have bC:p≠w4.heap.size:=by have:=bd.lt;omega
 have am:=(O6.block w4.heap.size lz (Ne.symm bC)).H bi;obtain⟨W6,an⟩:=dS (w5.setCell (U p 28) (lI sa vv sc));have ap:=fu an;rw[an]at a7 O6 am al;obtain⟨y0,y1,y2,y3,ly⟩:=qP am;have ar:Hid (bz (λb=>b=p) w W6):=(bz.E a6).H O6;have av:=fu a7;by_cases h0:v1=0
 .subst h0;have F:=HY.o;rw[aE rfl]at F;have HY:=fu F;clear F;have a3:=fu (HP _ aY vv _ gK a7);rw[ai.o]at a3;clear a2 a7 ak O6 am an HP al;go_upto_region 4 with fail;rw[ap.o];clear ap z0 z1 z2 z3 bl bm;have hG:Hid (∀W d V1 (va:Option Addr) (vc:Nat) val,(∀b,b<w.heap.size->d b=aY b)->iN W d t p qb {X with mv:={X.mv with value:=val}} V1->bz (λb=>Mc t (aY b)) w W->Rd W d (t+3) 5 (lI va val vc) (val.map B8)->val=X.kB.getD []->∀W2,Bl W W2->ib 154 #[ptr p,EJ 6 0 0 0 X.mv.jB 0 0 0 (lI va val vc)] W2 λD w'=>D=gS/\CS w aY t p qb Y w'):=λW d V1 va vc val ht hk ho hv he W2 hb=>by rw[<-HY.o,<-he];exact ba val W W2 d V1 ht hk ho va vc hv hb
  cases hp:X.kB with
  |none=>
   rw[hp]at a3 hG;go_upto_region 6 with(go_at_call 282;refine a3.L ?_;rintro D w7⟨he,a4⟩;simp only[Eo]at he;subst he;have y:=av.bl a4 (bp:=aY) gK;have b4:=y.cellAt 28 rfl;have b5:=y.F 28;have bD:=y.B;obtain⟨a8,b6⟩:=fl y a4;clear a4 y);have A:=a8.GD [] OO Rd.nil;have O8:bz (λb=>b=p) w7 (w7.setCell (U p 28) OO):=(bz.refl (λb=>b=p) w7).setCell (U p 28) (.inl rfl) _;have a5:=fu (hG _ aY _ none 0 [] gK A (H.mB ((ar.H (bz.E b6)).H O8)) Rd.nil rfl);obtain⟨W8,ag⟩:=dS (w7.setCell (U p 28) OO);rw[ag]at A a5|-;obtain⟨bn,bo⟩:=A.M 27 28 rfl;have bE:=A.B;clear A O8 ag a8 b4 b5 HL HH HU a9 ai a3 hG y0 y1 y2 y3;go_upto_region 7 with fail;go_region_with(go_at_call 154;refine(a5 _ ?hb).L ?_;(case hb=>exact mG);rintro D w9⟨rfl,hs⟩;have HS:=fu hs;clear hs);all_goals
    go_wp2;go_end0;exact⟨rfl,HS⟩
  |some v0=>
   rw[hp]at a3 hG;go_upto_region 6 with(go_at_call 282;refine a3.L ?_;rintro D w7⟨he,a4⟩;simp only[Eo]at he;obtain⟨pa,pc,rfl,bq⟩:=he;have y:=av.bl a4 (bp:=gN aY W6.heap.size (t+3)) λb hb=>fz _ _ _ _ hb;have b4:=y.cellAt 28 rfl;have b5:=y.F 28;have bD:=y.B;obtain⟨a8,b6,bs⟩:=gV y a4 bq;clear a4 y bq);have A:=a8.GD v0 (lI pa v0 pc) bs;have O8:bz (λb=>b=p) w7 (w7.setCell (U p 28) (lI pa v0 pc)):=(bz.refl (λb=>b=p) w7).setCell (U p 28) (.inl rfl) _;have l6:=ar.size;have a5:=fu (hG _ (gN aY W6.heap.size (t+3)) _ pa pc v0 (λb hb=>fz _ _ _ _ C) A (H.mB ((ar.H (bz.E b6)).H O8)) (bs.only O8 (λb hb e=>by rw[e,a8.tp];omega) λ_ _ e=>e) rfl);obtain⟨W8,ag⟩:=dS (w7.setCell (U p 28) (lI pa v0 pc));rw[ag]at A a5|-;obtain⟨bn,bo⟩:=A.M 27 28 rfl;have bE:=A.B;clear A O8 ag a8 b4 b5 HL HH HU a9 ai a3 hG y0 y1 y2 y3 l6;go_upto_region 7 with fail;go_region_with(go_at_call 154;refine(a5 _ ?hb).L ?_;(case hb=>exact mG);rintro D w9⟨rfl,hs⟩;have HS:=fu hs;clear hs);all_goals
    go_wp2;go_end0;exact⟨rfl,HS⟩
 have bW:(v1==0)=false:=by simpa using h0
 have F:=HY.o;rw[az h0]at F;have HY:=fu F;clear F;have a5:Hid (∀W2,Bl W6 W2->ib 154 #[ptr p,EJ 6 0 0 0 X.mv.jB 0 0 0 (lI sa vv sc)] W2 λD w'=>D=gS/\CS w aY t p qb Y w'):=λW2 hb=>by rw[<-HY.o];exact ba vv W6 W2 aY _ gK a7 (H.mB ar) sa sc al hb
 clear a2 a7 ak O6 am an al;go_upto_region 4 with fail;rw[ap.o];clear ap z0 z1 z2 z3 bl bm;obtain⟨bn,bo⟩:=av.M 27 28 rfl;have bX:=av.B;clear HL HH HU a9 ai HP;go_upto_region 7 with fail;go_region_with(go_at_call 154;refine(a5 _ ?hb).L ?_;(case hb=>exact mG);rintro D w8⟨rfl,hs⟩;have HS:=fu hs;clear hs);all_goals
  go_wp2;go_end0;exact⟨rfl,HS⟩
end
section
variable{w:World}
def Cx.Sy(X:Cx)(u:Int):Prop:=0<=u/\u<X.n*X.m
def mD.yY(d:mD X)(i:X.Sy u):yY X.n X.m X.vo X.ce u=(u/X.m,0):=by unfold Go.Proofs.YtbghhbpacijmmaaGreat.yY;obtain⟨y,A⟩:=i;simp[d.mI];omega
def mD.TA(d:mD X)(y:X.Sy u):∃(j:Nat) (ch:List Int),u/X.m=(j:Int)/\j<X.n/\X.lay[j]?=some ch/\X.lay.getD (u/X.m).toNat []=ch/\1<=ch.length/\ch.length<=3:=by
 obtain⟨b1,_,F,_⟩:=d.B;obtain⟨A,D⟩:=y;have H:0<=u/(X.m:Int):=fC A C;have L:u/(X.m:Int)<X.n:=gp C D;have i:(u/(X.m:Int)).toNat<X.lay.length:=by rw[d.ll];omega
 refine⟨(u/X.m).toNat,X.lay[(u/(X.m:Int)).toNat],C,C,ah i,?_,(d.ne _ (aL i)).1,(d.ne _ (aL i)).2⟩;rw[aS,ah i];rfl
theorem yz(h:iN w aY t p qb X V)(hx:mD X)(hc:c∈X.dd)(hu:X.Sy c.unit):ib 92 #[ptr p,ptr (qb c.gH)] w λen w'=>en=gS/\CS w aY t p qb (X.kF c) w'/\bz (λb=>aY b=t+1\/aY b=t+2) w w':=by
 obtain⟨cv,k⟩:=h.r.a c hc;obtain⟨j,ch,hj,ac,a2,a3,ad,ag⟩:=hx.TA hu;have HL:=fu λw=>ts X.n X.m X.vo X.ce c.unit w;rw[hx.yY hu,hj]at HL;obtain⟨g,a9,cap,f,a4,ab,ai,tg,hg,a0⟩:=h.r.lay;obtain⟨x,a5,a1⟩:=a0 j ch a2;obtain⟨na,nc,a6⟩:=a1.E;rw[ay]at a6;subst a6;have cg:w.cell? (U g j)=some (dk na ch.length nc):=by rw[ax w g j a9 24 f hg];exact a5
 have lg:=(ae.1 hg).1;obtain⟨c0,c1,c2⟩:=h.Iq 0 1 2 rfl;obtain⟨c3,c6⟩:=h.M 3 6 rfl;rw[a4,hx.ll]at c6;have e4:=k.cellAt 4 rfl;have lp:=h.B;have lq:=k.lt;have ak:(0:Int)<=(j:Int):=C;have al:(j:Int)<(X.n:Int):=C;have HE:Hid (∀W wh,Bl w W->ib 96 #[ptr p,ptr (qb c.gH),.agg #[I wh,I 0,OO]] W λen w'=>en=gS/\CS w aY t p qb (X.fin c ⟨wh,0,[]⟩) w'/\bz (λb=>aY b=t+1\/aY b=t+2) w w'):=λW wh hW=>(ID (h.bl hW (bp:=aY) λ_ _=>rfl) hc ⟨wh,0,[]⟩ none 0 Rd.nil).L λen w'⟨e1,e2,e3⟩=>⟨e1,CS.F hW e2,(bz.E hW).H e3⟩
 have HC:Hid (∀W,Bl w W->_):=λW hW=>wo (a1.bl hW (bp:=aY) λ_ _ e=>e) C c.unit;have HF:Hid (∀W,Bl w W->CS w aY t p qb X W/\bz (λb=>aY b=t+1\/aY b=t+2) w W):=λW hW=>⟨CS.E ⟨V,h⟩ hW,bz.E hW⟩;have hS:X.kF c=if c.unit∈ch then(if ch.length=1 then X.fin c ⟨6,0,[]⟩else X)else X.fin c ⟨1,0,[]⟩:=by unfold Cx.kF;rw[a3];simp
 obtain⟨Y,hY⟩:=dS (X.kF c);rw[hY]at hS;rw[hY];have F:=fu hS;clear h k hx hu a0 a5 a1 hg a4 hS a2 a3 hY;generalize qb c.gH=q at*;go_enter func92,ntmps92;go_upto_region 0 with fail;go_cut[4,5] λx y wx=>x=I j/\y=I 0/\Hid (Bl w wx)
 case first=>
  go_region_with(go_at_call 90;refine(HL _).L ?_;rintro en w2⟨rfl,a7⟩;have hB:Bl w w2:=Bl.H iZ a7;have Q:=fu hB;simp only[M1];clear hB a7);all_goals(go_wp2_with fail;go_meet)
  all_goals exact⟨rfl,rfl,Q⟩
 case rest=>
  obtain⟨rfl,rfl,Q⟩:=hcut;have d6:=(Q.cell lp).H c6;have dg:=(Q.cell lg).H cg;have d4:=(Q.cell lq).H e4;have am:=af lp Q.lt;have an:=af lq Q.lt;have ap:=af lg Q.lt;by_cases A:c.unit∈ch
  .have i:decide (c.unit∈ch)=true:=by simpa using A
   have D:=fu (HC _ Q);rw[i]at D;by_cases h1:ch.length=1
   .have T:=fu (HE wc 6 Q);have d:=F.o;rw[aE A,aE h1]at d;rw[<-d]at T;clear HE HC A i d F;rw[h1]at dg D;go_wp2_with(first|(go_at_call 153;refine D.L ?_;rintro en w3⟨rfl,h3⟩;have e3:=h3.symm;clear h3;subst e3)|(go_at_call 96;refine T.L ?_;rintro en w3⟨rfl,hs⟩;have HS:=fu hs;clear hs));go_end0;exact⟨rfl,HS⟩
   have aa:¬((ch.length:Nat):Int)=1:=C;have ar:(((ch.length:Nat):Int)==1)=false:=iG aa;have a8:=fu (HF wc Q);have d:=F.o;rw[aE A,az h1]at d;rw[<-d]at a8;clear HE HC A i d F;go_wp2_with(first|(go_at_call 153;refine D.L ?_;rintro en w3⟨rfl,h3⟩;have e3:=h3.symm;clear h3;subst e3));go_end0;exact⟨rfl,a8⟩
  have i:decide (c.unit∈ch)=false:=by simpa using A
  have D:=fu (HC _ Q);rw[i]at D;have T:=fu (HE wc 1 Q);have d:=F.o;rw[az A]at d;rw[<-d]at T;clear HE HC A i d F;go_wp2_with(first|(go_at_call 153;refine D.L ?_;rintro en w3⟨rfl,h3⟩;have e3:=h3.symm;clear h3;subst e3)|(go_at_call 96;refine T.L ?_;rintro en w3⟨rfl,hs⟩;have HS:=fu hs;clear hs));go_end0;exact⟨rfl,HS⟩
def Kg(h:iN w aY t p qb X V)(d:mD X)(i:c∈X.dd)(y:X.Sy c.unit):ib 92 #[ptr p,ptr (qb c.gH)] w λA w'=>A=gS/\CS w aY t p qb (X.kF c) w':=
 (yz h d i y).L λ_ _ e=>⟨e.1,e.2.1⟩
structure JZ(X:Cx)(c:jf):Prop where
 kd:c.kind=1\/c.kind=2\/c.kind=3\/c.kind=4\/c.kind=5
 ad:(c.kind=1->Cx.lV c=false)->c.kind≠4->c.kind≠5->X.F c.iS
 un:c.kind=5->X.Sy c.unit
 nl:c.q.nodes.length<=100
theorem Qr(h:iN w aY t p qb X V)(d:100<=t)(A:mD X)(D:c∈X.dd)(i:JZ X c):ib 296 #[ptr p,ptr (qb c.gH)] w λW w'=>W=gS/\CS w aY t p qb (X.lT c) w':=by
 obtain⟨cv,k⟩:=h.r.a c D;have e0:=k.cellAt 0 rfl;have lq:=k.lt;by_cases y:c.kind=5
 .have F:=fu (Kg h A D (i.un y));have H:X.lT c=X.kF c:=by unfold Cx.lT;rw[aE y]
  rw[H];rw[y]at e0;clear h k A i;generalize qb c.gH=q at*;go_enter func296,ntmps296;go_wp2_with(go_at_call 92;refine ix F λw3 F=>?_);go_end0;exact⟨rfl,F⟩
 have T:=fu (pU k i.nl);have a0:(c.kind==5)=false:=iG y;have H:X.lT c=if Cx.lV c then X else X.dO c:=by unfold Cx.lT;rw[az y]
 rw[H]
 cases L:Cx.lV c with
 |true=>rw[L]at T;have HF:=fu (CS.E (w':=w) ⟨V,h⟩ (Bl.refl w));clear h k A i H;generalize qb c.gH=q at*;go_enter func296,ntmps296;go_wp2_with(go_at_call 94;refine gF T λw3 Q=>?_;have e3:=Q.symm;clear Q;subst e3);go_end0;exact⟨rfl,HF⟩
 |false=>
  rw[L]at T;have HD:Hid (ib 89 #[ptr p,ptr (qb c.gH)] w λW w'=>W=gS/\CS w aY t p qb (X.dO c) w'):=by
   obtain k1|k1|k1|k1|k1:=i.kd
   .exact CJ h d A D (i.ad (λ_=>L) C y) (.inl k1)
   .exact NJ h d A D (i.ad (λ_=>L) C y) k1
   .exact CJ h d A D (i.ad (λ_=>L) C y) (.inr k1)
   .exact L9 h d A D k1
   exact absurd k1 y
  clear h k A i H;generalize qb c.gH=q at*;go_enter func296,ntmps296;go_wp2_with(first|(go_at_call 94;refine gF T λw3 Q=>?_;have e3:=Q.symm;clear Q;subst e3)|(go_at_call 89;refine ix HD λw3 F=>?_));go_end0;exact⟨rfl,F⟩
end
structure Ov(k:Nat)(Z Z':Cx):Prop where
 n:Z'.n=Z.n
 m:Z'.m=Z.m
 vo:Z'.vo=Z.vo
 ce:Z'.ce=Z.ce
 lay:Z'.lay=Z.lay
 ep:Z'.c=Z.c
 kH:Z'.kH=Z.kH
 res:Z'.res.length=Z.res.length
 a0:Z.iu<=Z'.iu
 a1:Z'.iu<=Z.iu+1
 len:Z'.dd.length<=Z.dd.length
 mem:∀d∈Z.dd,d.gH≠k->d∈Z'.dd
def Ov.refl(k)(Z):Ov k Z Z:=⟨rfl,rfl,rfl,rfl,rfl,rfl,rfl,rfl,iI,C,jc,λ_ h _=>h⟩
def Ov.qF(Z)(c)(nodes)(kd pl)(u):Ov c.gH Z (Z.qF c nodes kd pl u):=by
 refine⟨rfl,rfl,rfl,rfl,rfl,rfl,rfl,rfl,?_,?_,?_,λd y i=>?_⟩
 .show Z.iu<=Z.iu+1;omega
 .exact iI
 .show(List.map _ _).length<=_;simp
 exact aD.2 ⟨d,y,by rw[az i]⟩
def Ov.fin(Z)(c)(r):Ov c.gH Z (Z.fin c r):=by
 refine⟨rfl,rfl,rfl,rfl,rfl,rfl,rfl,?_,iI,?_,bF _ _,λd y i=>?_⟩
 .show(Z.res.set _ _).length=_;simp
 .show Z.iu<=Z.iu+1;omega
 exact aU.2 ⟨y,iG i⟩
def Ov.lT(Z)(c):Ov c.gH Z (Z.lT c):=by
 unfold Cx.lT;split
 .unfold Cx.kF;split
  .split
   .exact Ov.fin Z c _
   exact Ov.refl _ Z
  exact Ov.fin Z c _
 split
 .exact Ov.refl _ Z
 unfold Cx.dO;split
 .exact Ov.qF Z {c with iR:=c.gZ,iA:=0} _ _ _ _
 split
 .exact Ov.qF Z c _ _ _ _
 split
 .exact Ov.qF Z {c with e:=⟨1,0,[]⟩} _ _ _ _
 exact Ov.refl _ Z
structure Si(Y Z:Cx)(j:Nat)(rest:List jf):Prop where
 n:Z.n=Y.n
 m:Z.m=Y.m
 vo:Z.vo=Y.vo
 ce:Z.ce=Y.ce
 lay:Z.lay=Y.lay
 ep:Z.c=Y.c
 kH:Z.kH=Y.kH
 res:Z.res.length=Y.res.length
 a0:Y.iu<=Z.iu
 a1:Z.iu<=Y.iu+j
 len:Z.dd.length<=Y.dd.length
 mem:∀d∈rest,d∈Z.dd
def Si.step{rest:List jf}(h:Si Y Z j (c::rest))(y:∀d∈rest,d.gH≠c.gH):Si Y (Z.lT c) (j+1) rest:=by have k:=Ov.lT Z c;exact⟨k.n.H h.n,k.m.H h.m,k.vo.H h.vo,k.ce.H h.ce,k.lay.H h.lay,k.ep.H h.ep,k.kH.H h.kH,k.res.H h.res,bt h.a0 k.a0,by have:=k.a1;have:=h.a1;omega,aF k.len h.len,λd i=>k.mem d (h.mem d (aX _ i)) (y d i)⟩
def Si.OJ{rest:List jf}(h:Si Y Z j rest)(d:mD Y)(i:j<=50)(y:Y.iu+100<=1000000000000000):mD Z:=
 ⟨by rw[h.n,h.m,h.vo,h.ce];exact d.mI,by rw[h.lay,h.n];exact d.ll,by rw[h.lay];exact d.ne,bt d.a0 h.a0,gI h.a1⟩
def Si.Vp{rest:List jf}(h:Si Y Z j rest)(d:JZ Y c):JZ Z c:=
 ⟨d.kd,λi y A=>by have:=d.ad i y A;unfold Cx.F at this|-;rw[h.n,h.ce];exact this,λi=>by have:=d.un i;unfold Cx.Sy at this|-;rw[h.n,h.m];exact this,d.nl⟩
section
variable{w:World}
def iN.SS(h:iN w aY t p qb X V)(e)(l)(lv)(d:pj w aY (t+3) lv l):iN ((((w.setCell (U p 5) (I e)).setCell (U p 6) lv).setCell (U p 53) (.bool false)).setCell (U p 54) (.bool false)) aY t p qb {X with c:=e,lay:=l,wb:=false,wl:=false} {V with lv:=lv}:=
 h.tB ((((((bz.refl (λb=>b=p) w).setCell (U p 5) (.inl rfl) _).setCell (U p 6) (.inl rfl) _).setCell (U p 53) (.inl rfl) _).setCell (U p 54) (.inl rfl) _)) (iU 54 _ _ _ (iU 53 _ _ _ (iU 6 _ _ _ (iU 5 _ w _ h.hp)))) ⟨d,h.r.res,h.r.tb,h.r.mp,h.r.bo,h.r.bn,h.r.pr,h.r.sl,h.r.vt,h.r.bg,h.r.b,h.r.a,h.r.pd.gH,h.r.pd.lt,h.r.pd.im,h.r.pd.a⟩
end
end Go.Proofs.YtbghhbpacijmmaaGreat
