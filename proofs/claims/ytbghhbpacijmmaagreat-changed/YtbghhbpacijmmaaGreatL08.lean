import Derived.Shelf.Abstract
import Derived.Deep.MidRow
import Derived.BigQuiet
import Derived.Test.YtbghhbpacijmmaaGreatL07
open Go.Proofs.Tryz
namespace Go.Proofs.YtbghhbpacijmmaaGreat
set_option maxRecDepth 99999
set_option maxHeartbeats 0
set_option linter.defProp false
set_option linter.unusedVariables false
open Go.RowKit Go.Maps Go.Shelf
open Go.ChangeMaps (setBlock)
attribute [local go_sem ↓] Go.wp_at_zero Go.wp_at_succ
variable {gH gI qb:Nat->Nat} {zz:List (Int×Vo)} {t p b gm n j N g r:Nat} {w' w1:World} {l:List Ae} {c c':jz} {X X' Y Z:Cx} {V V':CV} {cv cv':kM} {M:Int->Int} {v:Value} {R:List (List Int)} {sn:Array Nat} {P:Ae->Bool} {us vs:List Int} {e:Ae} {u:Int} {cs:List Value} {S:Nat->Prop}
def Tl{w:World}{bm clk:Nat}{l1 l2:List Ae}(ty)(i:w.heap[bm]?=some (.map (iu (l1++e::l2)) clk))(y:∀x∈l1,x.k≠e.k)(h:∀x∈l2,x.k≠e.k):(Builtin.delete_ #[104,3] ty #[.map (some bm),I e.k]).run prog w=.ok (.tuple #[]) (setBlock w bm (.map (iu (l1++l2)) clk)):=by
 have A:=fa (w:=w) underlying3 (Ul y h);have F:=eW (P:=prog) (w:=w) (k:= I e.k) underlying3 um (iu (l1++e::l2)).isEmpty 9999;simp[Builtin.delete_,Sem.run_bind,Result.andThen,aI i,F,A,Z7 _ i,setBlock,Qi]
def uW(l:List Ae)(sn:Array Nat)(P:Ae->Bool):List Ae:=l.filter λe=> !(sn.contains e.bo&&P e)
def Je(l)(P):uW l #[] P=l:=by unfold uW;simp
theorem Vp(i:(l.map (·.bo)).Nodup){x y:Ae}(A:x∈l)(F:y∈l)(h:x.bo=y.bo):x=y:=by
 induction l with
 |nil=>simp at A
 |cons z l H=>
  rw[bj,bY]at i;obtain rfl|hx':=bh.1 A<;>obtain rfl|hy':=bh.1 F
  .rfl
  .exact absurd (aD.2 ⟨y,hy',h.symm⟩) i.1
  all_goals simp_all
def MX(i:(l.map (·.bo)).Nodup)(y:e∈l)(A:P e=false):uW l (sn.push e.bo) P=uW l sn P:=by
 refine dH λx F=>?_;by_cases h:x.bo=e.bo
 .rw[Vp i F y h,A];simp
 simp[h]
def Md(h:(l.map (·.bo)).Nodup)(i:e∈l)(y:P e=true)(A:e.bo∉sn):∃l1 l2,uW l sn P=l1++e::l2/\uW l (sn.push e.bo) P=l1++l2:=by
 obtain⟨a,b,rfl⟩:=fe i;refine⟨uW a sn P,uW b sn P,?_,?_⟩
 .unfold uW;rw[cz,cT,aE (nN A)]
 unfold uW;rw[cz,cT,az (nN y)];rw[aZ,bj,cX,bY]at h;congr 1<;>refine dH λx F=>?_
 .simp_all
 simp_all
def Oj(h:∀e∈uW l sn P,e.bo∈sn):uW l sn P=l.filter λe=> !P e:=by
 refine dH λx y=>?_;by_cases i:x.bo∈sn
 .simp[i]
 exact absurd (h x (aU.2 ⟨y,nN i⟩)) i
def JS(l:List Ae)(sn:Array Nat):Nat:=(l.filter λe=> !sn.contains e.bo).length
def AI(h:e∈l)(i:e.bo∉sn):JS l (sn.push e.bo)<JS l sn:=by
 unfold JS;have y:l.filter (λx=> !(sn.push e.bo).contains x.bo)=(l.filter λx=> !sn.contains x.bo).filter λx=>x.bo !=e.bo:=by rw[List.filter_filter];refine dH λx _=>?_;by_cases A:x.bo=e.bo;all_goals simp[A]
 rw[y];have F:e∈l.filter λx=> !sn.contains x.bo:=aU.2 ⟨h,nN i⟩;have:=List.length_filter_lt_length_iff_exists (p:=λx:Ae=>x.bo !=e.bo) (l:=l.filter λx=> !sn.contains x.bo);exact this.2 ⟨e,F,gG⟩
section
variable{P:Program}(w:World){ops:Array Oper}{rest:List Oper}{o:Oper}{a:Act}{Q:Exit->Act->World->Prop}
def AY(hg:o.guard=none)(it)(A:o.op=Op.next it false)(r gm clk)(l)(sn)(F:a.eval it= O r)(hi:w.heap[r]?=some (.mapIter (some gm) clk sn clk))(hm:w.heap[gm]?=some (.map (iu l) clk))(a1:r≠gm)(a2:∀e∈l,e.bo<clk)(a3:(l.map (·.bo)).Nodup)(i:(∀e∈l,e.bo∈sn)->wpList P ops Q rest (a.put o.dst (.tuple #[.bool false])) w)(y:∀(e:Ae) (W:World),e∈l->e.bo∉sn->W.heap[r]?=some (.mapIter (some gm) clk (sn.push e.bo) clk)->gL (λb=>b=r) w W->(Instr.entry (O r)).run P W=.ok (.tuple #[I e.k,e.v]) W->
 wpList P ops Q rest (a.put o.dst (.tuple #[.bool true,I e.k,e.v])) W):wpList P ops Q (o::rest) a w:=by
 refine wpList_plain hg λK' L=>?_;unfold Oper.wp;have e1:(iu l).toList=l.map Ae.A:=by simp[iu]
 have a4:∀x∈(iu l).toList,x.born<clk:=λx hx=>by obtain⟨e,T,rfl⟩:=lQ hx;exact a2 e T
 have a5:((iu l).toList.map (·.born)).Nodup:=by rw[e1,br];exact a3
 obtain⟨h0,h⟩|⟨x,T,w1,hw,h⟩:=run_next_at (P:=P) w o.type r gm clk clk sn (iu l) clk hi hm a4 jl
 .simp[execOp,A,F,h,Result.andThen];refine L _ _ (i λe T=>?_);have h1:(iu l).filter (λx=> !sn.contains x.born)=#[]:=gf.1 h0;have h2:=fP.1 h1 e.A (by rw[<-Array.mem_toList_iff,e1];exact aD.2 ⟨e,T,rfl⟩);simpa [Ae.A]using h2
 simp[execOp,A,F,h,Result.andThen];obtain⟨a0,a6⟩:=mem_left T;obtain⟨e,a7,rfl⟩:=lQ a0;have ja:r<w.heap.size:=(ae.1 hi).1;have hh:w1.heap=w.heap:=by obtain rfl|rfl:=hw<;>rfl
 have hI:(setBlock w1 r (.mapIter (some gm) clk (sn.push e.bo) clk)).heap[r]?=some (.mapIter (some gm) clk (sn.push e.bo) clk):=by simp[setBlock,hh,ja]
 have hM:(setBlock w1 r (.mapIter (some gm) clk (sn.push e.bo) clk)).heap[gm]?=some (.map (iu l) clk):=by simp[setBlock,hh,a1,hm]
 refine L _ _ (y e _ a7 (by simpa [Ae.A]using a6) hI ?_ (run_entry_at _ r gm clk _ (iu l) clk e.A hI hM a0 a5));obtain rfl|rfl:=hw
 .exact oX _ _ _
 exact(gL.B (jC.drew)).H (oX _ _ _)
end
theorem Qr(w)(g:Nat)(caps)(eg:∀a1 w,(callFunc g a1).run prog w=.ok (.enter g a1) w)(gm clk)(l0)(hm:w.heap[gm]?=some (.map (iu l0) clk))(a3:∀e∈l0,e.bo<clk)(a4:(l0.map (·.bo)).Nodup)(ad:(l0.map (·.k)).Nodup)(hv:∀e∈l0,∃(x0 x1 x2:Int) (va:Option Addr) (vn vc:Nat),e.v=.agg #[I x0,I x1,I x2,gN va vn vc])(P:Ae->Bool)(a0:∀W e,e∈l0->gL (λb=>b=gm) w W->iB g (#[I e.k,e.v]++caps) W λen w'=>en=gX (.bool (P e))/\Bl W w'):iB 294 #[.map (some gm),.func (.func g) #[] caps] w λen w'=>en=iw/\w'.heap[gm]?=some (.map (iu (l0.filter λe=> !P e)) clk)/\gL (λb=>b=gm) w w':=by
 have HD:Aside _:=a0;let⟨HM,ap,a5⟩:=iz hm a3 a4;let⟨aq,Hv⟩:=gO ad hv;have lm:=(ae.1 hm).1;have y:Hid (∀x∈(iu l0).toList,x.born<clk):=λx hx=>by obtain⟨e,he,rfl⟩:=lQ hx;exact a3 e he
 have ar:Hid (((iu l0).toList.map (·.born)).Nodup):=by
  have e1:(iu l0).toList=l0.map Ae.A:=by simp[iu]
  unfold Hid;rw[e1,br];exact a4
 clear a0 hm a3 a4 ad hv;go_enter func294,ntmps294;go_wp2_with(at_range;refine j9 _ rfl _ 104 rfl 3 222 underlying104 gm (iu l0) clk rfl HM y ar ?_;intro hI;have HI:=gP hI;clear hI);go_frame;go_loopw[8](λ_ wr=>∃sn:Array Nat,Hid (wr.heap[w.heap.size]?=some (.mapIter (some gm) clk sn clk))/\Hid (wr.heap[gm]?=some (.map (iu (uW l0 sn P)) clk))/\Hid (gL (λb=>b=gm) w wr)) λ_ wr=>JS l0 (wr.iterSeen w.heap.size)
 case atStart=>exact⟨#[],HI.it,by rw[Je];exact HI.mp,gL.B (jC.alloc _)⟩
 let⟨sn,Hi,Hm,HO⟩:=hrel;have a2:Hid (∀e∈uW l0 sn P,e∈l0):=λe he=>(aU.1 he).1;have av:w.heap.size<wr.heap.size:=(ae.1 Hi).1;go_wp2_with(at_next;refine AY _ rfl _ rfl w.heap.size gm clk (uW l0 sn P) sn rfl Hi Hm C (λe he=>ap.o e (a2 e he)) (a5.sublist (List.filter_sublist.map _)) ?_ ?_)
 .intro ag;have hE:=Oj ag;go_wp2;go_end0;exact⟨rfl,jJ hE Hm,HO⟩
 intro e W he ai a6 hO au;have a7:=a2 e he;let⟨x0,x1,x2,va,vn,vc,hx⟩:=Hv e a7;have a8:Hid (gL (λb=>b=gm) w W):=HO.wY hO λb hb=>C;have F:Hid (W.heap[gm]?=some (.map (iu (uW l0 sn P)) clk)):=(hO.block gm (gS HO.size) C).H Hm;let⟨a9,L,aa⟩:=iz a6 a7 ai;rw[hx]at au|-;have bA:=(Bl.refl W).alloc (im #[I x0,I x1,I x2,gN va vn vc] 222);have hc:=HD (W.alloc (im #[I x0,I x1,I x2,gN va vn vc] 222)) e a7 (a8.H (gL.B bA));rw[hx]at hc;have T:w.heap.size<W.heap.size:=(ae.1 a6).1;have ab:gm<W.heap.size:=(ae.1 F).1;clear hO a6 he ai
 cases hp:P e<;>rw[hp]at hc
 .have Hc:=gP hc;clear hc;go_wp2_with(first|(go_at_fn g;refine gT Hc λw2 y=>?_;have i:=gP (bA.H y);clear y)|go_in);go_roundw
  case rel=>exact⟨sn.push e.bo,(i.heap T).H a9,by rw[MX a5.o L.o hp];exact(i.heap ab).H F,a8.H (gL.B i)⟩
  have e1:w2.iterSeen w.heap.size=sn.push e.bo:=by unfold World.iterSeen;rw[(i.heap T).H a9.o]
  have e2:wr.iterSeen w.heap.size=sn:=by unfold World.iterSeen;rw[Hi.o]
  rw[e1,e2];exact AI L aa
 let⟨l1,l2,h1,h2⟩:=Md (sn:=sn) a5 L hp aa;let⟨Hc,H2⟩:=gO hc h2;have A:Hid (((l1++e::l2).map (·.k)).Nodup):=by unfold Hid;rw[<-h1];exact aq.sublist (List.filter_sublist.map _)
 have ak:Hid ((∀x∈l1,x.k≠e.k)/\∀x∈l2,x.k≠e.k):=by have A:=A.o;rw[aZ,bj,cX,bY]at A;exact⟨λx hx=>A.2.2 _ (aD.2 ⟨x,hx,rfl⟩) _ aN,λx hx h=>A.2.1.1 (aD.2 ⟨x,hx,h⟩)⟩
 rw[h1]at F;clear hc h1 h2;go_wp2_with(first|(go_at_fn g;refine gT Hc λw2 y=>?_;have ac:=bA.H y;have aw:=λty=>Tl (e:=e) ty ((ac.heap ab).H F) ak.1 ak.2;have i:=gP ac;clear y ac)|go_in);have O3:gL (λb=>b=gm) w2 (setBlock w2 gm (.map (iu (l1++l2)) clk)):=j7 _ _ _;have al:=af T i.lt;have am:=af ab i.lt;have an:(setBlock w2 gm (.map (iu (l1++l2)) clk)).heap[w.heap.size]?=some (.mapIter (some gm) clk (sn.push e.bo) clk):=(O3.block _ al C).H ((i.heap T).H a9);go_roundw
 case rel=>exact⟨sn.push e.bo,an,by rw[H2.o];exact nW am _,(a8.H (gL.B i)).H O3⟩
 have e1:(setBlock w2 gm (.map (iu (l1++l2)) clk)).iterSeen w.heap.size=sn.push e.bo:=by unfold World.iterSeen;rw[an]
 have e2:wr.iterSeen w.heap.size=sn:=by unfold World.iterSeen;rw[Hi.o]
 rw[e1,e2];exact AI L aa
def sT(b)(es)(clk)(w)(h:w.heap[b]?=some (.map es clk)):iB 293 #[.map (some b)] w λe w'=>e=gX (.map (some w.heap.size))/\w'=w.alloc (.map es clk):=AnyW.maps_Clone il.OM b es clk w h
def vx(w):iB 293 #[.map none] w λe w'=>e=gX (.map none)/\w'=w:=AnyW.maps_Clone_nil il.OM w
def yZ(fv)(w):Calls prog 294 #[.map none,fv] w λe w'=>e=iw/\Bl w w':=by have i:=run_range_nilMap (P:=prog) w 104 _ _ underlying104;have y:∀h,(Instr.next _ false h).run prog _=_:=λh=>run_next_nilMap (P:=prog) w h 0 0 #[];go_wp2;refine Z6 1 ?_;rw[ZZ];go_wp2;go_end0;exact⟨rfl,jC.alloc _⟩
theorem E2(h:l.length=zz.length)(P)(Q)(F:∀(i:Nat) e z,l[i]?=some e->zz[i]?=some z->P e=Q z)(R:Ae->Int×Vo->Prop)(L:∀(i:Nat) e z,l[i]?=some e->zz[i]?=some z->R e z):(l.filter P).length=(zz.filter Q).length/\∀(i:Nat) e z,(l.filter P)[i]?=some e->(zz.filter Q)[i]?=some z->R e z:=by
 induction l generalizing zz with
 |nil=>
  cases zz with
  |nil=>exact⟨rfl,λi e z he=>mi he⟩
  |cons z zz=>simp at h
 |cons x l ih=>
  cases zz with
  |nil=>simp at h
  |cons z zz=>
   let⟨T,W⟩:=ih (zz:=zz) (iU h) (λi e H y A=>F (i+1) e H (iU y) (iU A)) λi e H y A=>L (i+1) e H (iU y) (iU A);have e0:=F 0 x z rfl rfl;have r0:=L 0 x z rfl rfl;rw[cT,cT,e0]
   cases Q z
   .exact⟨T,W⟩
   refine⟨nN T,λi e H y A=>?_⟩
   cases i with
   |zero=>simp at y A;subst y;subst A;exact r0
   |succ i=>exact W i e H (iU y) (iU A)
def Mm.filter{w:World}{y clk:Nat}(h:Mm w gm clk l zz (nY.ev w gH t))(F:Bl w w')(P)(Q)(A:∀(i:Nat) e z,l[i]?=some e->zz[i]?=some z->P e=Q z)(H:w'.heap[y]?=some (.map (iu (l.filter P)) clk)):Mm w' y clk (l.filter P) (zz.filter Q) (nY.ev w' gH t):=by obtain⟨L,T⟩:=E2 h.len P Q A _ (h.bl F).jU;exact⟨H,L,T,λe W=>h.bo e (aU.1 W).1,h.nd.sublist (List.filter_sublist.map _),h.ky.sublist (List.filter_sublist.map _)⟩
def Mm.Vq{w:World}{clk:Nat}(h:Mm w gm clk l zz (nY.ev w gH t)):∀e∈l,∃(y A F:Int) (H:Option Addr) (L Q:Nat),e.v=.agg #[I y,I A,I F,gN H L Q]:=λe T=>by obtain⟨i,W,rfl⟩:=aV.1 T;have hl:=h.len;obtain⟨_,s,h3,h4⟩:=h.jU i l[i] zz[i] (ah W) (ah C);obtain⟨a,c,rfl⟩:=h4.B;simp_all
def Mm.UT{w:World}{clk:Nat}(h:Mm w gm clk l zz (nY.ev w gH t)):(l.map (·.k)).Nodup:=by
 have:l.map (·.k)=zz.map (·.1):=by
  refine bJ λi=>?_;rw[aK,aK];have A:=h.len;by_cases y:i<l.length
  .have:=h.jU i l[i] zz[i] (ah y) (ah C);rw[ah y,ah C];simp_all
  simp_all
 rw[this];exact h.ky
def zY(f:Nat)(caps:Array Value)(w:World)(gH:Nat->Nat)(t:Nat)(zz:List (Int×Vo))(Q:Int×Vo->Bool):Prop:=
 ∀W k v z,Bl w W->z∈zz->k=z.1->nY.ev w gH t z.2 v->Calls prog f (#[I k,v]++caps) W λen w'=>en=gX (.bool (!Q z))/\Bl W w'
def uw{w:World}{clk:Nat}(h:Mm w gm clk l zz (nY.ev w gH t))(A:Bl w w1)(hg:w.heap.size<=g)(hm:w1.heap[g]?=some (.map (iu l) clk))(f:Nat)(caps)(ef:∀y w,(callFunc f y).run prog w=.ok (.enter f y) w)(Q)(hL:zY f caps w gH t zz Q):iB 294 #[.map (some g),.func (.func f) #[] caps] w1 λen w'=>en=iw/\qx w' gH t (.map (some g)) (zz.filter Q)/\Bl w w':=by
 have a0:∀e∈l,∃z∈zz,e.k=z.1/\nY.ev w gH t z.2 e.v:=λe he=>by obtain⟨i,hi,rfl⟩:=aV.1 he;have hl:=h.len;have H:i<zz.length:=C;have:=h.jU i l[i] zz[i] (ah hi) (ah H);exact⟨_,aL H,this⟩
 let⟨vf,F⟩:=DG w gH t;have hP:∀(i:Nat) e z,l[i]?=some e->zz[i]?=some z->Q (e.k,vf e.v)=Q z:=λi e z T h2=>by obtain⟨k1,k2⟩:=h.jU i e z T h2;rw[F _ _ k2,k1]
 refine(Qr w1 f caps ef g clk l hm h.bo h.nd h.UT h.Vq (λe=> !Q (e.k,vf e.v)) λW e he hO=>?_).L ?_
 .let⟨z,H,k1,k2⟩:=a0 e he;have hW:Bl w W:=A.A hO λb e=>C;rw[F _ _ k2,show(e.k,z.2)=z from Prod.ext k1 rfl];exact hL W e.k e.v z hW H k1 k2
 rintro en w'⟨rfl,T,h2⟩;have hW:Bl w w':=A.A h2 λb e=>C;simp only[Bool.not_not]at T;exact⟨rfl,.inr ⟨g,clk,_,rfl,h.filter hW _ Q hP T⟩,hW⟩
def Mt(k x0 x1 x2)(va)(vn vc)(w):Calls prog 299 #[I k,.agg #[I x0,I x1,I x2,gN va vn vc]] w λh w'=>h=gX (.bool (!(x0==1)))/\Bl w w':=by go_wp2;go_ret;exact⟨by simp[bne],(Bl.refl w).alloc _⟩
def Er{w:World}(zz):zY 299 #[] w gH t zz (λz=>z.2.wh==1):=λW k v z _ _ _⟨s,h,i⟩=>by obtain⟨a,c,rfl⟩:=i.B;subst h;exact Mt _ _ _ _ _ _ _ W
theorem FT{w:World}(h:qx w gH t v zz):iB 279 #[v] w λT w'=>∃F,T=gX F/\qx w' gH t F (nA zz)/\Bl w w':=by
 obtain⟨rfl,rfl⟩|⟨gm,clk,l,rfl,h⟩:=h
 .let⟨i,y⟩:=gO vx yZ;go_enter func279,ntmps279;go_wp2_with(first|(go_at_call 293;refine gT (i _) λw' H=>?_;have W:=H.symm;clear H;subst W)|(go_at_call 294;refine iO (y _ _) λw2 A=>?_));go_ret;exact⟨_,rfl,.inl ⟨rfl,rfl⟩,A⟩
 obtain⟨i,y⟩:=gO (sT gm _ clk w h.mp) (uw h ((Bl.refl w).alloc _) jl (ao w _) 299 #[] (enters_of func299 ix rfl) _ (Er (gH:=gH) (t:=t) zz));clear h;go_enter func279,ntmps279;go_wp2_with(first|(go_at_call 293;refine i.L ?_;rintro e w'⟨rfl,rfl⟩)|(go_at_call 294;refine y.L ?_;rintro e w2⟨rfl,L,Q⟩;let⟨HA,A⟩:=gO L Q;clear Q L));go_ret;exact⟨_,rfl,HA,A⟩
def G7(k x0 x1 x2 b)(va)(vn vc)(w)(g)(A:w.cell? (U g 0)=some (I b))(F:g<w.heap.size):Calls prog 302 #[I k,.agg #[I x0,I x1,I x2,gN va vn vc],O g] w λi w'=>i=gX (.bool (!decide (x2<=b)))/\Bl w w':=by
 have y:(!decide (x2<=b))=decide (b<x2):=by
  by_cases h:x2<=b
  .simp[h]
  simp[h];omega
 rw[y];go_wp2;go_ret;exact⟨gG,jC.alloc _⟩
theorem Mn{w:World}(h:qx w gH t v zz)(b):iB 281 #[I b,v] w λen w'=>∃v',en=gX v'/\qx w' gH t v' (zU b zz)/\Bl w w':=by
 let⟨W,F⟩:=gJ (w.alloc (im #[I b] 3));have y:=(Bl.refl w).alloc (im #[I b] 3);have A:=ao w (im #[I b] 3);rw[F]at y A;have r0:W.cell? (U w.heap.size 0)=some (I b):=ax W w.heap.size 0 _ 3 (0,0) A;have lr:=(ae.1 A).1;let⟨HW,BW⟩:=gO F y;have hT:=h.bl y;clear F y A h;obtain⟨rfl,rfl⟩|⟨gm,clk,l,rfl,h⟩:=hT
 .let⟨L,Q⟩:=gO vx yZ;go_enter func281,ntmps281;go_upto_region 1 with fail;rw[HW.o];go_wp2_with(first|(go_at_call 293;refine gT (L _) λw' h3=>?_;have e3:=h3.symm;clear h3;subst e3)|(go_at_call 294;refine iO (Q _ _) λw2 T=>?_));go_ret;exact⟨_,rfl,.inl ⟨rfl,rfl⟩,BW.H T⟩
 have L:=gP (sT gm _ clk W h.mp);have hL:zY 302 #[O w.heap.size] W gH t zz (λz=>decide (z.2.ba<=b)):=λW2 k v z i _ _⟨s,e1,e2⟩=>by obtain⟨a,c,rfl⟩:=e2.B;subst e1;exact G7 _ _ _ _ b _ _ _ W2 w.heap.size ((i.cell lr).H r0) (af lr i.lt)
 have Q:=gP (uw h ((Bl.refl W).alloc _) jl (ao W _) 302 _ (enters_of func302 ix rfl) _ hL);clear h hL;go_enter func281,ntmps281;go_upto_region 1 with fail;rw[HW.o];go_wp2_with(first|(go_at_call 293;refine L.L ?_;rintro e w'⟨rfl,rfl⟩)|(go_at_call 294;refine Q.L ?_;rintro e w2⟨rfl,ha,hb⟩;let⟨HA,T⟩:=gO ha hb;clear hb ha));go_ret;exact⟨_,rfl,HA,BW.H T⟩
def Rd.mu{w:World}{e e':TypeId}{i:Array Value}{f:Nat×Nat}(h:Rd w gH t e v cs)(A:gL (λb=>b=g) w w')(hg:w.heap[g]?=some (im i e' f))(F:e'≠e):Rd w' gH t e v cs:=by
 obtain h|⟨b,o,c,L,fr,Q,T,y,W⟩:=h
 .exact .inl h
 refine .inr ⟨b,o,c,L,fr,Q,T,(A.block b (ae.1 y).1 λe1=>?_).H y,W⟩;simp_all
def WZ(w):(zeroValue 3).run prog w=.ok (I 0) w:=rfl
def Mi(w:World)(b n:Nat)(M:Int->Int):Prop:=
 ∃D:DataW Value,w.ownsMap prog 3 Rv b n D/\IsMap D/\∀k,D.atKey (.int .i64 k) (.held (.int .i64 0))=.held (.int .i64 (M k))
def Mi.lt{w:World}(h:Mi w b n M):b<w.heap.size:=by let⟨D,i,_⟩:=h;exact i.lt
def Mi.oU{w:World}(h:Mi w b n M)(e:w'.heap[b]?=w.heap[b]?):Mi w' b n M:=by obtain⟨D,⟨y,i,A,F⟩,H⟩:=h;exact⟨D,⟨y,i,e.H A,F⟩,H⟩
def Mi.only{w:World}(h:Mi w b n M)(i:gL S w w')(y:¬S b):Mi w' b n M:=h.oU (i.block b h.lt y)
def Mi.bl{w:World}(h:Mi w b n M)(i:Bl w w'):Mi w' b n M:=h.oU (i.heap h.lt)
def Mi.DJ(w:World):Mi (w.alloc (.map #[] 0)) w.heap.size 0 (λ_=>0):=
 ⟨.map [],World.ownsMap_made w prog 3 Rv,⟨_,rfl⟩,λ_=>rfl⟩
def Mi.qq{w:World}(h:Mi w b n M)(k)(y:(Lit.int .i64 k).wf=true):(Instr.lookup 371 (.map (some b)) (I k) false).run prog w=.ok (I (M k)) w:=by let⟨D,A,H,F⟩:=h;obtain⟨v,ps,L,i⟩:=A.lookup MA underlying371 (WZ w) rfl (keyOf_int_mk underlying3 y);rw[F]at i;simp only[Rv,aJ,Prod.mk.injEq,DataW.held.injEq]at i;simp_all
def Mi.put{w:World}(h:Mi w b n M)(k)(i:(Lit.int .i64 k).wf=true)(x)(A:n<maxLen):∃w',(Instr.mapUpdate 371 (.map (some b)) (I k) (I x)).run prog w=.ok () w'/\Mi w' b (n+1) (λj=>if j=k then x else M j)/\gL (λx=>x=b) w w':=by
 let⟨D,F,y,H⟩:=h;obtain⟨w',Q,T,W⟩:=F.update MA underlying371 A (keyOf_int_mk underlying3 i) rfl;refine⟨w',Q,⟨_,T,?_,λj=>?_⟩,(gL.A W).L λx _ e=>iU e⟩
 .obtain⟨es,rfl⟩:=y;exact⟨_,rfl⟩
 show _=DataW.held (I (if j=k then x else M j));by_cases e:j=k
 .subst e;rw[aE rfl,atKey_put_same y (MA.key (keyOf_int_mk underlying3 i))]
 rw[az e,atKey_put_other (iU e),H]
def tJ(b:Int)(l:List Vo):Nat:=(l.filter λv=>v.ba==b).length
def L9(b)(v)(l):tJ b (v::l)=tJ b l+if v.ba=b then 1 else 0:=by unfold tJ;by_cases h:v.ba=b<;>simp[h]
def La{b:Int}{l1 l2:List Vo}(h:l1.Perm l2):tJ b l1=tJ b l2:=(h.filter _).length_eq
def Sv(b)(l):tJ b l<=l.length:=bF _ _
def RK(b)(zz:List (Int×Vo)):tJ b (zz.map (·.2))=(zz.filter λy=>y.2.ba==b).length:=by unfold tJ;rw[dZ,ay];rfl
theorem SS(k x0 x1 x2)(nP:Nat)(va)(vn vc)(w)(g3 g6 b n)(M)(i:Mi w b n M)(A:(Lit.int .i64 x2).wf=true)(Q:w.cell? (U g3 0)=some (I nP))(T:w.cell? (U g6 0)=some (.map (some b)))(W:g3<w.heap.size)(l6:g6<w.heap.size):iB 292 #[I k,.agg #[I x0,I x1,I x2,gN va vn vc],O g6,O g3] w λF w'=>F=gX (.bool (!decide ((nP:Int)<=M x2)))/\Bl w w':=by
 have H:=(i.bl ((Bl.refl w).alloc (im #[I x0,I x1,I x2,gN va vn vc] 222))).qq x2 A;have L:(!decide ((nP:Int)<=M x2))=decide (M x2<nP):=by
  by_cases h:(nP:Int)<=M x2
  .simp[h]
  simp[h];omega
 rw[L];generalize M x2=y at*;clear i;go_enter func292,ntmps292;go_wp2;go_ret;exact⟨gG,jC.alloc _⟩
theorem IL{w:World}{clk:Nat}(h:Mm w gm clk l zz (nY.ev w gH t))(hB:∀z∈zz,mR z.2.val)(hW:∀z∈zz,(Lit.int .i64 z.2.ba).wf=true)(hl:zz.length<=100)(nP:Nat):Calls prog 274 #[.map (some gm),I nP] w λen w'=>∃(x0 x1:Int) (s:Value),en=gX (.tuple #[.agg #[I x0,I x1,I (sO zz nP).1,s],.bool (decide (0<(sO zz nP).1))])/\Rd w' gH t 5 s ((sO zz nP).2.map B8)/\Bl w w':=by
 let⟨f,hf⟩:=DG w gH t;let⟨HV,HE,Hf⟩:=iz (h.XQ hf) h.XP hf;have ad:Hid (∀A∈zz.map (·.2),(Lit.int .i64 A.ba).wf=true):=λA hA=>by obtain⟨z,hz,rfl⟩:=aD.1 hA;exact hW z hz
 obtain⟨bo,nd⟩:=h.born;let⟨W0,T⟩:=gJ (((RW w nP).alloc (.map #[] 0)).alloc (im #[.map (some (w.heap.size+1+1))] 371));have bW:Bl w W0:=by rw[<-T];exact(((jC.alloc _).alloc _).alloc _).alloc _
 have ag:Bl (w.alloc (im #[I nP] 3)) W0:=by rw[<-T];exact((jC.alloc _).alloc _).alloc _
 have a0:Bl (RW w nP) W0:=by rw[<-T];exact(jC.alloc _).alloc _
 have ai:Bl ((RW w nP).alloc (.map #[] 0)) W0:=by rw[<-T];exact jC.alloc _
 have k0:W0.heap[w.heap.size]?=some (im #[I nP] 3 (0,0)):=(ag.heap gG).H (ao w _);have k1:W0.heap[w.heap.size+1]?=some (im zV 222 (0,0)):=(a0.heap gG).H (by have:=ao (w.alloc (im #[I nP] 3)) (im zV 222);simpa using this);have k2:Mi W0 (w.heap.size+1+1) 0 (λ_=>0):=by have:=(Mi.DJ (RW w nP)).bl ai;simpa using this
 have k3:W0.heap[w.heap.size+1+1+1]?=some (im #[.map (some (w.heap.size+1+1))] 371 (0,0)):=by have:=ao ((RW w nP).alloc (.map #[] 0)) (im #[.map (some (w.heap.size+1+1))] 371);rw[T]at this;simpa using this
 have hs:W0.heap.size=w.heap.size+1+1+1+1:=by rw[<-T];simp
 have b2:=gP (h.bl bW);have HM:=gP (h.bl bW).mp;have b3:=gP h;have bs:(Instr.makeMap 371 none).run prog (RW w nP)=_:=(show(Instr.makeMap 371 none).run prog (RW w nP)=.ok (.map (some (RW w nP).heap.size)) ((RW w nP).alloc (.map #[] 0))from by kernel_rfl);have bv:=(ae.1 h.mp).1;let⟨b4,b5,b6,K0⟩:=jR bo nd T k0;let⟨K1,K2,K3,BW⟩:=jR k1 k2 k3 bW;let⟨Hs,HB,b7,Hl⟩:=jR hs hB hW hl;have a6:Hid (∃b,sO zz nP=b):=⟨_,rfl⟩;obtain⟨bb,a1⟩:=a6.o;rw[a1];have a6:=gP a1;obtain⟨Q,F⟩:=bb;clear h bo nd hf hB hW hl T k0 k1 k2 k3 bW hs ag a0 ai a1;go_enter func274,ntmps274;go_upto_region 2 with fail;rw[b6.o];go_wp2_with(at_range;refine j9 _ rfl _ 104 rfl 3 222 underlying104 gm (iu l) clk rfl HM b4 b5 ?_;intro hI;have HI:=gP hI;clear hI);go_frame;go_loopw[15](λ_ wr=>∃(i:List MapEntry),Hid (Mi wr (w.heap.size+1+1) i.length λb=>tJ b (i.map λx=>f x.val))/\Hid (gL (λb=>b=w.heap.size+1+1) W0 wr)/\Hid (It wr W0.heap.size gm (iu l) clk i)) λ_ wr=>(iu l).size-(wr.iterSeen W0.heap.size).size
 case atStart=>exact⟨[],K2.bl (jC.alloc _),gL.B (jC.alloc _),HI⟩
 obtain⟨i,KM,KO,HJ⟩:=hrel;have r6:=(KO.cell (b:=w.heap.size+1+1+1) (o:=0) (gS Hs.o) C).H (ax W0 _ 0 _ 371 (0,0) K3);have r3:=(KO.cell (b:=w.heap.size) (o:=0) (gS Hs.o) C).H (ax W0 _ 0 _ 3 (0,0) K0);have b8:=gP ((KO.block (w.heap.size+1) (gS Hs.o) C).H K1);have ak:Hid (Bl w wr):=BW.A KO λb e=>C;have bw:=KO.size;go_wp2_with(at_next;refine kQ _ rfl _ rfl W0.heap.size gm clk (iu l) i rfl HJ ?_ ?_)
 .intro h0;have e0:(i.map λx=>f x.val).Perm (zz.map (·.2)):=by rw[<-HV.o];exact h0.map _
  have al:∀b,tJ b (i.map λx=>f x.val)=tJ b (zz.map (·.2)):=λb=>La e0;have a7:Mm wr gm clk l zz (nY.ev wr gH t):=b3.bl ak;have H1:=gP (sT gm _ clk wr a7.mp);have hL:zY 292 #[O (w.heap.size+1+1+1),O w.heap.size] wr gH t zz (λz=>decide (nP<=(zz.filter λy=>y.2.ba==z.2.ba).length)):=λW2 k v z a0 hz _⟨s,e1,e2⟩=>by obtain⟨a,c,rfl⟩:=e2.B;subst e1;have:=SS k z.2.wh z.2.pr z.2.ba nP a (z.2.val.map B8).length c W2 w.heap.size (w.heap.size+1+1+1) (w.heap.size+1+1) _ _ (KM.bl a0) (b7 z hz) ((a0.cell (gS Hs.o)).H r3) ((a0.cell (gS Hs.o)).H r6) (af (gS Hs.o) a0.lt) (af (gS Hs.o) a0.lt);refine this.L λen w'⟨h1,h2⟩=>⟨?_,h2⟩;rw[h1,al,RK];congr 3;simp
  have H2:=gP (uw a7 ((Bl.refl wr).alloc _) jl (ao wr _) 292 _ (enters_of func292 ix rfl) _ hL);have H3:Hid (∀W v,qx W gH t v (zz.filter λz=>decide (nP<=(zz.filter λy=>y.2.ba==z.2.ba).length))->Calls prog 277 #[v] W λen w'=>∃(x0 x1:Int) (sa:Option Addr) (sc:Nat),en=gX (.agg (ry x0 x1 Q sa F sc))/\Rd w' gH t 5 (lF sa F sc) (F.map B8)/\Bl W w'):=λW v hA=>by refine(rG hA λz hz=>HB.o z (aU.1 hz).1).L λen w'⟨x0,x1,s,h1,h2,h3⟩=>?_;have a1:jP (zz.filter λz=>decide (nP<=(zz.filter λy=>y.2.ba==z.2.ba).length))=(Q,F):=a6.o;rw[a1]at h1 h2;obtain⟨a,c,rfl⟩:=h2.B;rw[ay]at h1 h2;exact⟨x0,x1,a,c,h1,h2,h3⟩
  have am:w.heap.size+1<wr.heap.size:=gS Hs.o;clear a7 hL al e0 h0 HE HV ad;go_wp2_with(first|(go_at_call 293;refine H1.L ?_;rintro e w'⟨rfl,rfl⟩)|(go_at_call 294;refine H2.L ?_;rintro e w2⟨rfl,ha,hb⟩;let⟨HA,b9⟩:=gO ha hb;clear hb ha)|(go_at_call 277;refine(H3 _ _ HA).L ?_;rintro e w3⟨x0,x1,sa,sc,rfl,hr,hb⟩;have HR:=gP hr;have a8:=b9.H hb;have a2:=(a8.heap am).H b8;let⟨y0,y1,y2,y3,ly⟩:=rX a2;let⟨f0,f1,f2,f3⟩:=yo a2 0 1 2 3;obtain⟨HZ,OZ,ba,bc⟩:=jR (kA [I x0,I x1,I Q,gN sa F.length sc] 0 w3 _ a2) (jO (S:=λb=>b=w.heap.size+1) (.inl rfl) [I x0,I x1,I Q,gN sa F.length sc] 0 w3 (gL.refl _ w3)) (ak.H a8) a2;clear a8 hb hr a2));go_region;all_goals
   go_wp2;have bd:=(cL _ (im (ry x0 x1 Q sa F sc) 222) (ae.1 HZ).1).H HZ;let⟨q0,q1,q2,q3⟩:=lV bd 0 1 2 3 rfl;simp only[ku,yE]at q0 q1 q2 q3;refine aG (v:= .tuple #[.agg (ry x0 x1 Q sa F sc),.bool (decide (0<Q))]) (by simp[results,results274,go_sem,q0,q1,q2,q3]) rfl ?_;have be:Bl w (((ku w3 (w.heap.size+1) 0 [I x0,I x1,I Q,gN sa F.length sc]).alloc (im (ry x0 x1 Q sa F sc) 222)).drew):=((ba.A OZ λb e=>C).alloc _).drew;refine⟨x0,x1,_,rfl,?_,be⟩;exact(HR.mu OZ bc gF).bl ((jC.alloc _).drew) λ_ _ e=>e
 intro e W he an hO ap;obtain⟨A,hA,sv,a9,aa⟩:=HE e (iU he);have aq:f e.val=A:=Hf _ _ ⟨sv,a9,aa⟩;obtain⟨va,vc,ar⟩:=aa.B;rw[ay]at ar;subst ar;have ab:=ad A hA;have a3:Hid (∀b,tJ b ((e::i).map λx=>f x.val)=tJ b (i.map λx=>f x.val)+if A.ba=b then 1 else 0):=λb=>by rw[bj,L9,aq]
 have bg:i.length<=100:=by
  have h1:=HJ.len;have h2:=b2.len;have h3:=Hl.o;have h4:(iu l).size=l.length:=by simp[iu]
  omega
 have a4:tJ A.ba (i.map λx=>f x.val)<=100:=aF (Sv _ _) (by rw[ay];exact bg);rw[a9]at ap|-;have au:Hid (Mi W (w.heap.size+1+1) i.length λb=>tJ b (i.map λx=>f x.val)):=KM.only hO (gS Hs.o);have d6:=(hO.cell (b:=w.heap.size+1+1+1) (o:=0) (gS Hs.o) (gS Hs.o)).H r6;have bi:Hid (gL (λb=>b=w.heap.size+1+1) W0 W):=KO.wY hO λb e=>gS Hs.o;have av:=gP an;obtain⟨A0,A1,A2,A3⟩:=A;simp only at ap a3 a4 ab|-;have bA:=(Bl.refl W).alloc (im (ry A0 A1 A2 va A3 vc) 222);let⟨cc,ac⟩:=gJ (tJ A2 (i.map λx=>f x.val));have bm:=(au.bl bA).qq A2 ab;rw[ac]at bm a4;obtain⟨w',bq,aw,aY⟩:=(au.bl bA).put A2 ab ((cc:Int)+1) (by unfold maxLen;omega);have bx:IntKind.i64.wrap ((cc:Int)+1)=(cc:Int)+1:=Z3 _ C;let⟨bn,b0,BA⟩:=iz aw aY bA;have a5:Hid (i.length+1<=(iu l).size/\(wr.iterSeen W0.heap.size).size=i.length):=⟨by simpa using av.len,HJ.Ax⟩;have bz:w.heap.size+1+1+1<W.heap.size:=by have:=hO.size;have:=Hs.o;omega
 clear aa aq a9 hO an he hA HE HV HJ bA aw aY;have bp:=gP ac;clear ac;go_wp2;have b1:=(av.bl BA).only b0 (gS Hs.o) C;go_roundw
 case rel=>
  refine⟨e::i,?_,bi.H ((gL.B BA).H b0),b1⟩;obtain⟨D,d1,d2,d3⟩:=bn.o;refine⟨D,d1,d2,λk=>(d3 k).H ?_⟩;show DataW.held (I (if k=A2 then _ else _))=DataW.held (I (tJ k ((e::i).map λx=>f x.val):Nat));rw[a3.o];by_cases ek:k=A2
  .rw[aE ek,aE ek.symm,ek,bp.o];simp
  rw[az ek,az (Ne.symm ek)];simp
 case measure=>rw[b1.Ax,a5.2];have:=a5.1;simp;omega
theorem qt:∀(us d:List Int),d=(iZ us d).1++(iZ us d).2/\(iZ us d).1.Sublist us
 |[],d=>⟨rfl,dy _⟩
 |u::us,[]=>by have:=qt us [];simp only[iZ];simp_all
 |u::us,x::d=>by
  simp only[iZ];by_cases h:x=u
  .rw[aE h];have:=qt us d;exact⟨by rw[h];show u::d=u::((iZ us d).1++(iZ us d).2);rw[<-this.1],this.2.cons_cons u⟩
  rw[az h];have:=qt us (x::d);exact⟨this.1,this.2.H (List.sublist_cons_self _ _)⟩
def nS(R L:List (List Int)):Prop:=R.length=L.length/\∀(i:Nat) r ch,R[i]?=some r->L[i]?=some ch->r.Sublist ch/\r≠[]
theorem rE:∀{L:List (List Int)} {d:List Int} {R:List (List Int)},within L d=some R->d=jW R/\nS R L
 |[],d,R,h=>by
  simp only[within]at h;split at h
  .rename_i T;simp at h;subst h;exact⟨T,rfl,λi r ch h=>mi h⟩
  simp at h
 |ch::L,d,R,h=>by
  simp only[within]at h;split at h
  .simp at h
  rename_i y;obtain⟨W,A,e⟩:=bN.1 h;subst e;obtain⟨h1,h2,h3⟩:=rE A;have Q:=qt ch d;refine⟨?_,nN h2,λi r c F H=>?_⟩
  .show d=(iZ ch d).1++jW W;rw[<-h1];exact Q.1
  cases i with
  |zero=>simp at F H;subst F;subst H;exact⟨Q.2,y⟩
  |succ i=>exact h3 i r c (iU F) (iU H)
def nS.mem{L:List (List Int)}(h:nS R L){r:List Int}(y:r∈R):∃ch∈L,r.Sublist ch/\r≠[]:=by obtain⟨i,A,rfl⟩:=aV.1 y;have F:=h.1;exact⟨L[i]' C,aL _,h.2 i _ _ (ah A) (ah C)⟩
def Ru(c):rm (-1) c=c:=eD.2 λu _=>by simp[rO]
def MC(L)(zs):wI L (-1) zs=if qC L zs=true then 0 else 5:=by
 unfold wI;rw[az gG];have:L.map (rm (-1))=L:=by
  conv=>rhs;rw[<-eI L]
  exact bf λc _=>Ru c
 rw[this]
def yh(L)(h:us.Perm vs):qC L us=rF L vs:=by unfold qC rF;congr 1;simp[h.mem_iff]
def A7(X:Cx):Prop:=∀ch∈X.lay,∀u∈ch,0<=u/\u<=255
def yO(h:0<=u/\u<=255):(Lit.int .i64 u).wf=true:=rD h.1 C
section
variable{w:World}
theorem Px(h:jf w gH t p qb X V)(hx:nf X)(hs:zO X)(hu:A7 X)(va)(vc)(val)(hv:Rd w gH (t+3) 5 (gN va val.length vc) (val.map B8))(hB:mR val):iB 301 #[ptr p,gN va val.length vc] w λen w'=>en=gX (.bool (X.Ab val))/\Bl w w':=by
 let⟨b1,b2,_⟩:=hx.A;have a0:=hx.ll;have d6:=h.cellAt 6 rfl;have lp:=h.A;obtain⟨gl,clv,a1⟩:∃gl clv,V.lv=gN (G gl) X.lay.length clv:=by obtain⟨g,ag,cap,f,e,_⟩:=h.r.lay;exact⟨g,cap,e⟩
 rw[a1]at d6;have Q:=gP (zZ V.lv X.lay (lF va val vc) val w h.r.lay.VK hv hB C C λc hc=>by have:=hx.ne c hc;omega);rw[a1]at Q;have H:=gP h;let⟨Y,T⟩:=gJ (X.Ab val);rw[T];unfold Cx.Ab at T;let⟨a7,Hu,Hs,ai⟩:=jR hx.ne hu hs a0;have a8:Hid (X.lay.length<=3):=lT;clear h hx hu hv hB hs a0
 cases hw:within X.lay val with
 |none=>rw[hw]at Q T;subst T;clear hw;go_enter func301,ntmps301;go_wp2_with(go_at_call 295;refine Q.L ?_;rintro en w2⟨he,i⟩;simp only[xP]at he;subst he;have HB:=gP i;clear Q i);go_ret;exact⟨rfl,HB⟩
 |some R=>
  rw[hw]at Q T;have hS:=(rE hw).2;have a9:=gP hS.1;have aa:Hid (∀W,Bl w W->_):=λW hW=>tU (H.bl hW (gI:=gH) hU) Hs;have HN:Hid (∀(W W2:World) (g:Nat) (ms:List Value) (base A:Nat) (a:Option Addr) (n:Nat) (us:List Int),mB base W g X.lay.length ms R->Bl W W2->W2.ownsRow A 3 1 (gN a us.length n) us.length (us.map I)->us.Perm X.jX->iB 164 #[gN (G g) X.lay.length X.lay.length,I (-1),gN a us.length n] W2 λe w'=>∃r,e=gX (.tuple #[r,I (if Y=true then 0 else 5)])/\Bl W2 w'):=λW W2 g ms base A a n us hR hb ho hp=>by
   have a2:∀z∈us,0<=z/\z<=255:=λz hz=>by have:=hp.mem_iff.1 hz;obtain⟨y,hy,rfl⟩:=aD.1 this;exact Hs.ids y hy
   have ad:us.length<=100:=by rw[hp.length_eq];show(X.mv.a.B.map _).length<=_;rw[ay];exact Hs.len
   refine(EA _ _ R (-1) us W2 (hR.bl hb).VK (i7 ho) (by have:=a8.o;have:=a9.o;omega) (λc hc=>?_) C λz hz=>yO (a2 z hz)).L ?_
   .obtain⟨ch,a3,F,_⟩:=hS.mem hc;have:=a7 ch a3;exact⟨gS F.length_le,λz hz=>yO (Hu ch a3 z (F.subset hz))⟩
   rintro e w'⟨r,rfl,h1,h2⟩;refine⟨r,?_,h1⟩;rw[MC,yh R hp];have ab:rF R X.jX=Y:=T;rw[ab]
  clear T hS hw;go_enter func301,ntmps301;go_wp2_with fail;refine Q.L ?_;rintro en w2⟨⟨g,ms,rfl,hR⟩,i⟩;let⟨HB,HR⟩:=gO i hR;clear Q i hR;go_wp2_with fail;refine(aa _ HB).L ?_;rintro en w3⟨a,n,us,rfl,ho,hp,a4⟩;let⟨HO,HP,a5⟩:=iz ho hp a4;clear ho hp a4;go_wp2_with fail;refine(HN _ _ _ _ _ _ _ _ _ HR a5 HO HP).L ?_;rintro en w4⟨r,rfl,a6⟩;have ac:=gP a6;clear a6;go_wp2;all_goals
   go_ret;exact⟨rfl,(HB.H a5).H ac⟩
theorem IZ(h:jf w gH t p qb X V)(A:nf X)(F:zO X)(H:A7 X)(k x0 x1 x2)(va)(vc)(val)(L:Rd w gH (t+3) 5 (gN va val.length vc) (val.map B8))(Q:mR val)(g)(hg:w.cell? (U g 0)=some (ptr p))(lg:g<w.heap.size):iB 300 #[I k,.agg #[I x0,I x1,I x2,gN va val.length vc],O g] w λen w'=>en=gX (.bool (decide (0<x2)&& !X.Ab val))/\Bl w w':=by
 have i:=(Bl.refl w).alloc (im (ry x0 x1 x2 va val vc) 222);obtain⟨HL,T⟩:=gO (Px (h.bl i (gI:=gH) hU) A F H va vc val (L.bl i λ_ _ e=>e) Q) i;generalize X.Ab val=Y at*;clear h A F H L Q i;by_cases W:0<x2
 .have y:(decide (0<x2)&& !Y)= !Y:=by simp[W]
  rw[y];go_enter func300,ntmps300;go_wp2_with(go_at_call 301;refine iO HL λw2 HB=>?_);go_ret;exact⟨rfl,T.H HB⟩
 have y:(decide (0<x2)&& !Y)=false:=by simp[W]
 rw[y];go_enter func300,ntmps300;go_wp2;go_ret;exact⟨rfl,T⟩
theorem Bv(h:jf w gH t p qb X V)(hx:nf X)(hs:zO X)(hu:A7 X)(y:qx w gH (t+3) v zz)(hB:∀z∈zz,mR z.2.val):iB 280 #[ptr p,v] w λen w'=>∃v',en=gX v'/\qx w' gH (t+3) v' (X.mW zz)/\Bl w w':=by
 let⟨W,Q⟩:=gJ (w.alloc (im #[ptr p] 94));have A:=(Bl.refl w).alloc (im #[ptr p] 94);have L:=ao w (im #[ptr p] 94);rw[Q]at A L;have r0:W.cell? (U w.heap.size 0)=some (ptr p):=ax W w.heap.size 0 _ 94 (0,0) L;have lr:=(ae.1 L).1;let⟨HW,BW⟩:=gO Q A;have hT:=y.bl A;have T:=h.bl A (gI:=gH) hU;clear Q A L y h;obtain⟨rfl,rfl⟩|⟨gm,clk,l,rfl,h⟩:=hT
 .let⟨H1,H2⟩:=gO vx yZ;clear T;go_enter func280,ntmps280;go_upto_region 1 with fail;rw[HW.o];go_wp2_with(first|(go_at_call 293;refine gT (H1 _) λw' h3=>?_;have e3:=h3.symm;clear h3;subst e3)|(go_at_call 294;refine iO (H2 _ _) λw2 HB=>?_));go_ret;exact⟨_,rfl,.inl ⟨rfl,rfl⟩,BW.H HB⟩
 have H1:=gP (sT gm _ clk W h.mp);have hL:zY 300 #[O w.heap.size] W gH (t+3) zz (λz=> !(decide (0<z.2.ba)&& !X.Ab z.2.val)):=λW2 k v z i hz _⟨s,e1,e2⟩=>by obtain⟨a,c,F⟩:=e2.B;rw[ay]at F;subst F;subst e1;have:=IZ (T.bl i (gI:=gH) hU) hx hs hu k z.2.wh z.2.pr z.2.ba a c z.2.val (e2.bl i λ_ _ e=>e) (hB z hz) w.heap.size ((i.cell lr).H r0) (af lr i.lt);simpa using this
 have H2:=gP (uw h ((Bl.refl W).alloc _) jl (ao W _) 300 _ (enters_of func300 ix rfl) _ hL);clear h hL T hx hs hu hB;go_enter func280,ntmps280;go_upto_region 1 with fail;rw[HW.o];go_wp2_with(first|(go_at_call 293;refine H1.L ?_;rintro e w'⟨rfl,rfl⟩)|(go_at_call 294;refine H2.L ?_;rintro e w2⟨rfl,y,hb⟩;let⟨HA,HB⟩:=gO y hb;clear hb y));go_ret;exact⟨_,rfl,HA,BW.H HB⟩
end
def G2(L)(x):wQ L x=L.map (rm x):=by refine bf λc _=>dH λu _=>?_;unfold rO;rw[dr];simp
def yb(L)(x):oY L x=0↔wE L x=true:=by
 unfold oY wE qM qO;have h:(L.any λc=>decide (x∈c))=L.any λch=>ch.contains x:=by simp_all
 have i:(L.any λc=>decide (x∈c)&&decide (c.length=1))=L.any λch=>ch.contains x&&ch.length==1:=by congr 1;funext c;rw[dr];simp
 rw[h,i]
 cases(L.any λch=>ch.contains x)<;>cases(L.any λch=>ch.contains x&&ch.length==1)<;>simp
def Pt(L)(x)(h:us.Perm vs):rC L x vs=if wI L x us=0 then some (L.map (rm x))else none:=by
 unfold rC wI;rw[G2,<-yh _ h];by_cases y:x=-1
 .simp_all
 cases i:wE L x
 .have:oY L x≠0:=λe=>by rw[yb,i]at e;simp at e
  simp_all
 have:oY L x=0:=(yb L x).2 i;simp_all
section
variable{w:World}
def Cx.xW(X:Cx):List Int:=if X.ko.isEmpty then [-1]else X.ko
theorem Ta(h:jf w gH t p qb X V)(hx:nf X)(hs:zO X)(hu:A7 X)(hr:X.c.length<=1000000000)(h8:X.a.length<=8):iB 303 #[ptr p] w λen w'=>xP w.heap.size w' X.lay.length en X.next/\Bl w w':=by
 obtain⟨i3,ji,bs,bv,bw⟩:=fx il.tY;have HC:=gP (zn h hr h8);have bd:X.ko.length<=8:=aF (J3 X.a) h8;let⟨b1,b2,_⟩:=hx.A;have ar:=hx.ll;have d6:=h.cellAt 6 rfl;have lp:=h.A;obtain⟨gl,clv,b4⟩:∃gl clv,V.lv=gN (G gl) X.lay.length clv:=by obtain⟨g,bx,cap,f,e,_⟩:=h.r.lay;exact⟨g,cap,e⟩
 rw[b4]at d6;have b5:Hid (∀W,Bl w W->_):=λW hW=>tU (h.bl hW (gI:=gH) hU) hs;have HN:Hid (∀(W2:World) (aa:Nat) (a:Option Addr) (n:Nat) (us:List Int) (x:Int),Bl w W2->W2.ownsRow aa 3 1 (gN a us.length n) us.length (us.map I)->us.Perm X.jX->∀W3,Bl W2 W3->iB 164 #[gN (G gl) X.lay.length clv,I x,gN a us.length n] W3 λe w'=>∃(ra:Option Addr) (rn rc:Nat) (T:Int),e=gX (.tuple #[gN ra rn rc,I T])/\(T=0->∃g2 ms R,rC X.lay x X.jX=some R/\ra=G g2/\rn=X.lay.length/\rc=X.lay.length/\mB w.heap.size w' g2 X.lay.length ms R)/\(T≠0->rC X.lay x X.jX=none)/\Bl W3 w'):=λW2 aa a n us x hb ho hp W3 a4=>by
  have b6:∀z∈us,0<=z/\z<=255:=λz hz=>by have:=hp.mem_iff.1 hz;obtain⟨y,hy,rfl⟩:=aD.1 this;exact hs.ids y hy
  have bo:us.length<=100:=by rw[hp.length_eq];show(X.mv.a.B.map _).length<=_;rw[ay];exact hs.len
  rw[<-b4];have hb:=hb.H a4;refine(EA _ _ X.lay x us W3 (h.bl hb (gI:=gH) hU).r.lay.VK ((i7 ho).bl a4) C (λc hc=>⟨gS (hx.ne c hc),λz hz=>yO (hu c hc z hz)⟩) C λz hz=>yO (b6 z hz)).L ?_;rintro e w'⟨r,rfl,h1,h2⟩;have hN:=Pt X.lay x hp;obtain⟨rfl,h2⟩|⟨g2,n2,ms,rfl,h2⟩:=h2
  .refine⟨none,0,0,_,rfl,λe0=>?_,λe0=>by rw[hN,az e0],h1⟩;unfold Dw at h2;rw[aE e0]at h2;have:=Z5 List.length h2;simp at this;rw[this]at ar;simp at ar;omega
  refine⟨_,_,_,_,rfl,λe0=>?_,λe0=>by rw[hN,az e0],h1⟩;unfold Dw at h2;rw[aE e0]at h2;have be:n2=X.lay.length:=by rw[<-h2.len];simp
  subst be;exact⟨g2,ms,_,by rw[hN,aE e0],rfl,rfl,rfl,⟨qG h2.ie hb.lt,h2.len,λi hi bg=>qG (h2.row i hi bg) hb.lt,h2.mu⟩⟩
 let⟨Y,hY⟩:=gJ X.next;rw[hY];have HY:Hid (X.xW.findSome? (λab=>rC X.lay ab X.jX)=Y):=hY;have bz:X.xW.length<=8:=by
  unfold Cx.xW;split
  .simp
  exact bd
 have au:Hid (X.ko=[]->X.xW=[-1]):=λe=>by unfold Cx.xW;rw[e];rfl
 have ac:Hid (X.ko≠[]->X.xW=X.ko):=λe=>by unfold Cx.xW;rw[az (iU e)]
 clear h hx hs hu hY ar;generalize X.xW=os at*;go_enter func303,ntmps303;go_wp2_with fail;refine HC.L ?_;rintro en w2⟨v,rfl,ho,b7⟩;obtain⟨a,cap,rfl⟩:=jw ho;let⟨HO,HB⟩:=gO ho b7;clear HC ho b7;by_cases a9:X.ko=[]
 .have a8:X.ko.length=0:=by rw[a9];rfl
  have ad:=au a9;subst ad;have av:=HY;rw[a8]at*;clear HY au ac HO a9 a8;go_wp2_with fail;have b8:=ao w2 (im #[I (-1)] 3);have b9:=(Bl.refl w2).alloc (im #[I (-1)] 3);have ag:Hid ((w2.alloc (im #[I (-1)] 3)).ownsRow w.heap.size 3 1 (gN (G w2.heap.size) 1 1) 1 (([-1]:List Int).map I)):=⟨rfl,.inr ⟨w2.heap.size,1,_,rfl,HB.lt,b8,jl,gF,rfl,rfl⟩⟩;have ai:=gP (HB.H b9);clear b8 b9;generalize w2.alloc (im #[I (-1)] 3)=w5 at*;generalize w2.heap.size=g5 at*;go_loopw[17](λi wr=>∃j:Nat,j<=1/\i=I j/\Hid (Y=(([-1]:List Int).drop j).findSome? λab=>rC X.lay ab X.jX)/\Hid (Bl w5 wr)) λi _=>1-(Go.RowKit.intOf i).toNat
  case atStart=>exact⟨0,ju,rfl,av.symm,jC⟩
  obtain⟨j,hj,rfl,HE,Q⟩:=hrel;by_cases ja:j<1
  .have ba:(j:Int)<((1:Nat):Int):=C;have hB:=ai.H Q;have ak:j<([-1]:List Int).length:=by first|exact ja|(simp;omega)
   have A:=ag.cellAt j (by first|exact ja|(simp;omega));rw[aK,ah ak]at A;have al:=(ag.lt g5 rfl).2;have k1:=(Q.cell al).H A;simp only[bG]at k1;have bb:=af al Q.lt;have hE:=HE.o;rw[cm ak,gC]at hE;let⟨a0,a5⟩:=gO hE hB;have c6:=(hB.cell lp).H d6;have am:=af lp hB.lt;generalize ([-1]:List Int)[j]=x at*;clear hE HE hB A;go_upto_region 7 with fail;go_cut[7,8] λr e wx=>∃(ra:Option Addr) (rn rc:Nat) (T:Int),r=gN ra rn rc/\e=I T/\Hid (T=0->∃g2 ms R,rC X.lay x X.jX=some R/\ra=G g2/\rn=X.lay.length/\rc=X.lay.length/\mB w.heap.size wx g2 X.lay.length ms R)/\Hid (T≠0->rC X.lay x X.jX=none)/\Hid (Bl wr wx)
   case first=>
    go_region_held3(λW=>W.cell? (U p 6)=some (gN (G gl) X.lay.length clv)) (go_keep) (first|(go_at_call 314;refine(b5 _ (a5.H ?hb)).L ?_;(case hb=>exact jg);rintro en w3⟨a3,n3,us,rfl,an,ap,a4⟩;have a1:Bl wr w3:=Bl.H jg a4;have e6:=(a1.cell am).H c6;have aw:=af am a1.lt;let⟨aY,b0,aq⟩:=iz an ap a1;clear an ap a4 a1)|(go_at_call 164;refine(HN w3 _ _ _ _ _ (a5.H aq) aY b0 _ ?hb).L ?_;(case hb=>exact jg);rintro en w4⟨ra,rn,rc,T,rfl,h0,h1,a6⟩;have bi:w4.cell? (U p 6)=some (gN (G gl) X.lay.length clv):=(a6.cell (by first|exact aw)).H e6;let⟨H0,H1⟩:=gO h0 h1;have a2:Hid (Bl wr w4):=aq.H (Bl.H jg a6);clear h0 h1 a6));all_goals(go_wp2_with fail;go_meet)
    all_goals exact⟨ra,rn,rc,T,rfl,rfl,H0,H1,a2⟩
   case rest=>
    obtain⟨ra,rn,rc,T,rfl,rfl,H0,H1,a2⟩:=hcut;by_cases he:T=0
    .obtain⟨g2,ms,R,hN,rfl,rfl,rfl,hR⟩:=H0 he;have F:=a0.o;rw[hN]at F;let⟨a7,HR⟩:=gO F hR;subst he;clear hN F hR H0 H1;go_wp2;go_ret2;rw[a7.o];exact⟨⟨g2,ms,rfl,HR⟩,a5.H a2⟩
    have F:=a0.o;rw[H1.o he]at F;have a7:=gP F;have bm:(T==0)=false:=iU he;clear F H0 H1;go_wp2;go_roundw
    case rel=>exact⟨j+1,C,iD,a7,Q.H a2⟩
    exact iC
  have bn:¬((j:Int)<((1:Nat):Int)):=C;have b3:j=1:=C;subst b3;have hE:=HE.o;rw[eo gG]at hE;have a0:=gP hE;clear hE HE;go_wp2;go_ret2;rw[a0.o];exact⟨rfl,ai.H Q⟩
 have a8:¬((X.ko.length:Nat):Int)=0:=by intro e;exact a9 (aW.1 C)
 have bp:(((X.ko.length:Nat):Int)==0)=false:=iU a8;have ad:=ac a9;subst ad;have av:=HY;have ag:=HO;have ai:=HB;let⟨g,bq,bc⟩:=mo HO C;simp at bc;obtain⟨rfl,rfl⟩:=bc;clear HY au ac HO HB a9;go_wp2_with fail;go_loopw[17](λi wr=>∃j:Nat,j<=X.ko.length/\i=I j/\Hid (Y=(X.ko.drop j).findSome? λab=>rC X.lay ab X.jX)/\Hid (Bl w2 wr)) λi _=>X.ko.length-(Go.RowKit.intOf i).toNat
 case atStart=>exact⟨0,ju,rfl,av.symm,jC⟩
 obtain⟨j,hj,rfl,HE,Q⟩:=hrel;by_cases ja:j<X.ko.length
 .have ba:(j:Int)<((X.ko.length:Nat):Int):=C;have hB:=ai.H Q;have ak:j<X.ko.length:=by first|exact ja|(simp;omega)
  have A:=ag.cellAt j (by first|exact ja|(simp;omega));rw[aK,ah ak]at A;have al:=(ag.lt g rfl).2;have k1:=(Q.cell al).H A;simp only[bG]at k1;have bb:=af al Q.lt;have hE:=HE.o;rw[cm ak,gC]at hE;let⟨a0,a5⟩:=gO hE hB;have c6:=(hB.cell lp).H d6;have am:=af lp hB.lt;generalize X.ko[j]=x at*;clear hE HE hB A;go_upto_region 7 with fail;go_cut[7,8] λr e wx=>∃(ra:Option Addr) (rn rc:Nat) (T:Int),r=gN ra rn rc/\e=I T/\Hid (T=0->∃g2 ms R,rC X.lay x X.jX=some R/\ra=G g2/\rn=X.lay.length/\rc=X.lay.length/\mB w.heap.size wx g2 X.lay.length ms R)/\Hid (T≠0->rC X.lay x X.jX=none)/\Hid (Bl wr wx)
  case first=>
   go_region_held3(λW=>W.cell? (U p 6)=some (gN (G gl) X.lay.length clv)) (go_keep) (first|(go_at_call 314;refine(b5 _ (a5.H ?hb)).L ?_;(case hb=>exact jg);rintro en w3⟨a3,n3,us,rfl,an,ap,a4⟩;have a1:Bl wr w3:=Bl.H jg a4;have e6:=(a1.cell am).H c6;have aw:=af am a1.lt;let⟨aY,b0,aq⟩:=iz an ap a1;clear an ap a4 a1)|(go_at_call 164;refine(HN w3 _ _ _ _ _ (a5.H aq) aY b0 _ ?hb).L ?_;(case hb=>exact jg);rintro en w4⟨ra,rn,rc,T,rfl,h0,h1,a6⟩;have bi:w4.cell? (U p 6)=some (gN (G gl) X.lay.length clv):=(a6.cell (by first|exact aw)).H e6;let⟨H0,H1⟩:=gO h0 h1;have a2:Hid (Bl wr w4):=aq.H (Bl.H jg a6);clear h0 h1 a6));all_goals(go_wp2_with fail;go_meet)
   all_goals exact⟨ra,rn,rc,T,rfl,rfl,H0,H1,a2⟩
  case rest=>
   obtain⟨ra,rn,rc,T,rfl,rfl,H0,H1,a2⟩:=hcut;by_cases he:T=0
   .obtain⟨g2,ms,R,hN,rfl,rfl,rfl,hR⟩:=H0 he;have F:=a0.o;rw[hN]at F;let⟨a7,HR⟩:=gO F hR;subst he;clear hN F hR H0 H1;go_wp2;go_ret2;rw[a7.o];exact⟨⟨g2,ms,rfl,HR⟩,a5.H a2⟩
   have F:=a0.o;rw[H1.o he]at F;have a7:=gP F;have bm:(T==0)=false:=iU he;clear F H0 H1;go_wp2;go_roundw
   case rel=>exact⟨j+1,C,iD,a7,Q.H a2⟩
   exact iC
 have bn:¬((j:Int)<((X.ko.length:Nat):Int)):=C;have b3:j=X.ko.length:=C;subst b3;have hE:=HE.o;rw[eo gG]at hE;have a0:=gP hE;clear hE HE;go_wp2;go_ret2;rw[a0.o];exact⟨rfl,ai.H Q⟩
end
section
variable{w:World}
def jf.UO{tag3:Nat->Nat}(h:jf w (iq gH N 5) t p qb X V)(y:100<=t)(i:∀b,b<N->tag3 b=gH b):jf w tag3 t p qb X V:=
 h.Y λb _ F _=>by
  by_cases A:b<N
  .rw[gV _ _ _ _ A];exact i b A
  rw[iJ _ _ _ _ C]at F;omega
def vD(gH:Nat->Nat)(N gm g3 a r:Nat):Nat->Nat:=λb=>if b<N then gH b else if b=gm then a else if b=g3 then r else 5
def qP{i a:Nat}(h:b<N):vD gH N gm i a r b=gH b:=aE h
def Dl{i a:Nat}(h:N<=gm):vD gH N gm i a r gm=a:=by unfold vD;rw[az C,aE rfl]
def CO{i a:Nat}(h:N<=i)(y:i≠gm):vD gH N gm i a r i=r:=by unfold vD;rw[az C,az y,aE rfl]
def FV{w2:World}(vs)(h:jf w2 gH t p qb X V)(i:gH g<t\/t+32<=gH g):jf (ku w2 g 0 vs) gH t p qb X V:=
 h.only (jO (S:=λb=>b=g) (.inl rfl) _ 0 w2 (gL.refl _ w2)) (λb _ e=>jk e i) hU
def jf.We(h:jf w gH t p qb X V)(r)(nodes)(qU)(v2 n2)(gm)(i:Rd w gH (t+3) 5 v2 (r.ct.val.map B8))(y:Rd w gH (t+3) 3 n2 (nodes.map I))(A:w.heap[gm]?=some (.map #[] 0))(tg:gH gm=t+4):jf (ku w p 10 [I r.kd,I r.ln,I r.nr,I r.ep,I r.pl,I r.ct.kd,I r.ct.cl,I r.ct.ca,v2,n2,.bool qU,.map (some gm)]) gH t p qb {X with d:=⟨r,nodes,qU,[]⟩} {V with pr:=⟨v2,n2,.map (some gm)⟩}:=
 h.uR (jO (S:=λb=>b=p) (.inl rfl) _ 10 w (gL.refl _ w)) (kA _ 10 w _ h.hp) ⟨h.r.lay,h.r.c,h.r.tb,h.r.mp,h.r.bo,h.r.bn,⟨i,y,oI.new A tg,λe=>mi e⟩,h.r.sl,h.r.vt,h.r.bg,h.r.b,h.r.d,h.r.a.gU,h.r.a.lt,h.r.a.a,h.r.a.b⟩
theorem Bc(h:jf w gH t p qb X V)(a2:100<=t)(hx:nf X):iB 158 #[ptr p] w λen w'=>en=iw/\CS w gH t p qb X.jM w':=by
 let⟨b1,b2,_⟩:=hx.A;have a3:1<=X.lay.length/\X.lay.length<=3:=by rw[hx.ll];omega
 have HN:Hid (∀W',Bl w W'->_):=λW' ai=>uF (h.bl (gI:=iq gH w.heap.size 5) ai λb hb=>gV _ _ _ _ hb) hx.a0 hx.a1;let⟨H,Hx⟩:=gO h hx;have d5:=h.cellAt 5 rfl;have lp:=h.A;clear h hx;go_enter func158,ntmps158;go_upto_region 0 with fail;go_cut[2] λy wx=>∃gb,y= O gb/\Hid (jf wx (iq gH w.heap.size 5) t p qb {X with ib:=X.ib+1} V)/\Hid (wx.heap[gb]?=some (im #[I 1,I 8,I (X.ib+1),I X.b,I 0,I 0,I 0,I 0,OO] 100 (0,0)))/\w.heap.size<=gb/\Hid (gL (λb=>b=p) w wx)
 case first=>
  go_region_with(go_at_call 194;refine(HN _ ?hb).L ?_;(case hb=>exact m8);rintro en w2⟨rfl,Q,T⟩;have z5:=Q.cellAt 5 rfl;have au:=Q.A;let⟨a4,a5⟩:=gO Q T;have ak:=T.size;(first|(have e1:w2.heap[w.heap.size]?=some (im TC 100 (0,0)):=(T.block w.heap.size gG C).H (ao w.drew _);obtain⟨⟨y0,y1,y2,y3,y4,y5,y6,y7,y8⟩,gg,lz⟩:=uf e1;have g0:=gg 0;have g1:=gg 1;have g2:=gg 2;have g3:=gg 3;have g4:=gg 4;have g5:=gg 5;have g6:=gg 6;have g7:=gg 7;have g8:=gg 8;have al:=gP e1;clear e1 gg)|skip);clear Q T);all_goals(go_wp2_with fail;go_meet)
  all_goals first
   |(have hE:=al.o;exact⟨_,rfl,FV [I 1,I 8,I (X.ib+1),I X.b,I 0,I 0,I 0,I 0,OO] a4 (.inl (by rw[iJ _ _ _ _ jl];omega)),kA [I 1,I 8,I (X.ib+1),I X.b,I 0,I 0,I 0,I 0,OO] 0 w2 [I 0,I 0,I 0,I 0,I 0,I 0,I 0,I 0,OO] hE,jl,jO (S:=λb=>b=p) (.inr jl) [I 1,I 8,I (X.ib+1),I X.b,I 0,I 0,I 0,I 0,OO] 0 w2 (gL.H (gL.B (by exact m8)) a5)⟩)
   |exact⟨_,rfl,a4.bl (jC.alloc _) hU,ao w2 _,iU ak,(gL.H (gL.B (by exact m8)) a5).alloc _⟩
 case rest=>
  obtain⟨gb,rfl,HC,HX,av,HO⟩:=hcut;obtain⟨⟨z0,z1,z2,z3,z4,z5,z6,z7,z8⟩,_,lz⟩:=uf HX;have d6:=HC.cellAt 6 rfl;have a6:=HC.A;have HL:Hid (∀W,Bl wc W->_):=λW hW=>yQ (HC.bl hW (gI:=iq gH w.heap.size 5) hU).r.lay a3.1 a3.2 Hx.ne;have HQ:=gP λna nc W=>qf W na (jW X.lay).length nc 1 8 (X.ib+1) X.b 0 0 0 0 none 0 0;obtain⟨gl,clv,am⟩:∃gl clv,V.lv=gN (G gl) X.lay.length clv:=by obtain⟨g,aw,cap,f,e,_⟩:=HC.r.lay;exact⟨g,cap,e⟩
  rw[am]at d6 HL;have aY:=HO.size;clear d5 HN;go_upto_region 1 with fail;go_region_with(first|(go_at_call 191;refine(HL _ ?hb).L ?_;(case hb=>exact jg);rintro en w3⟨g3,a7,rfl,a8,a9⟩;have A:Bl wc w3:=Bl.H jg a9;have b0:=(A.cell a6).H d6;let⟨s0,s1,s2,s3⟩:=A.M lz z0 z1 z2 z3;let⟨s4,s5,s6⟩:=A.D lz z4 z5 z6;let⟨s7,s8⟩:=A.B lz z7 z8;have a0:=af lz A.lt;have b3:=af a6 A.lt;let⟨aa,a1⟩:=gO (qG (b1:=wc.heap.size) a8 (by first|exact jl)) A;clear a8 a9 A)|(go_at_call 207;refine(HQ _ _ _).L ?_;rintro en w4⟨gm,rfl,an,ab,ac⟩;have F:Bl w3 w4:=Bl.H jg ac;have i:=(HC.bl (a1.H F) (gI:=iq gH w.heap.size 5) hU).UO a2 (tag3:=vD gH w.heap.size gm g3 (t+4) (t+3)) λb hb=>qP hb;have y6:=i.cellAt 6 rfl;let⟨y0,y1,y2,y3⟩:=F.M a0 s0 s1 s2 s3;let⟨y4,y5,b4⟩:=F.D a0 s4 s5 s6;let⟨y7,y8⟩:=F.B a0 s7 s8;let⟨b5,b6,b7,b8⟩:=i.T 10 11 12 13 rfl;let⟨b9,ba,bb,bc⟩:=i.T 14 15 16 17 rfl;let⟨bd,be,bg,bi⟩:=i.T 18 19 20 21 rfl;let⟨bm,bn,bo,bp⟩:=i.Z 10 11 12 13;let⟨bq,bs,bv,bw⟩:=i.Z 14 15 16 17;let⟨bx,bz,bA,bB⟩:=i.Z 18 19 20 21;have bC:=i.A;have bD:w3.heap.size<=gm:=aF (by first|exact jl) an;let⟨ap,ad,aq⟩:=iz i F ab;clear i ac F ab));all_goals
   go_wp2;go_end0;have l3:=a1.lt;have lo:=aa.lt g3 rfl;have ar:=(Rd.qj (gH:=vD gH w.heap.size gm g3 (t+4) (t+3)) (t:=t+3) aa (λb hb=>by
    simp[Value.ownBlock]at hb
    subst hb
    exact CO C C)).bl ad (gI:=vD gH w.heap.size gm g3 (t+4) (t+3)) λ_ _ e=>e
   have ag:=ap.We ⟨1,8,X.ib+1,X.b,0,no⟩ (jW X.lay) true OO _ gm Rd.nil ar aq (Dl C);refine⟨rfl,_,λb hb=>qP hb,⟨_,ag⟩,?_⟩;have O1:gL (λb=>b=p) w (ku w4 p 10 [I 1,I 8,I (X.ib+1),I X.b,I 0,I 0,I 0,I 0,OO,gN (G g3) (jW X.lay).length a7,.bool true,.map (some gm)]):=jO (S:=λb=>b=p) (.inl rfl) _ 10 w4 (HO.H (gL.B (a1.H ad)));exact H.mZ O1
def jf.WJ(h:jf w gH t p qb X V)(r)(nodes)(qU)(v2 n2)(gm)(i:Rd w gH (t+3) 5 v2 (r.ct.val.map B8))(y:Rd w gH (t+3) 3 n2 (nodes.map I))(A:w.heap[gm]?=some (.map #[] 0))(tg:gH gm=t+5):jf (ku w p 29 [I r.kd,I r.ln,I r.nr,I r.ep,I r.pl,I r.ct.kd,I r.ct.cl,I r.ct.ca,v2,n2,.bool qU,.map (some gm)]) gH t p qb {X with mv:={X.mv with a:=⟨r,nodes,qU,[]⟩}} {V with sl:=⟨v2,n2,.map (some gm)⟩}:=
 h.uR (jO (S:=λb=>b=p) (.inl rfl) _ 29 w (gL.refl _ w)) (kA _ 29 w _ h.hp) ⟨h.r.lay,h.r.c,h.r.tb,h.r.mp,h.r.bo,h.r.bn,h.r.pr,⟨i,y,oI.new A tg,λe=>mi e⟩,h.r.vt,h.r.bg,h.r.b,h.r.d,h.r.a.gU,h.r.a.lt,h.r.a.a,h.r.a.b⟩
theorem Sp(h:jf w gH t p qb X V)(a2:100<=t)(hx:nf X):iB 298 #[ptr p] w λen w'=>en=iw/\CS w gH t p qb X.qT w':=by
 let⟨b1,b2,_⟩:=hx.A;have a3:1<=X.lay.length/\X.lay.length<=3:=by rw[hx.ll];omega
 have HN:Hid (∀W',Bl w W'->_):=λW' ai=>uF (h.bl (gI:=iq gH w.heap.size 5) ai λb hb=>gV _ _ _ _ hb) hx.a0 hx.a1;let⟨H,Hx⟩:=gO h hx;have d5:=h.cellAt 24 rfl;have lp:=h.A;clear h hx;go_enter func298,ntmps298;go_upto_region 0 with fail;go_cut[2] λy wx=>∃gb,y= O gb/\Hid (jf wx (iq gH w.heap.size 5) t p qb {X with ib:=X.ib+1} V)/\Hid (wx.heap[gb]?=some (im #[I 1,I 9,I (X.ib+1),I X.mv.b,I 0,I 0,I 0,I 0,OO] 100 (0,0)))/\w.heap.size<=gb/\Hid (gL (λb=>b=p) w wx)
 case first=>
  go_region_with(go_at_call 194;refine(HN _ ?hb).L ?_;(case hb=>exact m8);rintro en w2⟨rfl,Q,T⟩;have z5:=Q.cellAt 24 rfl;have au:=Q.A;let⟨a4,a5⟩:=gO Q T;have ak:=T.size;(first|(have e1:w2.heap[w.heap.size]?=some (im TC 100 (0,0)):=(T.block w.heap.size gG C).H (ao w.drew _);obtain⟨⟨y0,y1,y2,y3,y4,y5,y6,y7,y8⟩,gg,lz⟩:=uf e1;have g0:=gg 0;have g1:=gg 1;have g2:=gg 2;have g3:=gg 3;have g4:=gg 4;have g5:=gg 5;have g6:=gg 6;have g7:=gg 7;have g8:=gg 8;have al:=gP e1;clear e1 gg)|skip);clear Q T);all_goals(go_wp2_with fail;go_meet)
  all_goals first
   |(have hE:=al.o;exact⟨_,rfl,FV [I 1,I 9,I (X.ib+1),I X.mv.b,I 0,I 0,I 0,I 0,OO] a4 (.inl (by rw[iJ _ _ _ _ jl];omega)),kA [I 1,I 9,I (X.ib+1),I X.mv.b,I 0,I 0,I 0,I 0,OO] 0 w2 [I 0,I 0,I 0,I 0,I 0,I 0,I 0,I 0,OO] hE,jl,jO (S:=λb=>b=p) (.inr jl) [I 1,I 9,I (X.ib+1),I X.mv.b,I 0,I 0,I 0,I 0,OO] 0 w2 (gL.H (gL.B (by exact m8)) a5)⟩)
   |exact⟨_,rfl,a4.bl (jC.alloc _) hU,ao w2 _,iU ak,(gL.H (gL.B (by exact m8)) a5).alloc _⟩
 case rest=>
  obtain⟨gb,rfl,HC,HX,av,HO⟩:=hcut;obtain⟨⟨z0,z1,z2,z3,z4,z5,z6,z7,z8⟩,_,lz⟩:=uf HX;have d6:=HC.cellAt 6 rfl;have a6:=HC.A;have HL:Hid (∀W,Bl wc W->_):=λW hW=>yQ (HC.bl hW (gI:=iq gH w.heap.size 5) hU).r.lay a3.1 a3.2 Hx.ne;have HQ:=gP λna nc W=>qf W na (jW X.lay).length nc 1 9 (X.ib+1) X.mv.b 0 0 0 0 none 0 0;obtain⟨gl,clv,am⟩:∃gl clv,V.lv=gN (G gl) X.lay.length clv:=by obtain⟨g,aw,cap,f,e,_⟩:=HC.r.lay;exact⟨g,cap,e⟩
  rw[am]at d6 HL;have aY:=HO.size;clear d5 HN;go_upto_region 1 with fail;go_region_with(first|(go_at_call 191;refine(HL _ ?hb).L ?_;(case hb=>exact jg);rintro en w3⟨g3,a7,rfl,a8,a9⟩;have A:Bl wc w3:=Bl.H jg a9;have b0:=(A.cell a6).H d6;let⟨s0,s1,s2,s3⟩:=A.M lz z0 z1 z2 z3;let⟨s4,s5,s6⟩:=A.D lz z4 z5 z6;let⟨s7,s8⟩:=A.B lz z7 z8;have a0:=af lz A.lt;have b3:=af a6 A.lt;let⟨aa,a1⟩:=gO (qG (b1:=wc.heap.size) a8 (by first|exact jl)) A;clear a8 a9 A)|(go_at_call 207;refine(HQ _ _ _).L ?_;rintro en w4⟨gm,rfl,an,ab,ac⟩;have F:Bl w3 w4:=Bl.H jg ac;have i:=(HC.bl (a1.H F) (gI:=iq gH w.heap.size 5) hU).UO a2 (tag3:=vD gH w.heap.size gm g3 (t+5) (t+3)) λb hb=>qP hb;have y6:=i.cellAt 6 rfl;let⟨y0,y1,y2,y3⟩:=F.M a0 s0 s1 s2 s3;let⟨y4,y5,b4⟩:=F.D a0 s4 s5 s6;let⟨y7,y8⟩:=F.B a0 s7 s8;let⟨b5,b6,b7,b8⟩:=i.T 29 30 31 32 rfl;let⟨b9,ba,bb,bc⟩:=i.T 33 34 35 36 rfl;let⟨bd,be,bg,bi⟩:=i.T 37 38 39 40 rfl;let⟨bm,bn,bo,bp⟩:=i.Z 29 30 31 32;let⟨bq,bs,bv,bw⟩:=i.Z 33 34 35 36;let⟨bx,bz,bA,bB⟩:=i.Z 37 38 39 40;have bC:=i.A;have bD:w3.heap.size<=gm:=aF (by first|exact jl) an;let⟨ap,ad,aq⟩:=iz i F ab;clear i ac F ab));all_goals
   go_wp2;go_end0;have l3:=a1.lt;have lo:=aa.lt g3 rfl;have ar:=(Rd.qj (gH:=vD gH w.heap.size gm g3 (t+5) (t+3)) (t:=t+3) aa (λb hb=>by
    simp[Value.ownBlock]at hb
    subst hb
    exact CO C C)).bl ad (gI:=vD gH w.heap.size gm g3 (t+5) (t+3)) λ_ _ e=>e
   have ag:=ap.WJ ⟨1,9,X.ib+1,X.mv.b,0,no⟩ (jW X.lay) true OO _ gm Rd.nil ar aq (Dl C);refine⟨rfl,_,λb hb=>qP hb,⟨_,ag⟩,?_⟩;have O1:gL (λb=>b=p) w (ku w4 p 29 [I 1,I 9,I (X.ib+1),I X.mv.b,I 0,I 0,I 0,I 0,OO,gN (G g3) (jW X.lay).length a7,.bool true,.map (some gm)]):=jO (S:=λb=>b=p) (.inl rfl) _ 29 w4 (HO.H (gL.B (a1.H ad)));exact H.mZ O1
end
def sR(k:Nat):List Int:=(List.range k).map λ(i:Nat)=>100+(i:Int)
def CY(k):sR (k+1)=sR k++[100+(k:Int)]:=by unfold sR;rw[dp,aZ];rfl
section
variable{w:World}
def jf.Xa(h:jf w gH t p qb X V)(e:V.bg=.map (some b)):b<w.heap.size:=by
 obtain⟨e',_⟩|⟨_,e',_⟩|⟨_,_,i⟩:=h.r.bg
 .simp_all
 .exact(h.r.vt.B.map (e'.symm.H e)).1
 exact(i.map e).1
def jf.WH(h:jf w gH t p qb X V)(r)(nodes)(qU)(v2 n2)(gm)(H:Rd w gH (t+3) 5 v2 (r.ct.val.map B8))(L:Rd w gH (t+3) 3 n2 (nodes.map I))(Q:w.heap[gm]?=some (.map #[] 0))(tg:gH gm=t+6)(y:r.kd≠7\/(V.bg=.map none/\X.mv.D=[]))(i:V.bg≠.map (some gm)):jf (ku w p 41 [I r.kd,I r.ln,I r.nr,I r.ep,I r.pl,I r.ct.kd,I r.ct.cl,I r.ct.ca,v2,n2,.bool qU,.map (some gm)]) gH t p qb {X with mv:={X.mv with A:=⟨r,nodes,qU,[]⟩}} {V with vt:=⟨v2,n2,.map (some gm)⟩}:=by
 have T:L5 w gH t {X.mv with A:=⟨r,nodes,qU,[]⟩} V.bg (.map (some gm)):=by
  obtain hk|hk:=y
  .obtain e|⟨_,W,F,_⟩|⟨_,_,F⟩:=h.r.bg
   .exact .inl e
   .exact .inr (.inr ⟨hk,i,by rw[W];show oI w gH _ _ _ X.mv.D;rw[F];exact h.r.vt.B⟩)
   exact .inr (.inr ⟨hk,i,F⟩)
  exact .inl hk
 exact h.uR (jO (S:=λb=>b=p) (.inl rfl) _ 41 w (gL.refl _ w)) (kA _ 41 w _ h.hp) ⟨h.r.lay,h.r.c,h.r.tb,h.r.mp,h.r.bo,h.r.bn,h.r.pr,h.r.sl,⟨H,L,oI.new Q tg,λe=>mi e⟩,T,h.r.b,h.r.d,h.r.a.gU,h.r.a.lt,h.r.a.a,h.r.a.b⟩
theorem sJ(h:jf w gH t p qb X V)(a3:100<=t)(hx:nf X)(kd pl)(val)(va)(vc)(hv:Rd w gH (t+3) 5 (gN va val.length vc) (val.map B8))(a4:kd≠7\/(V.bg=.map none/\X.mv.D=[])):iB 154 #[ptr p,Fg kd 0 0 0 pl 0 0 0 (gN va val.length vc)] w λen w'=>en=iw/\CS w gH t p qb (X.lH kd pl val) w':=by
 obtain⟨i3,ji,a9,aa,ab⟩:=fx il.tY;let⟨W,hW⟩:=gJ (w.alloc (im #[I kd,I 0,I 0,I 0,I pl,I 0,I 0,I 0,gN va val.length vc] 100));have bW:=(Bl.refl w).alloc (im #[I kd,I 0,I 0,I 0,I pl,I 0,I 0,I 0,gN va val.length vc] 100);have hX:=ao w (im #[I kd,I 0,I 0,I 0,I pl,I 0,I 0,I 0,gN va val.length vc] 100);rw[hW]at bW hX;have HN:Hid (∀W',Bl W W'->_):=λW' ac=>uF (h.bl (gI:=iq gH w.heap.size 5) (bW.H ac) λb hb=>gV _ _ _ _ hb) hx.a0 hx.a1;let⟨H,Hv,ad⟩:=iz h hv a4;obtain⟨_,_,_,_,v1,v5,_⟩:=hx.A;have ag:=h.A;let⟨a5,BW,HX⟩:=iz hW bW hX;have lg:w.heap.size<W.heap.size:=(ae.1 hX).1;have ai:Hid (p≠w.heap.size):=lT;have ak:=(h.bl (gI:=gH) bW hU).cellAt 24 rfl;obtain⟨⟨q0,q1,q2,q3,q4,q5,q6,q7,q8⟩,T,_⟩:=uf hX;have f1:=T 1;have f2:=T 2;have f3:=T 3;have b2:=af ag bW.lt;clear h hv hW bW hX T hx a4;go_enter func154,ntmps154;go_upto_region 1 with fail;rw[a5.o];clear a5;go_cut[] λwx=>Hid (jf wx (iq gH w.heap.size 5) t p qb {X with ib:=X.ib+1} V)/\Hid (wx.heap[w.heap.size]?=some (im #[I kd,I 9,I (X.ib+1),I X.mv.b,I pl,I 0,I 0,I 0,gN va val.length vc] 100 (0,0)))/\Hid (gL (λb=>b=p\/b=w.heap.size) W wx)
 case first=>
  go_region_with(go_at_call 194;refine(HN _ ?hb).L ?_;(case hb=>exact jg);rintro en w2⟨rfl,a0,a2⟩;have e1:=(a2.block w.heap.size lg (gS ai.o)).H HX;have b4:=a0.cellAt 24 rfl;obtain⟨⟨y0,y1,y2,y3,_⟩,T,ly⟩:=uf e1;have g1:=T 1;have g2:=T 2;have g3:=T 3;have b5:=a0.A;let⟨al,am,an⟩:=iz e1 a0 a2;clear a0 a2 e1 T);all_goals(go_wp2_with fail;go_meet)
  all_goals exact J5 (.inl (by rw[iJ _ _ _ _ jl];omega)) am al an jg
 case rest=>
  let⟨HC,HB,HO⟩:=hcut;obtain⟨⟨z0,z1,z2,z3,z4,z5,z6,z7,z8⟩,_,lz⟩:=uf HB;have c2:=HC.cellAt 2 rfl;have b6:=HC.A;have HQ:=gP λna nc W=>xJ W na X.vo nc kd 9 (X.ib+1) X.mv.b pl 0 0 0 va val.length vc;have b7:=BW.lt;have b8:=HO.size;clear q0 q1 q2 q3 q4 q5 q6 q7 q8 f1 f2 f3 ak HN HX;go_wp2;go_loopw[4,21](λv i wr=>∃j:Nat,j<=X.vo/\i=I j/\Hid (wr.ownsRow wc.heap.size 3 1 v j ((sR j).map I))/\Hid (Bl wc wr)) λ_ i _=>X.vo-(Go.RowKit.intOf i).toNat
  case atStart=>exact⟨0,ju,rfl,mT,jC⟩
  obtain⟨j,hj,rfl,F,y⟩:=hrel;by_cases ja:j<X.vo
  .have b0:(j:Int)<(X.vo:Int):=C;have HT:=gP (Z5 (List.map I) (CY j));have ap:Hid (j+1<=maxLen):=mV;have aq:Hid ((j+1)*8<=140737488355328):=lT;have b9:IntKind.i64.wrap (100+(j:Int))=100+(j:Int):=Z3 _ C;go_wp2_with(at_builtin;refine fm _ rfl _ _ 24 rfl wc.heap.size 3 i3 (I 0) 1 8 underlying24 ji a9 aa ab rfl gF u4 j _ rfl (F.alloc _) (U wr.heap.size 0) 1 1 [I (100+(j:Int))] rfl rfl (ZV _ _ _) rS gF ap aq (by have:=y.lt;simp;omega) (wr.heap.size+1) gG ?_);intro g' a6 w3 a1 Q ar b1;have au:Hid (Bl wc w3):=(y.alloc _).A (gL.A Q) λk e=>(F.lt k e.symm).1;have av:Hid (w3.ownsRow wc.heap.size 3 1 (gN (G g') (j+1) a6) (j+1) ((sR (j+1)).map I)):=by unfold Hid;rw[HT.o,aZ];exact a1
   clear a1 Q ar;go_wp2;go_roundw
   case rel=>exact⟨j+1,C,gG,av,au⟩
   exact iC
  have ba:¬((j:Int)<(X.vo:Int)):=C;have aw:j=X.vo:=C;subst aw;obtain⟨na,nc,rfl⟩:=jw F;have hB:=y.o;let⟨s0,s1,s2,s3⟩:=hB.M lz z0 z1 z2 z3;let⟨s4,s5,s6⟩:=hB.D lz z4 z5 z6;let⟨s7,s8⟩:=hB.B lz z7 z8;have bb:=af lz hB.lt;clear hB z0 z1 z2 z3 z4 z5 z6 z7 z8;go_wp2_with fail;refine(HQ _ _ _).L ?_;rintro en w3⟨gm,rfl,bc,a7,b3⟩;have aY:w.heap.size<=gm:=by have:=y.lt;omega
  obtain⟨g3,a8⟩:∃g3,∀b,(gN na X.vo nc).ownBlock=some b->b=g3:=by
   cases na with
   |none=>exact⟨0,λb hb=>ny hb⟩
   |some a=>exact⟨a.block,λb hb=>by simp[Value.ownBlock]at hb;exact hb.symm⟩
  have H3:jf w3 (vD gH w.heap.size gm g3 (t+6) (t+3)) t p qb {X with ib:=X.ib+1} V:=(HC.bl (y.H b3) (gI:=iq gH w.heap.size 5) hU).UO a3 λb hb=>qP hb;have oW:gL (λb=>b=p) w wc:=⟨HO.os.H BW.os,HO.tape.H BW.tape,HO.output.H BW.output,C,λi hi hs=>(HO.block i C C).H (BW.heap hi)⟩;have O3:=gP (oW.H (gL.B (y.H b3)));have V3:Rd w3 (vD gH w.heap.size gm g3 (t+6) (t+3)) (t+3) 5 (lF va val vc) (val.map B8):=Hv.only O3 (λb _ e=>by rw[e,H.tp];omega) (λb hb e=>by rw[qP hb];exact e);have N3:Rd w3 (vD gH w.heap.size gm g3 (t+6) (t+3)) (t+3) 3 (gN na X.vo nc) ((sR X.vo).map I):=(Rd.qj (gH:=vD gH w.heap.size gm g3 (t+6) (t+3)) (t:=t+3) F (λb hb=>by
   have:=F.lt b hb
   have e:=a8 b hb
   subst e
   exact CO C C)).bl b3 λ_ _ e=>e
  have HF:=gP (H3.WH ⟨kd,9,X.ib+1,X.mv.b,pl,⟨0,0,0,val⟩⟩ (sR X.vo) true (lF va val vc) (gN na X.vo nc) gm V3 N3 a7 (Dl aY) ad λe=>by have:=H.Xa e;omega);have bd:=H3.A;let⟨be,bg,bi,bm⟩:=H3.T 41 42 43 44 rfl;let⟨bn,bo,bp,bq⟩:=H3.T 45 46 47 48 rfl;let⟨bs,bv,bw,bx⟩:=H3.T 49 50 51 52 rfl;let⟨bz,bA,bB,bC⟩:=H3.Z 41 42 43 44;let⟨bD,bE,bR,bT⟩:=H3.Z 45 46 47 48;let⟨bV,bX,c0,c1⟩:=H3.Z 49 50 51 52;clear HQ a7 b3 H3 HC HB HO oW V3 N3 F y a8;go_wp2;go_end0;refine⟨rfl,_,λb hb=>qP hb,⟨_,HF⟩,?_⟩;exact H.mZ (jO (S:=λb=>b=p) (.inl rfl) [I kd,I 9,I (X.ib+1),I X.mv.b,I pl,I 0,I 0,I 0,gN va val.length vc,gN na X.vo nc,.bool true,.map (some gm)] 41 w3 O3)
end
def uo(e:Int)(ch:Bool):List Value:=[I e,.bool ch,.map none,I 0,OO,
 I 0,I 0,I 0,I 0,I 0,I 0,I 0,I 0,OO,OO,.bool false,.map none,
 I 0,I 0,I 0,I 0,I 0,I 0,I 0,I 0,OO,OO,.bool false,.map none]
theorem vX(p):∀(vs:List Value) (o:Nat) (w:World),w.setCells p o vs=ku w p o vs
 |[],_,_=>rfl
 |_::vs,o,_=>vX p vs (o+1) _
structure XN(X:Cx):Prop where
 e:0<=X.b/\X.b<=1000000000000000
 t:0<=X.e/\X.e<=1000000000000000
section
variable{w:World}
def Sz(X)(V)(e)(ch):yE (qW X V) 24 (uo e ch)=qW {X with mv:={Mv.zero with b:=e,c:=ch}} {V with bg:= .map none,b:= OO,sl:=QV.zero,vt:=QV.zero}:=ix
def jf.yL(h:jf w gH t p qb X V)(e)(ch):jf (ku w p 24 (uo e ch)) gH t p qb {X with mv:={Mv.zero with b:=e,c:=ch}} {V with bg:= .map none,b:= OO,sl:=QV.zero,vt:=QV.zero}:=
 h.uR (jO (S:=λb=>b=p) (.inl rfl) _ 24 w (gL.refl _ w)) (by
  have:=kA (uo e ch) 24 w _ h.hp
  rwa[Sz]at this) ⟨h.r.lay,h.r.c,h.r.tb,h.r.mp,h.r.bo,h.r.bn,h.r.pr,QR.zero,QR.zero,.inl ⟨rfl,rfl⟩,Rd.nil,h.r.d,h.r.a.gU,h.r.a.lt,h.r.a.a,h.r.a.b⟩
def nf.mv(h:nf X)(M):nf {X with mv:=M}:=⟨h.nB,h.ll,h.ne,h.a0,h.a1⟩
def jf.there(h:jf w gH t p qb X V):w.there p 24 29:=λj i=>by refine⟨?_,aP _ p _ _ 114 h.hp⟩;rw[ax _ p _ _ 114 _ h.hp];simp[qW];omega
theorem pg(h:jf w gH t p qb X V)(A:100<=t)(hx:nf X)(hn:XN X):iB 93 #[ptr p] w λen w'=>en=iw/\CS w gH t p qb X.jH w':=by
 let⟨e,he⟩:=gJ (max (X.b+1) (X.e-1));have HA:Hid (∀W,Bl w W->iB 154 #[ptr p,Fg 7 0 0 0 0 0 0 0 OO] (ku W p 24 (uo e (decide (e<X.e)))) λen w'=>en=iw/\CS w gH t p qb X.jH w'):=λW hW=>by have hk:=h.bl hW (gI:=gH) hU;have H1:=hk.yL e (decide (e<X.e));have O1:gL (λb=>b=p) W (ku W p 24 (uo e (decide (e<X.e)))):=jO (S:=λb=>b=p) (.inl rfl) _ 24 W (gL.refl _ W);refine(sJ H1 A (hx.mv _) 7 0 [] none 0 Rd.nil (.inr ⟨rfl,rfl⟩)).L λen w'⟨e1,e2⟩=>⟨e1,?_⟩;unfold Cx.jH;rw[he];exact CS.D hW (CS.iW (hk.mZ O1) e2)
 let⟨d5,F⟩:=h.R 5 22 rfl;have lp:=h.A;obtain⟨e0,e1⟩:=hn.e;obtain⟨t0,t1⟩:=hn.t;have w1:IntKind.i64.wrap (X.b+1)=X.b+1:=Z3 _ C;have w2:IntKind.i64.wrap (X.e-1)=X.e-1:=Z3 _ C;have Q:Hid (∀W,Bl w W->W.there p 24 (uo e (decide (e<X.e))).toArray.size):=λW hW=>(h.bl hW (gI:=gH) hU).there;have He:=gP he;clear h hx hn he;go_enter func93,ntmps93;go_upto_region 0 with fail;go_cut[2] λx wx=>x=I e/\Hid (Bl w wx)
 case first=>
  go_region;all_goals(go_wp2_with fail;go_meet)
  all_goals exact⟨mf He.o,jg⟩
 case rest=>obtain⟨rfl,HB⟩:=hcut;have a1:=(HB.cell lp).H F;have a2:=af lp HB.lt;let⟨a0,i⟩:=gO (HA wc HB) (Q wc HB);have T:(prog.info? 108).map (·.size)=some (uo e (decide (e<X.e))).toArray.size:=ix;have y:(uo e (decide (e<X.e))).toArray.all (·.oneCell')=true:=ix;clear HA Q d5 F w1 w2 He;go_upto_region 2 with((show Go.wpList _ _ _ [{dst:=none,op:=Op.store 108 _ _,type:=_,pos:=_,after:=_,guard:=_}] _ _);refine wpList_store_mid rfl 108 (.tmp 24) (.tmp 22) rfl p 24 (uo e (decide (e<X.e))).toArray rfl rfl i T y ?_);have hE:wc.setCells p 24 (uo e (decide (e<X.e))).toArray.toList=ku wc p 24 (uo e (decide (e<X.e))):=vX p _ 24 _;rw[hE];clear hE T y i;generalize ku wc p 24 (uo e (decide (e<X.e)))=W1 at*;go_wp2_with(go_at_call 154;refine iO a0 λw3 HS=>?_);go_end0;exact⟨rfl,HS⟩
theorem BL(h:jf w gH t p qb X V)(A:100<=t)(y:nf X)(F:XN X)(e)(he:0<=e/\e<=1000000000000000):iB 250 #[ptr p,I e] w λQ w'=>Q=iw/\CS w gH t p qb (X.iW e) w':=by
 let⟨Y,i⟩:=gJ (X.iW e);rw[i];unfold Cx.iW at i;let⟨d5,a1,a2⟩:=h.Km 5 22 24 rfl;have a3:=h.M 22;have lp:=h.A;by_cases h1:e<=X.b
 .rw[aE (.inl h1)]at i;subst i;have HF:=gP (CS.B (w':=w) ⟨V,h⟩ (Bl.refl w));clear h y F;go_enter func250,ntmps250;go_wp2;refine aG (v:= .tuple #[]) (by simp[results,results250,go_sem]) rfl ?_;exact⟨rfl,HF⟩
 by_cases h2:e<=X.e
 .rw[aE (.inr h2)]at i;subst i;have HF:=gP (CS.B (w':=w) ⟨V,h⟩ (Bl.refl w));clear h y F;go_enter func250,ntmps250;go_wp2;refine aG (v:= .tuple #[]) (by simp[results,results250,go_sem]) rfl ?_;exact⟨rfl,HF⟩
 rw[az C]at i;have H:gL (λb=>b=p) w (w.setCell (U p 22) (I e)):=(gL.refl (λb=>b=p) w).setCell (U p 22) (.inl rfl) _;have T:jf (w.setCell (U p 22) (I e)) gH t p qb {X with e:=e} V:=h.uR H (jx 22 _ w _ h.hp) ⟨h.r.lay,h.r.c,h.r.tb,h.r.mp,h.r.bo,h.r.bn,h.r.pr,h.r.sl,h.r.vt,h.r.bg,h.r.b,h.r.d,h.r.a.gU,h.r.a.lt,h.r.a.a,h.r.a.b⟩;have W:CS w gH t p qb {X with e:=e} (w.setCell (U p 22) (I e)):=CS.mk T (h.mZ H);by_cases h3:X.mv.b<e
 .rw[aE h3]at i;have HM:Hid (iB 93 #[ptr p] (w.setCell (U p 22) (I e)) λQ w'=>Q=iw/\CS w gH t p qb Y w'):=(pg T A ⟨y.nB,y.ll,y.ne,y.a0,y.a1⟩ ⟨F.e,he⟩).L λQ w'⟨e1,e2⟩=>⟨e1,by rw[<-i];exact CS.iW (h.mZ H) e2⟩;clear h y F T H W i;go_enter func250,ntmps250;go_wp2_with(go_at_call 93;refine iO HM λw3 HS=>?_);go_end0;exact⟨rfl,HS⟩
 rw[az h3]at i;subst i;have a0:=gP W;clear h y F T H W;go_enter func250,ntmps250;go_wp2;go_end0;exact⟨rfl,a0⟩
end
def Jo{L:List (List Int)}{x:Int}(h:rC L x us=some R):nS R L/\rF R us=true:=by
 unfold rC at h;split at h
 .rename_i A;simp at A;simp at h;subst h;refine⟨⟨by simp[wQ],λi r ch y F=>?_⟩,A.2⟩;have H:=aR y;unfold wQ at y;rw[aK,F]at y;simp at y;subst y;refine⟨cE,?_⟩;have:=A.2;unfold rF at this;rw[List.all_eq_true]at this;have:=this _ H;rw[cK]at this;obtain⟨u,Q,_⟩:=this;intro e;simp_all
 simp at h
def DR{α β:Type}{f:α->Option β}{l:List α}{b:β}(h:l.findSome? f=some b):∃a∈l,f a=some b:=List.exists_of_findSome?_eq_some h
def Cx.xp(h:X.next=some R):nS R X.lay/\rF R X.jX=true:=by let⟨a,_,i⟩:=DR h;exact Jo i
section
variable{w:World}
def jf.DB(h:jf w gH t p qb X V):qx w gH (t+3) V.bg X.mv.D:=by
 obtain e|⟨_,y,i,_⟩|⟨_,_,i⟩:=h.r.bg
 .exact .inl e
 .rw[y,i];exact h.r.vt.B.t
 exact i.t
def nS.Yj{L:List (List Int)}(h:nS R L)(A:∀ch∈L,∀u∈ch,0<=u/\u<=255):mR (jW R):=λd i=>by obtain⟨r,F,i⟩:=fq.1 i;obtain⟨ch,y,H,_⟩:=h.mem F;exact A ch y d (H.subset i)
def Jf(e:gH b=r):iq gH N r b=r:=by
 by_cases h:b<N
 .rw[gV _ _ _ _ h];exact e
 exact iJ _ _ _ _ C
def Fy(w:World)(gH:Nat->Nat)(t:Nat)(en:Ending):Option (List Int)->Prop
 |none=>en=.returned (.tuple #[OO,.bool false])
 |some v=>∃a c,en=.returned (.tuple #[.slice a v.length c,.bool true])/\Rd w gH t 5 (.slice a v.length c) (v.map B8)
theorem xY(h:jf w gH t p qb X V)(hx:nf X)(hs:zO X)(hu:A7 X)(hr:X.c.length<=1000000000)(h8:X.a.length<=8)(hB:∀z∈X.mv.D,mR z.2.val):iB 282 #[ptr p] w λT w'=>Fy w' (iq gH w.heap.size (t+3)) (t+3) T X.kF/\Bl w w':=by
 have a9:=h.cellAt 26 rfl;have lp:=h.A;obtain⟨mb,a1⟩:∃mb,V.bg=.map mb:=by
  obtain⟨e,_⟩|⟨_,_,_,e,_⟩:=h.DB
  .exact⟨_,e⟩
  exact⟨_,e⟩
 rw[a1]at a9;have HL:=gP (Bv h hx hs hu h.DB hB);rw[a1]at HL;have a3:∀z∈X.mW X.mv.D,mR z.2.val:=λz hz=>hB z (aU.1 hz).1;have HH:Hid (∀W v,qx W gH (t+3) v (X.mW X.mv.D)->_):=λW v hA=>rG hA a3;have HN:Hid (∀W,Bl w W->iB 303 #[ptr p] W λT w'=>xP W.heap.size w' X.lay.length T X.next/\Bl W w'):=λW hW=>Ta (h.bl hW (gI:=gH) hU) hx hs hu hr h8;let⟨b1,b2,_⟩:=hx.A;have aa:=hx.ll;have ab:Hid (∀W g ms R base,w.heap.size<=base->X.next=some R->mB base W g X.lay.length ms R->iB 304 #[gN (G g) X.lay.length X.lay.length] W λe w'=>∃a c,e=gX (gN a (jW R).length c)/\Rd w' (iq gH w.heap.size (t+3)) (t+3) 5 (gN a (jW R).length c) ((jW R).map B8)/\Bl W w'):=λW g ms R base ap hN hR=>by
  let⟨hS,_⟩:=Cx.xp hN;have a4:pV W (iq gH w.heap.size (t+3)) (t+3) _ R:=hR.lay λb hb=>iJ _ _ _ _ C;have aq:=hS.1;refine(LV a4 C C (λr hr=>?_) (hS.Yj hu)).L ?_
  .obtain⟨ch,ac,a5,ad⟩:=hS.mem hr;have h1:=hx.ne ch ac;have h2:=a5.length_le;have h3:0<r.length:=cU.2 ad;omega
  rintro e w'⟨a,c,rfl,ho,hb⟩;refine⟨a,c,rfl,Rd.qj ho λb ag=>iJ _ _ _ _ ?_,hb⟩;have h1:=(ho.lt b ag).1;have h2:=(hR.ie.lt g rfl);omega
 have ai:=gP Nj;let⟨Y,Q⟩:=gJ X.kF;rw[Q];unfold Cx.kF at Q;have H:=gP h;clear h hx hs hu hB a3 a1 aa;generalize jP (X.mW X.mv.D)=b at*;let⟨ak,ar⟩:=b;simp only at Q HH;by_cases h0:0<ak
 .rw[aE h0]at Q;have HY:=gP Q;clear Q;go_enter func282,ntmps282;go_wp2_with(first|(go_at_call 280;refine HL.L ?_;rintro T w2⟨v2,rfl,ha,hb⟩;let⟨HA,HB⟩:=gO ha hb;clear HL ha hb)|(go_at_call 277;refine(HH _ _ HA).L ?_;rintro T w3⟨x0,x1,s,rfl,i,y⟩;obtain⟨sa,sc,A⟩:=i.B;rw[ay]at A;subst A;let⟨HR,F⟩:=gO i (HB.H y);clear i y));go_ret2;rw[<-HY.o];exact⟨⟨sa,sc,rfl,HR.bl (jC.alloc _) λb _ e=>Jf e⟩,F.alloc _⟩
 rw[az h0]at Q
 cases hN:X.next with
 |none=>rw[hN]at Q HN;have HY:=gP Q;clear Q hN;go_enter func282,ntmps282;go_wp2_with(first|(go_at_call 280;refine HL.L ?_;rintro T w2⟨v2,rfl,ha,hb⟩;let⟨HA,HB⟩:=gO ha hb;clear HL ha hb)|(go_at_call 277;refine(HH _ _ HA).L ?_;rintro T w3⟨x0,x1,s,rfl,i,y⟩;obtain⟨sa,sc,A⟩:=i.B;rw[ay]at A;subst A;let⟨HR,F⟩:=gO i (HB.H y);clear i y)|(go_at_call 303;refine(HN _ (F.alloc _)).L ?_;rintro T w4⟨he,a0⟩;simp only[xP]at he;subst he;have a2:=gP ((F.alloc _).H a0);clear a0)|(go_at_call 304;refine gT (ai _) λw5 h5=>?_;have e5:=h5.symm;clear h5;subst e5));go_ret2;rw[<-HY.o];exact⟨rfl,a2⟩
 |some R=>rw[hN]at Q HN;let⟨HY,al⟩:=gO Q hN;clear Q hN;go_enter func282,ntmps282;go_wp2_with(first|(go_at_call 280;refine HL.L ?_;rintro T w2⟨v2,rfl,ha,hb⟩;let⟨HA,HB⟩:=gO ha hb;clear HL ha hb)|(go_at_call 277;refine(HH _ _ HA).L ?_;rintro T w3⟨x0,x1,s,rfl,i,y⟩;obtain⟨sa,sc,A⟩:=i.B;rw[ay]at A;subst A;let⟨HR,F⟩:=gO i (HB.H y);clear i y)|(go_at_call 303;refine(HN _ (F.alloc _)).L ?_;rintro T w4⟨he,a0⟩;simp only[xP]at he;obtain⟨g,ms,rfl,hR⟩:=he;have a6:=(F.alloc _).H a0;obtain⟨HC,a2⟩:=gO (ab w4 g ms R _ (F.alloc _).lt al hR) a6;clear a0 a6 hR)|(go_at_call 304;refine HC.L ?_;rintro T w5⟨a,c,rfl,a7,a8⟩;let⟨am,an⟩:=gO a7 a8;clear a7 a8));go_ret2;rw[<-HY.o];exact⟨⟨a,c,rfl,am⟩,a2.H an⟩
structure XG(X:Cx):Prop where
 b:0<=X.B/\X.B<=1000000000000000
 id:1000<=X.id/\X.id<=1099
 pr:∀z∈X.mv.D,z.2.pr<=1000000000000000
theorem Gp(h:∀z∈zz,z.2.pr<=1000000000000000):0<=kC zz/\kC zz<=1000000000000000:=by
 rw[yc];have:∀l:List Vo,(∀v∈l,v.pr<=1000000000000000)->0<=JI l/\JI l<=1000000000000000:=λl=>by
  induction l with
  |nil=>intro _;exact⟨gF,gF⟩
  |cons v l i=>intro h;have H:=i λu y=>h u (aX _ y);have L:=h v aN;rw[pY];omega
 exact this _ λv A=>by obtain⟨z,F,rfl⟩:=aD.1 A;exact h z F
def jf.B(h:jf w gH t p qb X V)(a):jf (w.setCell (U p 23) (I a)) gH t p qb {X with B:=a} V:=
 h.uR ((gL.refl (λb=>b=p) w).setCell (U p 23) (.inl rfl) _) (jx 23 _ w _ h.hp) ⟨h.r.lay,h.r.c,h.r.tb,h.r.mp,h.r.bo,h.r.bn,h.r.pr,h.r.sl,h.r.vt,h.r.bg,h.r.b,h.r.d,h.r.a.gU,h.r.a.lt,h.r.a.a,h.r.a.b⟩
def jf.Tz(h:jf w gH t p qb X V)(a):jf (w.setCell (U p 27) (I a)) gH t p qb {X with mv:={X.mv with B:=a}} V:=
 h.uR ((gL.refl (λb=>b=p) w).setCell (U p 27) (.inl rfl) _) (jx 27 _ w _ h.hp) ⟨h.r.lay,h.r.c,h.r.tb,h.r.mp,h.r.bo,h.r.bn,h.r.pr,h.r.sl,h.r.vt,h.r.bg,h.r.b,h.r.d,h.r.a.gU,h.r.a.lt,h.r.a.a,h.r.a.b⟩
theorem Bo(h:jf w gH t p qb X V)(hb:0<=X.B/\X.B<=1000000000000000)(hi:1000<=X.id/\X.id<=1099)(pr)(hp:0<=pr/\pr<=1000000000000000):iB 305 #[ptr p,I pr] w λT w'=>T=gX (I (X.jv pr))/\jf w' gH t p qb {X with B:=X.jv pr} V/\gL (λb=>b=p) w w':=by
 have HF:Hid (∀W,Bl w W->jf (W.setCell (U p 23) (I (X.jv pr))) gH t p qb {X with B:=X.jv pr} V):=λW hW=>(h.bl hW (gI:=gH) hU).B _;have HB:Hid (X.jv pr=(max pr X.B/100+1)*100+X.id-1000):=rfl;let⟨c4,i⟩:=h.R 4 23 rfl;have y:=h.M 23;have lp:=h.A;clear h;generalize X.jv pr=nb at*;generalize L:max pr X.B=m at*;have A:0<=m/\m<=1000000000000000:=C;have HM:=gP L;have hq:m.tdiv 100=m/100:=eF A.1;have a0:0<=m/100/\m/100<=10000000000000:=C;have w1:IntKind.i64.wrap (m/100)=m/100:=Z3 _ C;have w2:IntKind.i64.wrap (m/100+1)=m/100+1:=Z3 _ C;have w3:IntKind.i64.wrap ((m/100+1)*100)=(m/100+1)*100:=Z3 _ C;have w4:IntKind.i64.wrap ((m/100+1)*100+X.id)=(m/100+1)*100+X.id:=Z3 _ C;have w5:IntKind.i64.wrap ((m/100+1)*100+X.id-1000)=(m/100+1)*100+X.id-1000:=Z3 _ C;clear L;go_enter func305,ntmps305;go_upto_region 1 with fail;go_cut[] λQ=>Hid (jf Q gH t p qb {X with B:=nb} V)/\Hid (gL (λb=>b=p) w Q)
 case first=>
  go_region;all_goals(go_wp2_with fail;go_meet)
  all_goals
   have hE:(max pr X.B/100+1)*100+X.id-1000=nb:=by rw[HM.o];exact HB.symm
   rw[hE];exact⟨(HF w jC).bl jC.drew hU,((gL.refl (λb=>b=p) w).setCell (U p 23) (.inl rfl) _).H (gL.B jC.drew)⟩
 case rest=>let⟨F,HO⟩:=hcut;have a1:=F.cellAt 23 rfl;have a2:=F.A;clear i y HF;go_wp2;go_ret;exact⟨rfl,F,HO⟩
theorem vF(h:jf w gH t p qb X V)(a0:100<=t)(Q:nf X)(hs:zO X)(hu:A7 X)(hr:X.c.length<=1000000000)(h8:X.a.length<=8)(hB:∀z∈X.mv.D,mR z.2.val)(hb:XG X):iB 287 #[ptr p] w λF w'=>F=iw/\CS w gH t p qb X.lL w':=by
 let⟨HP,H⟩:=gO (xY h Q hs hu hr h8 hB) h;let⟨Y,A⟩:=gJ X.lL;rw[A];unfold Cx.lL at A
 cases hp:X.kF with
 |none=>rw[hp]at HP A;have A:X=Y:=A;subst A;clear h Q hs hu hB hb hp;go_enter func287,ntmps287;go_wp2_with(go_at_call 282;refine HP.L ?_;rintro F w2⟨he,i⟩;simp only[Fy]at he;subst he;have HB:=gP i;clear i);go_end0;exact⟨rfl,CS.B ⟨V,H⟩ HB⟩
 |some v0=>
  rw[hp]at HP A;simp only at A;have a1:=h.cellAt 26 rfl;have lp:=h.A;obtain⟨mb,T⟩:∃mb,V.bg=.map mb:=by
   obtain⟨e,_⟩|⟨_,_,_,e,_⟩:=h.DB
   .exact⟨_,e⟩
   exact⟨_,e⟩
  have a6:Hid (∀W,Bl w W->iB 306 #[.map mb] W λF w'=>F=gX (I (kC X.mv.D))/\Bl W w'):=λW hW=>by rw[<-T];exact C4 (h.DB.bl hW)
  rw[T]at a1;have a2:=Gp hb.pr;have a7:Hid (∀W,Bl w W->_):=λW hW=>Bo (h.bl hW (gI:=gH) hU) hb.b hb.id (kC X.mv.D) a2;have a8:Hid (∀W,jf W gH t p qb {X with B:=X.jv (kC X.mv.D)} V->gL (λb=>b=p) w W->iB 154 #[ptr p,Fg 5 0 0 0 (X.jv (kC X.mv.D)) 0 0 0 OO] (W.setCell (U p 27) (I (X.jv (kC X.mv.D)))) λF w'=>F=iw/\CS w gH t p qb Y w'):=λW hW hO=>by have hk:=hW.Tz (X.jv (kC X.mv.D));refine(sJ hk a0 ⟨Q.nB,Q.ll,Q.ne,Q.a0,Q.a1⟩ 5 _ [] none 0 Rd.nil (.inl gF)).L λF w'⟨e1,e2⟩=>⟨e1,?_⟩;rw[<-A];exact CS.iW (h.mZ (hO.setCell (U p 27) (.inl rfl) _)) e2
  clear h Q hs hu hB hb hp T A a2;generalize kC X.mv.D=pr at*;generalize X.jv pr=nb at*;go_enter func287,ntmps287;go_wp2_with(first|(go_at_call 282;refine HP.L ?_;rintro F w2⟨he,i⟩;simp only[Fy]at he;obtain⟨va,vc,rfl,_⟩:=he;have aa:=(i.cell lp).H a1;have ab:=af lp i.lt;have HB:=gP i;clear i)|(go_at_call 306;refine gT (a6 _ HB) λw3 a3=>?_;have a4:=gP (HB.H a3);clear a3)|(go_at_call 305;refine(a7 _ a4).L ?_;rintro F w4⟨rfl,y,a5⟩;have ac:=y.cellAt 27 rfl;have ad:=y.M 27;have ag:=y.A;have a9:=gP (a8 _ y ((gL.B a4).H a5));clear y a5)|(go_at_call 154;refine iO a9 λw5 HS=>?_));go_end0;exact⟨rfl,HS⟩
end
def qx.zE{w:World}(h:qx w gH t v zz):(Builtin.len_ #[104] 3 #[v]).run prog w=.ok (I zz.length) w:=by
 obtain⟨rfl,rfl⟩|⟨gm,clk,l,rfl,h⟩:=h
 .simp[Builtin.len_,Sem.run_bind,Z4 underlying104,Result.andThen];rfl
 have e:(iu l).size=zz.length:=by rw[<-h.len];simp[iu]
 simp[Builtin.len_,Sem.run_bind,Z4 underlying104,Result.andThen,aI h.mp,e];rfl
def qx.B{α:Type}[nY α]{w:World}{zz:List (Int×α)}(h:qx w gH t v zz):∃mb,v=.map mb:=by obtain⟨rfl,_⟩|⟨gm,_,_,rfl,_⟩:=h<;>exact⟨_,rfl⟩
section
variable{w:World}
def CS.uV(A:gL (λb=>Mc t (gH b)) w w1)(F:∀b,b<w.heap.size->gI b=gH b)(h:CS w1 gI t p qb X w'):CS w gH t p qb X w':=by let⟨y,L,Q,T⟩:=h;refine⟨y,λb i=>(L b (af i A.size)).H (F b i),Q,?_⟩;exact A.andThen T λb i e=>by rwa[F b i]at e
theorem tF(h:jf w gH t p qb X V)(i:nf X):iB 275 #[ptr p] w λF w'=>F=gX (I (X.nP:Nat))/\w'=w:=by
 obtain⟨_,_,_,_,Q,T,_⟩:=i.A;have c2:=h.cellAt 2 rfl;have W:=h.A;have H:((X.vo:Nat):Int).tdiv 2=((X.vo/2:Nat):Int):=by rw[eF C];omega
 have y:X.nP=X.vo/2+1:=rfl;rw[y];have L:X.vo/2<=2:=C;have A:(((X.vo/2+1:Nat)):Int)=((X.vo/2:Nat):Int)+1:=C;rw[A];generalize X.vo/2=d at*;have w1:IntKind.i64.wrap ((d:Int))=(d:Int):=Z3 _ C;have w2:IntKind.i64.wrap ((d:Int)+1)=(d:Int)+1:=Z3 _ C;clear h i y A;generalize ((X.vo:Nat):Int)=vo at*;go_enter func275,ntmps275;go_wp2;go_ret;exact⟨by first|rfl|(rw[H]),rfl⟩
def jf.II(h:jf w gH t p qb X V)(val)(v2)(i:Rd w gH (t+3) 5 v2 (val.map B8)):jf (w.setCell (U p 28) v2) gH t p qb {X with mv:={X.mv with value:=val}} {V with b:=v2}:=
 h.uR ((gL.refl (λb=>b=p) w).setCell (U p 28) (.inl rfl) _) (jx 28 _ w _ h.hp) ⟨h.r.lay,h.r.c,h.r.tb,h.r.mp,h.r.bo,h.r.bn,h.r.pr,h.r.sl,h.r.vt,h.r.bg,i,h.r.d,h.r.a.gU,h.r.a.lt,h.r.a.a,h.r.a.b⟩
structure G1(zz:List (Int×Vo)):Prop where
 a:∀z∈zz,mR z.2.val
 ba:∀z∈zz,(Lit.int .i64 z.2.ba).wf=true
 pr:∀z∈zz,z.2.pr<=1000000000000000
 len:zz.length<=100
def IN(h:100<=t)(i:nf X)(val)(W W2)(tag1)(V1)(F:∀b,b<w.heap.size->tag1 b=gH b)(H:jf W tag1 t p qb {X with mv:={X.mv with value:=val}} V1)(Q:gL (λb=>Mc t (gH b)) w W)(va)(vc)(T:Rd W tag1 (t+3) 5 (gN va val.length vc) (val.map B8))(y:Bl W W2):iB 154 #[ptr p,Fg 6 0 0 0 X.mv.B 0 0 0 (gN va val.length vc)] W2 λA w'=>A=iw/\CS w gH t p qb (({X with mv:={X.mv with value:=val}}:Cx).lH 6 X.mv.B val) w':=
 (sJ (H.bl y (gI:=tag1) hU) h ⟨i.nB,i.ll,i.ne,i.a0,i.a1⟩ 6 X.mv.B val va vc (T.bl y λ_ _ e=>e) (.inl gF)).L λA w'⟨e1,e2⟩=>⟨e1,CS.uV (Q.H (gL.B y)) F e2⟩
theorem yp(h:jf w gH t p qb X V)(b6:100<=t)(hx:nf X)(hs:zO X)(hu:A7 X)(hr:X.c.length<=1000000000)(h8:X.a.length<=8)(hB:G1 X.mv.D)(hV:G1 X.mv.A.B):iB 253 #[ptr p] w λQ w'=>Q=iw/\CS w gH t p qb X.kT w':=by
 have bq:=h.cellAt 52 rfl;have lp:=h.A;let⟨mb,b7⟩:=h.r.vt.B.t.B;have HD:=gP (FT h.r.vt.B.t);rw[b7]at bq HD;have aw:∀z∈nA X.mv.A.B,mR z.2.val:=λz hz=>hV.a z (aU.1 hz).1;have HL:Hid (∀W,Bl w W->∀v,qx W gH (t+3) v (nA X.mv.A.B)->_):=λW hW v hA=>Bv (h.bl hW (gI:=gH) hU) hx hs hu hA aw;have b8:∀z∈X.mW (nA X.mv.A.B),mR z.2.val:=λz hz=>aw z (aU.1 hz).1;have HH:Hid (∀W v,qx W gH (t+3) v (X.mW (nA X.mv.A.B))->_):=λW v hA=>rG hA b8;have ab:Hid (∀W,Bl w W->_):=λW hW=>tF (h.bl hW (gI:=gH) hU) hx;have HP:Hid (∀W i X1 V1,(∀b,b<w.heap.size->i b=gH b)->jf W i t p qb {X with mv:={X.mv with value:=X1}} V1->_):=λW i X1 V1 _ hk=>xY hk ⟨hx.nB,hx.ll,hx.ne,hx.a0,hx.a1⟩ ⟨hs.ids,hs.len⟩ hu hr h8 hB.a;have al:Hid (∀X1,({X with mv:={X.mv with value:=X1}}:Cx).kF=X.kF):=λ_=>rfl;let⟨Y,T⟩:=gJ X.kT;rw[T];unfold Cx.kT at T;simp only at T;have b9:=gP λval W W2 i V1=>IN (w:=w) (gH:=gH) (p:=p) (qb:=qb) (X:=X) b6 hx val W W2 i V1;have bB:X.nP<=3:=by obtain⟨_,_,_,_,v1,v5,_⟩:=hx.A;unfold Cx.nP;omega
 have H:=gP h;generalize hv:jP (X.mW (nA X.mv.A.B))=v at*;let⟨v1,vv⟩:=v;simp only at T HH;have HU:Hid (∀W v,qx W gH (t+3) v (nA X.mv.A.B)->_):=λW v hA=>Mn hA v1;have bC:(zU v1 (nA X.mv.A.B)).length<=100:=aF (bF _ _) (aF (bF _ _) hV.len);generalize zU v1 (nA X.mv.A.B)=uu at*;clear h hx hs hu hB hV aw b8 b7 hv;by_cases ja:uu.length<X.nP
 .rw[aE ja]at T;subst T;have ba:((uu.length:Nat):Int)<((X.nP:Nat):Int):=C;go_enter func253,ntmps253;go_wp2_with(first|(go_at_call 279;refine HD.L ?_;rintro Q w2⟨v2,rfl,y,hb⟩;obtain⟨bs,rfl⟩:=y.B;let⟨ac,ad⟩:=gO y hb;clear HD y hb)|(go_at_call 280;refine(HL _ ad _ ac).L ?_;rintro Q w3⟨v3,rfl,y,hb⟩;obtain⟨bv,rfl⟩:=y.B;let⟨aY,ag,b0⟩:=iz y hb (ad.H hb);clear y hb)|(go_at_call 277;refine(HH _ _ aY).L ?_;rintro Q w4⟨x0,x1,s,rfl,a0,a1⟩;obtain⟨sa,sc,ai⟩:=a0.B;rw[ay]at ai;subst ai;have bb:=gP a0;have a2:=b0.H a1;let⟨b1,bc,b2⟩:=iz (ac.bl ((ag.H a1).alloc (im (ry x0 x1 v1 sa vv sc) 222))) a2 (a2.alloc (im (ry x0 x1 v1 sa vv sc) 222));clear a0 a1 a2)|(go_at_call 281;refine(HU _ _ b1).L ?_;rintro Q w5⟨v5,rfl,y,hb⟩;obtain⟨bw,rfl⟩:=y.B;have bd:=y.zE;let⟨a8,be⟩:=gO (b2.H hb) hb;have a3:=(hb.heap gG).H (ao w4 (im (ry x0 x1 v1 sa vv sc) 222));let⟨z0,z1,z2,z3,lz⟩:=rX a3;have bg:=gP a3;clear y hb a3)|(go_at_call 275;refine gT (ab _ a8) λw6 h6=>?_;have e6:=h6.symm;clear h6;subst e6));refine aG (v:= .tuple #[]) (by simp[results,results253,go_sem]) rfl ?_;exact⟨rfl,CS.B ⟨V,H⟩ a8⟩
 rw[az ja]at T;have ba:¬((uu.length:Nat):Int)<((X.nP:Nat):Int):=C;have HY:=gP T;clear T;go_enter func253,ntmps253;go_upto_region 3 with(first|(go_at_call 279;refine HD.L ?_;rintro Q w2⟨v2,rfl,y,hb⟩;obtain⟨bs,rfl⟩:=y.B;let⟨ac,ad⟩:=gO y hb;clear HD y hb)|(go_at_call 280;refine(HL _ ad _ ac).L ?_;rintro Q w3⟨v3,rfl,y,hb⟩;obtain⟨bv,rfl⟩:=y.B;let⟨aY,ag,b0⟩:=iz y hb (ad.H hb);clear y hb)|(go_at_call 277;refine(HH _ _ aY).L ?_;rintro Q w4⟨x0,x1,s,rfl,a0,a1⟩;obtain⟨sa,sc,ai⟩:=a0.B;rw[ay]at ai;subst ai;have bb:=gP a0;have a2:=b0.H a1;let⟨b1,bc,b2⟩:=iz (ac.bl ((ag.H a1).alloc (im (ry x0 x1 v1 sa vv sc) 222))) a2 (a2.alloc (im (ry x0 x1 v1 sa vv sc) 222));clear a0 a1 a2)|(go_at_call 281;refine(HU _ _ b1).L ?_;rintro Q w5⟨v5,rfl,y,hb⟩;obtain⟨bw,rfl⟩:=y.B;have bd:=y.zE;let⟨a8,be⟩:=gO (b2.H hb) hb;have a3:=(hb.heap gG).H (ao w4 (im (ry x0 x1 v1 sa vv sc) 222));let⟨z0,z1,z2,z3,lz⟩:=rX a3;have bg:=gP a3;clear y hb a3)|(go_at_call 275;refine gT (ab _ a8) λw6 h6=>?_;have e6:=h6.symm;clear h6;subst e6));have a4:=H.bl a8 (gI:=gH) hU;have am:=bb.bl (((Bl.refl w4).alloc _).H be) (gI:=gH) λ_ _ e=>e;have a9:=a4.II vv _ am;have O6:gL (λb=>b=p) w5 (w5.setCell (U p 28) (lF sa vv sc)):=(gL.refl (λb=>b=p) w5).setCell (U p 28) (.inl rfl) _;have an:=am.only O6 (λb hb e=>by rw[e,a4.tp];omega) (gI:=gH) λ_ _ e=>e;have bi:=a4.cellAt 28 rfl;have bl:=a4.M 28;have bD:=a4.A;have bx:p≠w4.heap.size:=by have:=bc.lt;omega
 have ap:=(O6.block w4.heap.size lz (Ne.symm bx)).H bg;let⟨W6,aq⟩:=gJ (w5.setCell (U p 28) (lF sa vv sc));have ar:=gP aq;rw[aq]at a9 O6 ap an;let⟨y0,y1,y2,y3,ly⟩:=rX ap;have au:Hid (gL (λb=>b=p) w W6):=(gL.B a8).H O6;have av:=gP a9;by_cases h0:v1=0
 .subst h0;have T:=HY.o;rw[aE rfl]at T;have HY:=gP T;clear T;have a5:=gP (HP _ gH vv _ hU a9);rw[al.o]at a5;clear a4 a9 am O6 ap aq HP an;go_upto_region 4 with fail;rw[ar.o];clear ar z0 z1 z2 z3 bi bl;have hG:Hid (∀W i V1 (va:Option Addr) (vc:Nat) val,(∀b,b<w.heap.size->i b=gH b)->jf W i t p qb {X with mv:={X.mv with value:=val}} V1->gL (λb=>Mc t (gH b)) w W->Rd W i (t+3) 5 (lF va val vc) (val.map B8)->val=X.kF.getD []->∀W2,Bl W W2->iB 154 #[ptr p,Fg 6 0 0 0 X.mv.B 0 0 0 (lF va val vc)] W2 λQ w'=>Q=iw/\CS w gH t p qb Y w'):=λW i V1 va vc val ht hk ho hv he W2 hb=>by rw[<-HY.o,<-he];exact b9 val W W2 i V1 ht hk ho va vc hv hb
  cases hp:X.kF with
  |none=>
   rw[hp]at a5 hG;go_upto_region 6 with(go_at_call 282;refine a5.L ?_;rintro Q w7⟨he,a6⟩;simp only[Fy]at he;subst he;have A:=av.bl a6 (gI:=gH) hU;have b3:=A.cellAt 28 rfl;have b4:=A.M 28;have bz:=A.A;let⟨aa,b5⟩:=gO A a6;clear a6 A);have F:=aa.II [] OO Rd.nil;have O8:gL (λb=>b=p) w7 (w7.setCell (U p 28) OO):=(gL.refl (λb=>b=p) w7).setCell (U p 28) (.inl rfl) _;have a7:=gP (hG _ gH _ none 0 [] hU F (H.mZ ((au.H (gL.B b5)).H O8)) Rd.nil rfl);let⟨W8,ak⟩:=gJ (w7.setCell (U p 28) OO);rw[ak]at F a7|-;let⟨bm,bn⟩:=F.R 27 28 rfl;have bA:=F.A;clear F O8 ak aa b3 b4 HL HH HU ab al a5 hG y0 y1 y2 y3;go_upto_region 7 with fail;go_region_with(go_at_call 154;refine(a7 _ ?hb).L ?_;(case hb=>exact m8);rintro Q w9⟨rfl,hs⟩;have HS:=gP hs;clear hs);all_goals
    go_wp2;go_end0;exact⟨rfl,HS⟩
  |some v0=>
   rw[hp]at a5 hG;go_upto_region 6 with(go_at_call 282;refine a5.L ?_;rintro Q w7⟨he,a6⟩;simp only[Fy]at he;obtain⟨pa,pc,rfl,bo⟩:=he;have A:=av.bl a6 (gI:=iq gH W6.heap.size (t+3)) λb hb=>gV _ _ _ _ hb;have b3:=A.cellAt 28 rfl;have b4:=A.M 28;have bz:=A.A;let⟨aa,b5,bp⟩:=iz A a6 bo;clear a6 A bo);have F:=aa.II v0 (lF pa v0 pc) bp;have O8:gL (λb=>b=p) w7 (w7.setCell (U p 28) (lF pa v0 pc)):=(gL.refl (λb=>b=p) w7).setCell (U p 28) (.inl rfl) _;have l6:=au.size;have a7:=gP (hG _ (iq gH W6.heap.size (t+3)) _ pa pc v0 (λb hb=>gV _ _ _ _ C) F (H.mZ ((au.H (gL.B b5)).H O8)) (bp.only O8 (λb hb e=>by rw[e,aa.tp];omega) λ_ _ e=>e) rfl);let⟨W8,ak⟩:=gJ (w7.setCell (U p 28) (lF pa v0 pc));rw[ak]at F a7|-;let⟨bm,bn⟩:=F.R 27 28 rfl;have bA:=F.A;clear F O8 ak aa b3 b4 HL HH HU ab al a5 hG y0 y1 y2 y3 l6;go_upto_region 7 with fail;go_region_with(go_at_call 154;refine(a7 _ ?hb).L ?_;(case hb=>exact m8);rintro Q w9⟨rfl,hs⟩;have HS:=gP hs;clear hs);all_goals
    go_wp2;go_end0;exact⟨rfl,HS⟩
 have bE:(v1==0)=false:=by simpa using h0
 have T:=HY.o;rw[az h0]at T;have HY:=gP T;clear T;have a7:Hid (∀W2,Bl W6 W2->iB 154 #[ptr p,Fg 6 0 0 0 X.mv.B 0 0 0 (lF sa vv sc)] W2 λQ w'=>Q=iw/\CS w gH t p qb Y w'):=λW2 hb=>by rw[<-HY.o];exact b9 vv W6 W2 gH _ hU a9 (H.mZ au) sa sc an hb
 clear a4 a9 am O6 ap aq an;go_upto_region 4 with fail;rw[ar.o];clear ar z0 z1 z2 z3 bi bl;let⟨bm,bn⟩:=av.R 27 28 rfl;have bR:=av.A;clear HL HH HU ab al HP;go_upto_region 7 with fail;go_region_with(go_at_call 154;refine(a7 _ ?hb).L ?_;(case hb=>exact m8);rintro Q w8⟨rfl,hs⟩;have HS:=gP hs;clear hs);all_goals
  go_wp2;go_end0;exact⟨rfl,HS⟩
end
section
variable{w:World}
def Cx.T4(X:Cx)(u:Int):Prop:=0<=u/\u<X.n*X.m
def nf.Bi(h:nf X)(i:X.T4 u):Bi X.n X.m X.vo X.ce u=(u/X.m,0):=by unfold Go.Proofs.YtbghhbpacijmmaaGreat.Bi;let⟨y,A⟩:=i;simp[h.nB];omega
def nf.Vn(h:nf X)(y:X.T4 u):∃(j:Nat) (ch:List Int),u/X.m=(j:Int)/\j<X.n/\X.lay[j]?=some ch/\X.lay.getD (u/X.m).toNat []=ch/\1<=ch.length/\ch.length<=3:=by
 let⟨b1,_,H,_⟩:=h.A;let⟨A,F⟩:=y;have L:0<=u/(X.m:Int):=fC A C;have Q:u/(X.m:Int)<X.n:=gp C F;have i:(u/(X.m:Int)).toNat<X.lay.length:=by rw[h.ll];omega
 refine⟨(u/X.m).toNat,X.lay[(u/(X.m:Int)).toNat],C,C,ah i,?_,(h.ne _ (aL i)).1,(h.ne _ (aL i)).2⟩;rw[aS,ah i];rfl
theorem zI(h:jf w gH t p qb X V)(hx:nf X)(hc:c∈X.a)(hu:X.T4 c.unit):iB 92 #[ptr p,ptr (qb c.gU)] w λen w'=>en=iw/\CS w gH t p qb (X.kE c) w'/\gL (λb=>gH b=t+1\/gH b=t+2) w w':=by
 obtain⟨cv,k⟩:=h.r.d c hc;let⟨j,ch,hj,ad,a3,a4,ag,ai⟩:=hx.Vn hu;have HL:=gP λw=>ux X.n X.m X.vo X.ce c.unit w;rw[hx.Bi hu,hj]at HL;obtain⟨g,aa,cap,f,a5,ac,ak,tg,hg,a1⟩:=h.r.lay;let⟨x,a6,a2⟩:=a1 j ch a3;obtain⟨na,nc,a7⟩:=a2.B;rw[ay]at a7;subst a7;have cg:w.cell? (U g j)=some (gN na ch.length nc):=by rw[ax w g j aa 24 f hg];exact a6
 have lg:=(ae.1 hg).1;let⟨c0,c1,c2⟩:=h.Km 0 1 2 rfl;let⟨c3,c6⟩:=h.R 3 6 rfl;rw[a5,hx.ll]at c6;have e4:=k.cellAt 4 rfl;have lp:=h.A;have lq:=k.lt;have al:(0:Int)<=(j:Int):=C;have am:(j:Int)<(X.n:Int):=C;have HE:Hid (∀W wh,Bl w W->iB 96 #[ptr p,ptr (qb c.gU),.agg #[I wh,I 0,OO]] W λen w'=>en=iw/\CS w gH t p qb (X.fin c ⟨wh,0,[]⟩) w'/\gL (λb=>gH b=t+1\/gH b=t+2) w w'):=λW wh hW=>(J8 (h.bl hW (gI:=gH) λ_ _=>rfl) hc ⟨wh,0,[]⟩ none 0 Rd.nil).L λen w'⟨e1,e2,e3⟩=>⟨e1,CS.D hW e2,(gL.B hW).H e3⟩
 have HC:Hid (∀W,Bl w W->_):=λW hW=>xh (a2.bl hW (gI:=gH) λ_ _ e=>e) C c.unit;have HF:Hid (∀W,Bl w W->CS w gH t p qb X W/\gL (λb=>gH b=t+1\/gH b=t+2) w W):=λW hW=>⟨CS.B ⟨V,h⟩ hW,gL.B hW⟩;have hS:X.kE c=if c.unit∈ch then(if ch.length=1 then X.fin c ⟨6,0,[]⟩else X)else X.fin c ⟨1,0,[]⟩:=by unfold Cx.kE;rw[a4];simp
 let⟨Y,hY⟩:=gJ (X.kE c);rw[hY]at hS;rw[hY];have T:=gP hS;clear h k hx hu a1 a6 a2 hg a5 hS a3 a4 hY;generalize qb c.gU=q at*;go_enter func92,ntmps92;go_upto_region 0 with fail;go_cut[4,5] λx y wx=>x=I j/\y=I 0/\Hid (Bl w wx)
 case first=>
  go_region_with(go_at_call 90;refine(HL _).L ?_;rintro en w2⟨rfl,a8⟩;have hB:Bl w w2:=Bl.H jg a8;have HB:=gP hB;simp only[QG];clear hB a8);all_goals(go_wp2_with fail;go_meet)
  all_goals exact⟨rfl,rfl,HB⟩
 case rest=>
  obtain⟨rfl,rfl,HB⟩:=hcut;have d6:=(HB.cell lp).H c6;have dg:=(HB.cell lg).H cg;have d4:=(HB.cell lq).H e4;have an:=af lp HB.lt;have ap:=af lq HB.lt;have aq:=af lg HB.lt;by_cases F:c.unit∈ch
  .have A:decide (c.unit∈ch)=true:=by simpa using F
   have Q:=gP (HC _ HB);rw[A]at Q;by_cases h1:ch.length=1
   .have a0:=gP (HE wc 6 HB);have i:=T.o;rw[aE F,aE h1]at i;rw[<-i]at a0;clear HE HC F A i T;rw[h1]at dg Q;go_wp2_with(first|(go_at_call 153;refine Q.L ?_;rintro en w3⟨rfl,h3⟩;have e3:=h3.symm;clear h3;subst e3)|(go_at_call 96;refine a0.L ?_;rintro en w3⟨rfl,hs⟩;have HS:=gP hs;clear hs));go_end0;exact⟨rfl,HS⟩
   have ab:¬((ch.length:Nat):Int)=1:=C;have ar:(((ch.length:Nat):Int)==1)=false:=iU ab;have a9:=gP (HF wc HB);have i:=T.o;rw[aE F,az h1]at i;rw[<-i]at a9;clear HE HC F A i T;go_wp2_with(first|(go_at_call 153;refine Q.L ?_;rintro en w3⟨rfl,h3⟩;have e3:=h3.symm;clear h3;subst e3));go_end0;exact⟨rfl,a9⟩
  have A:decide (c.unit∈ch)=false:=by simpa using F
  have Q:=gP (HC _ HB);rw[A]at Q;have a0:=gP (HE wc 1 HB);have i:=T.o;rw[az F]at i;rw[<-i]at a0;clear HE HC F A i T;go_wp2_with(first|(go_at_call 153;refine Q.L ?_;rintro en w3⟨rfl,h3⟩;have e3:=h3.symm;clear h3;subst e3)|(go_at_call 96;refine a0.L ?_;rintro en w3⟨rfl,hs⟩;have HS:=gP hs;clear hs));go_end0;exact⟨rfl,HS⟩
def ME(h:jf w gH t p qb X V)(i:nf X)(y:c∈X.a)(A:X.T4 c.unit):iB 92 #[ptr p,ptr (qb c.gU)] w λF w'=>F=iw/\CS w gH t p qb (X.kE c) w':=
 (zI h i y A).L λ_ _ e=>⟨e.1,e.2.1⟩
structure Nq(X:Cx)(c:jz):Prop where
 kd:c.kind=1\/c.kind=2\/c.kind=3\/c.kind=4\/c.kind=5
 ad:(c.kind=1->Cx.ml c=false)->c.kind≠4->c.kind≠5->X.D c.ij
 un:c.kind=5->X.T4 c.unit
 nl:c.q.nodes.length<=100
theorem Ro(h:jf w gH t p qb X V)(i:100<=t)(F:nf X)(H:c∈X.a)(y:Nq X c):iB 296 #[ptr p,ptr (qb c.gU)] w λen w'=>en=iw/\CS w gH t p qb (X.kP c) w':=by
 obtain⟨cv,k⟩:=h.r.d c H;have e0:=k.cellAt 0 rfl;have lq:=k.lt;by_cases A:c.kind=5
 .have L:=gP (ME h F H (y.un A));have Q:X.kP c=X.kE c:=by unfold Cx.kP;rw[aE A]
  rw[Q];rw[A]at e0;clear h k F y;generalize qb c.gU=q at*;go_enter func296,ntmps296;go_wp2_with(go_at_call 92;refine iO L λw3 L=>?_);go_end0;exact⟨rfl,L⟩
 have HW:=gP (qV k y.nl);have a0:(c.kind==5)=false:=iU A;have Q:X.kP c=if Cx.ml c then X else X.dO c:=by unfold Cx.kP;rw[az A]
 rw[Q]
 cases T:Cx.ml c with
 |true=>rw[T]at HW;have HF:=gP (CS.B (w':=w) ⟨V,h⟩ (Bl.refl w));clear h k F y Q;generalize qb c.gU=q at*;go_enter func296,ntmps296;go_wp2_with(go_at_call 94;refine gT HW λw3 W=>?_;have e3:=W.symm;clear W;subst e3);go_end0;exact⟨rfl,HF⟩
 |false=>
  rw[T]at HW;have HD:Hid (iB 89 #[ptr p,ptr (qb c.gU)] w λen w'=>en=iw/\CS w gH t p qb (X.dO c) w'):=by
   obtain k1|k1|k1|k1|k1:=y.kd
   .exact DW h i F H (y.ad (λ_=>T) C A) (.inl k1)
   .exact Pe h i F H (y.ad (λ_=>T) C A) k1
   .exact DW h i F H (y.ad (λ_=>T) C A) (.inr k1)
   .exact Pp h i F H k1
   exact absurd k1 A
  clear h k F y Q;generalize qb c.gU=q at*;go_enter func296,ntmps296;go_wp2_with(first|(go_at_call 94;refine gT HW λw3 W=>?_;have e3:=W.symm;clear W;subst e3)|(go_at_call 89;refine iO HD λw3 L=>?_));go_end0;exact⟨rfl,L⟩
end
structure Ov(k:Nat)(Z Z':Cx):Prop where
 n:Z'.n=Z.n
 m:Z'.m=Z.m
 vo:Z'.vo=Z.vo
 ce:Z'.ce=Z.ce
 lay:Z'.lay=Z.lay
 ep:Z'.b=Z.b
 e:Z'.e=Z.e
 c:Z'.c.length=Z.c.length
 a0:Z.ib<=Z'.ib
 a1:Z'.ib<=Z.ib+1
 len:Z'.a.length<=Z.a.length
 mem:∀d∈Z.a,d.gU≠k->d∈Z'.a
def Ov.refl(k)(Z):Ov k Z Z:=⟨rfl,rfl,rfl,rfl,rfl,rfl,rfl,rfl,iK,C,jl,λ_ h _=>h⟩
def Ov.tR(Z)(c)(nodes)(kd pl)(u):Ov c.gU Z (Z.tR c nodes kd pl u):=by
 refine⟨rfl,rfl,rfl,rfl,rfl,rfl,rfl,rfl,?_,?_,?_,λd i h=>?_⟩
 .show Z.ib<=Z.ib+1;omega
 .exact iK
 .show(List.map _ _).length<=_;simp
 exact aD.2 ⟨d,i,by rw[az h]⟩
def Ov.fin(Z)(c)(r):Ov c.gU Z (Z.fin c r):=by
 refine⟨rfl,rfl,rfl,rfl,rfl,rfl,rfl,?_,iK,?_,bF _ _,λd i h=>?_⟩
 .show(Z.c.set _ _).length=_;simp
 .show Z.ib<=Z.ib+1;omega
 exact aU.2 ⟨i,iU h⟩
def Ov.kP(Z)(c):Ov c.gU Z (Z.kP c):=by
 unfold Cx.kP;split
 .unfold Cx.kE;split
  .split
   .exact Ov.fin Z c _
   exact Ov.refl _ Z
  exact Ov.fin Z c _
 split
 .exact Ov.refl _ Z
 unfold Cx.dO;split
 .exact Ov.tR Z {c with jb:=c.ie,c:=0} _ _ _ _
 split
 .exact Ov.tR Z c _ _ _ _
 split
 .exact Ov.tR Z {c with e:=⟨1,0,[]⟩} _ _ _ _
 exact Ov.refl _ Z
structure Ue(Y Z:Cx)(j:Nat)(rest:List jz):Prop where
 n:Z.n=Y.n
 m:Z.m=Y.m
 vo:Z.vo=Y.vo
 ce:Z.ce=Y.ce
 lay:Z.lay=Y.lay
 ep:Z.b=Y.b
 e:Z.e=Y.e
 c:Z.c.length=Y.c.length
 a0:Y.ib<=Z.ib
 a1:Z.ib<=Y.ib+j
 len:Z.a.length<=Y.a.length
 mem:∀d∈rest,d∈Z.a
def Ue.step{rest:List jz}(h:Ue Y Z j (c::rest))(y:∀d∈rest,d.gU≠c.gU):Ue Y (Z.kP c) (j+1) rest:=by have k:=Ov.kP Z c;exact⟨k.n.H h.n,k.m.H h.m,k.vo.H h.vo,k.ce.H h.ce,k.lay.H h.lay,k.ep.H h.ep,k.e.H h.e,k.c.H h.c,bt h.a0 k.a0,by have:=k.a1;have:=h.a1;omega,aF k.len h.len,λd i=>k.mem d (h.mem d (aX _ i)) (y d i)⟩
def Ue.QT{rest:List jz}(h:Ue Y Z j rest)(i:nf Y)(y:j<=50)(A:Y.ib+100<=1000000000000000):nf Z:=
 ⟨by rw[h.n,h.m,h.vo,h.ce];exact i.nB,by rw[h.lay,h.n];exact i.ll,by rw[h.lay];exact i.ne,bt i.a0 h.a0,gS h.a1⟩
def Ue.XU{rest:List jz}(h:Ue Y Z j rest)(i:Nq Y c):Nq Z c:=
 ⟨i.kd,λy A F=>by have:=i.ad y A F;unfold Cx.D at this|-;rw[h.n,h.ce];exact this,λy=>by have:=i.un y;unfold Cx.T4 at this|-;rw[h.n,h.m];exact this,i.nl⟩
section
variable{w:World}
def jf.U7(h:jf w gH t p qb X V)(e)(l)(lv)(i:pV w gH (t+3) lv l):jf ((((w.setCell (U p 5) (I e)).setCell (U p 6) lv).setCell (U p 53) (.bool false)).setCell (U p 54) (.bool false)) gH t p qb {X with b:=e,lay:=l,wb:=false,wl:=false} {V with lv:=lv}:=
 h.uR ((((((gL.refl (λb=>b=p) w).setCell (U p 5) (.inl rfl) _).setCell (U p 6) (.inl rfl) _).setCell (U p 53) (.inl rfl) _).setCell (U p 54) (.inl rfl) _)) (jx 54 _ _ _ (jx 53 _ _ _ (jx 6 _ _ _ (jx 5 _ w _ h.hp)))) ⟨i,h.r.c,h.r.tb,h.r.mp,h.r.bo,h.r.bn,h.r.pr,h.r.sl,h.r.vt,h.r.bg,h.r.b,h.r.d,h.r.a.gU,h.r.a.lt,h.r.a.a,h.r.a.b⟩
end
end Go.Proofs.YtbghhbpacijmmaaGreat
