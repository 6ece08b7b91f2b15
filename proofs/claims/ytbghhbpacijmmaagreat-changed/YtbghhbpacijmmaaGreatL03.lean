import Derived.Deep.RegionHeld3
import Derived.Deep.DeepCutAuto
import Derived.MapKept
import Derived.Test.YtbghhbpacijmmaaGreatL02
open Go.Proofs.Tryz
namespace Go.Proofs.YtbghhbpacijmmaaGreat
set_option maxRecDepth 99999
set_option maxHeartbeats 0
set_option linter.defProp false
set_option linter.unusedVariables false
open Go.RowKit Go.Maps
attribute [local go_sem ↓] Go.wp_at_zero Go.wp_at_succ
open Go.ChangeMaps (setBlock)
variable {w w' W w2:World} {p tg g gm clk n:Nat} {rs:List Rc} {a b ch c d ep mk:Int} {S S':Nat->St} {K K':Nat->Value} {t:TypeId} {gH gI:Nat->Nat} {jt ds ys:List Int} {v x0 x1 x2:Value} {ct:Nat->Ct} {r:Rc} {ad xa ba:Option Addr} {cs:Array Value} {xs:List Value} {s:St} {T:Nat->Prop}
section
def no:Ct:=⟨0,0,0,[]⟩
def St.first:St:=⟨0,0,λ_=>no⟩
structure AS(a b c d ch:Int)(rs:List Rc)(S:Nat->St):Prop where
 zero:S 0=St.first
 step:∀j,(h:j<rs.length)->vk a b c d ch (S j) rs[j] (S (j+1))
 ok:∀r∈rs,r.Ok lG
theorem AS.xH(h:AS a b c d ch rs S):∀j,j<=rs.length->∀i,i<16->((S j).ct i).val.length<=255:=by
 intro j;induction j with
 |zero=>intro _ i _;rw[h.zero];simp[St.first,no]
 |succ j y=>
  intro L i F;have A:=h.step j C;have y:=y C i F;generalize S (j+1)=M at A|-;generalize rs[j]=r at A
  cases A with
  |mD=>exact y
  |uU=>exact y
  |write e x kd P Q ys V _ _ _ _ H=>
   simp only;split
   .have:=yN H;simp;omega
   exact y
def UG(i)(h:i<72):zeroCells248[i]?=some (if i=71 then OO else if i<7 then I 0 else if(i-7)%4=3 then OO else I 0):=by have e:zeroCells248.toList=(List.range 72).map (λi=>if i=71 then gN none 0 0 else if i<7 then I 0 else if(i-7)%4=3 then OO else I 0):=ix;rw[<-gw,e,aK,cD h];rfl
def Ks.sq(a b c d ch):∃K:Nat->Value,∀(base:Nat) (w:World) (p:Nat),w.heap[p]?=some (im (((((zeroCells248.setIfInBounds 0 (I a)).setIfInBounds 1 (I b)).setIfInBounds 2 (I c)).setIfInBounds 3 (I d)).setIfInBounds 4 (I ch)) 248 (0,0))->Ks base w p a b c d ch 0 0 (λ_=>no) [] K:=by
 have P:∀i,5<=i->(((((zeroCells248.setIfInBounds 0 (I a)).setIfInBounds 1 (I b)).setIfInBounds 2 (I c)).setIfInBounds 3 (I d)).setIfInBounds 4 (I ch))[i]?=zeroCells248[i]?:=by intro i H;rw[cO C,cO C,cO C,cO C,cO C]
 have Q:(((((zeroCells248.setIfInBounds 0 (I a)).setIfInBounds 1 (I b)).setIfInBounds 2 (I c)).setIfInBounds 3 (I d)).setIfInBounds 4 (I ch)).size=72:=by simp only[Array.size_setIfInBounds];rfl
 have V:(((((zeroCells248.setIfInBounds 0 (I a)).setIfInBounds 1 (I b)).setIfInBounds 2 (I c)).setIfInBounds 3 (I d)).setIfInBounds 4 (I ch))[0]?=some (I a):=rfl;have Y:(((((zeroCells248.setIfInBounds 0 (I a)).setIfInBounds 1 (I b)).setIfInBounds 2 (I c)).setIfInBounds 3 (I d)).setIfInBounds 4 (I ch))[1]?=some (I b):=rfl;have Z:(((((zeroCells248.setIfInBounds 0 (I a)).setIfInBounds 1 (I b)).setIfInBounds 2 (I c)).setIfInBounds 3 (I d)).setIfInBounds 4 (I ch))[2]?=some (I c):=rfl;have e3:(((((zeroCells248.setIfInBounds 0 (I a)).setIfInBounds 1 (I b)).setIfInBounds 2 (I c)).setIfInBounds 3 (I d)).setIfInBounds 4 (I ch))[3]?=some (I d):=rfl;have e4:(((((zeroCells248.setIfInBounds 0 (I a)).setIfInBounds 1 (I b)).setIfInBounds 2 (I c)).setIfInBounds 3 (I d)).setIfInBounds 4 (I ch))[4]?=some (I ch):=rfl;generalize (((((zeroCells248.setIfInBounds 0 (I a)).setIfInBounds 1 (I b)).setIfInBounds 2 (I c)).setIfInBounds 3 (I d)).setIfInBounds 4 (I ch))=j at*;refine⟨λi=>(j[i]?).getD undef,λbase w p h=>?_⟩;have y:∀i,5<=i->i<72->(j[i]?).getD undef=(if i=71 then OO else if i<7 then I 0 else if(i-7)%4=3 then OO else I 0):=by intro i H A;rw[P i H,UG i A];rfl
 have F:(j[71]?).getD undef= OO:=by rw[y 71 gF gF];rfl
 have L:∀i,i<16->(j[10+4*i]?).getD undef= OO:=by intro i A;rw[y _ C C,az C,az C,aE C]
 refine⟨⟨_,248,h,.inl rfl,λi A=>?_⟩,by simp only[V];rfl,by simp only[Y];rfl,by simp only[Z];rfl,by simp only[e3];rfl,by simp only[e4];rfl,?_,?_,?_,λi A=>?_,λi A=>?_,λi A=>?_,λi A=>?_,λi A g M=>?_⟩
 .simp only[dW (show i<j.size by omega),eN]
 .rw[y 5 gF gF];rfl
 .rw[y 6 gF gF];rfl
 .simp only[F];exact mT
 iterate 3
  .rw[y _ C C,az C,az C,az C];rfl
 .simp only[L i A];exact mT
 simp only[L i A]at M;simp[Value.ownBlock]at M
def Ks.base{base base':Nat}(h:Ks base w p a b c d ch ep mk ct jt K)(j:base'<=base):Ks base' w p a b c d ch ep mk ct jt K:=
 ⟨h.jU,h.k0,h.k1,h.k2,h.k3,h.k4,h.k5,h.k6,gZ h.ie λg e=>aF j (h.ie.lt g e).1,h.kd,h.cl,h.ca,λi y=>gZ (h.val i y) λg e=>aF j ((h.val i y).lt g e).1,h.mu⟩
structure Jc(p:Nat)(a b c d ch:Int)(rs:List Rc)(S:Nat->St)(w2:World)(j:Nat)(W:World):Prop where
 ks:∃K,Ks w2.heap.size W p a b c d ch (S j).ep (S j).mark (S j).ct (iE (rs.take j)) K/\(j=0->∀B,Ks B W p a b c d ch (S j).ep (S j).mark (S j).ct (iE (rs.take j)) K)
 only:gL (λb=>b=p) w2 W
 Yc:∃K,At w2 p K
def VR(hw:AS a b c d ch rs S)(hl:(iE rs).length<=1000000000000)(base):KD 185 (O p) p 71 base rs (Jc p a b c d ch rs S) where
 jt:=by rintro w2 W j⟨⟨K,A,_⟩,_,_⟩ hj;exact⟨_,_,A.jU.cell 71 gF,A.ie⟩
 xU:=by rintro w2 W j⟨_,_,⟨K,cs,t,Q,H,_⟩⟩;exact⟨cs,t,Q,by obtain rfl|rfl:=H<;>decide⟩
 only:=λh=>h.only
 bl:=λ⟨⟨K,A,hz⟩,H,h3⟩ V=>⟨⟨K,A.bl V,λe B=>(hz e B).bl V⟩,H.H (gL.B V),h3⟩
 step:=by
  rintro w2 W j nv vv h⟨⟨K,A,_⟩,F,hA⟩ hn hv Y;have Z:(iE (rs.take j)).length<=1000000000000:=by have:=PO rs j h;unfold off at this;omega
  refine(Lq w2.heap.size p base a b c d ch (S j) (S (j+1)) rs[j] _ K nv vv W A F.size Z (hw.xH j C) (hw.step j h) hn hv λg e e'=>?_).L ?_
  .have:=Y g e;have:=(A.ie.lt g e').1;omega
  rintro e W'⟨K',rfl,a0,y⟩;refine⟨rfl,⟨⟨K',?_,λe=>absurd e C⟩,?_,hA⟩,_,y,?_⟩
  .rw[aM h,lO];simpa [iE]using a0
  .refine⟨y.os.H F.os,y.tape.H F.tape,y.output.H F.output,aF F.size y.size,λi hi M=>?_⟩;rw[y.block i (af hi F.size) λe=>?_,F.block i hi M];obtain e|e:=e
   .exact M e
   have:=(A.ie.lt i e).1;omega
  rintro x cs f P (e|e)
  .obtain⟨a1,t,Q,H,_⟩:=A.jU;subst e;rw[Q]at P;simp only[aJ,Obj.cells.injEq]at P;obtain rfl|rfl:=H<;>exact absurd P.2.1 gF
  exact gY A.ie P gF e
open Go.RowKit
attribute [local go_sem ↓] Go.wp_at_zero Go.wp_at_succ
structure El(w:World)(ad:Option Addr)(n c:Nat)(rs:List Rc):Prop where
 n1:n<=(iE rs).length
 nc:n<=c
 c1:c<=9223372036854775807
 a:∃b o,(0<n->ad=some (U b o)/\b<w.heap.size)/\∀j d,j<n->(iE rs)[j]?=some d->w.cell? (U b (o+j))=some (B8 d)
def El.bl{c:Nat}(h:El w ad n c rs)(y:Bl w w'):El w' ad n c rs:=by let⟨F,H,L,b,o,i,M⟩:=h;refine⟨F,H,L,b,o,λA=>⟨(i A).1,af (i A).2 y.lt⟩,λj d P Q=>?_⟩;rw[y.cell (i C).2];exact M j d P Q
def Bl.SB(h:Bl w w2)(i:gL (λb=>b=p) w2 w')(j:w.heap.size<=p):Bl w w':=h.A i λn e=>C
theorem NJ(a b c d u ch)(ad)(n cc)(rs)(S)(w)(Q:Bi a b c d u=(ch,0))(hw:AS a b c d ch rs S)(hl:(iE rs).length<=1000000000000)(hd:El w ad n cc rs):iB 146 #[.agg #[I a,I b,I c,I d],I u,gN ad n cc] w λe w'=>∃k p K,e=gX (.tuple #[O p,I 0])/\k<=rs.length/\off rs k<=n/\(∀h:k<rs.length,n<off rs k+rs[k].bytes.length)/\w.heap.size<=p/\Ks w.heap.size w' p a b c d ch (S k).ep (S k).mark (S k).ct (iE (rs.take k)) K/\(k=0->∀B,Ks B w' p a b c d ch (S k).ep (S k).mark (S k).ct (iE (rs.take k)) K)/\Bl w w':=by
 have bA:=gP ((Bl.refl w).alloc (rz a b c d));have a0:Hid (∀W,iB 90 #[.agg #[I a,I b,I c,I d],I u] W λe w'=>e=gX (.tuple #[I ch,I 0])/\Bl W w'):=λW=>by have:=ux a b c d u W;rwa[Q]at this
 let⟨Y,Hd⟩:=gO hw hd;clear Q hw hd;go_enter func146,ntmps146;go_wp2_with fail;refine gT (a0 _) λi j=>?_;have g0:=(j.cell (o:=0) gG).H (ax _ _ 0 _ 27 (0,0) (ao w _));have g1:=(j.cell (o:=1) gG).H (ax _ _ 1 _ 27 (0,0) (ao w _));have g2:=(j.cell (o:=2) gG).H (ax _ _ 2 _ 27 (0,0) (ao w _));have g3:=(j.cell (o:=3) gG).H (ax _ _ 3 _ 27 (0,0) (ao w _));simp at g0 g1 g2 g3;have F:=gP (bA.H j);clear j;let⟨HF,bB⟩:=gO (ao i (im (((((zeroCells248.setIfInBounds 0 (I a)).setIfInBounds 1 (I b)).setIfInBounds 2 (I c)).setIfInBounds 3 (I d)).setIfInBounds 4 (I ch)) 248)) ((Bl.refl i).alloc (im (((((zeroCells248.setIfInBounds 0 (I a)).setIfInBounds 1 (I b)).setIfInBounds 2 (I c)).setIfInBounds 3 (I d)).setIfInBounds 4 (I ch)) 248));let⟨K0,y⟩:=Ks.sq a b c d ch;have y:=gP y;go_wp2;have HO:Hid (∀W Z,i.heap.size<W.heap.size->Bl w W->W.heap[i.heap.size]?=some (im (((((zeroCells248.setIfInBounds 0 (I a)).setIfInBounds 1 (I b)).setIfInBounds 2 (I c)).setIfInBounds 3 (I d)).setIfInBounds 4 (I ch)) 248 (0,0))->mn W Z 0 lG->iB 183 #[.pointer (some (U i.heap.size 71)),gN ad n cc,gN (G Z) 3 3,.func (.func 185) #[O i.heap.size] #[]] W λe w'=>∃k K,e=gX (.bool true)/\k<=rs.length/\off rs k<=n/\(∀h:k<rs.length,n<off rs k+rs[k].bytes.length)/\Ks w.heap.size w' i.heap.size a b c d ch (S k).ep (S k).mark (S k).ct (iE (rs.take k)) K/\(k=0->∀B,Ks B w' i.heap.size a b c d ch (S k).ep (S k).mark (S k).ct (iE (rs.take k)) K)/\Bl w w'):=by
  intro W Z ja P hh a1;obtain⟨h1,h2,h3,b',o',h4,h5⟩:=Hd.bl P;refine(Fp (O i.heap.size) i.heap.size 71 ad b' o' cc n Z 0 3 rs lG W _ (VR (p:=i.heap.size) Y hl W.heap.size) (λw2 A=>?_) h1 h2 (aF h1 hl) h3 h4 h5 a1 gF Y.ok).L ?_
  .have V:=(A.heap ja).H hh;have hk:=y w2.heap.size w2 i.heap.size V;refine⟨⟨K0,?_,?_⟩,ug,⟨K0,hk.jU⟩⟩
   .rw[Y.zero];exact hk
   intro _ B;rw[Y.zero];exact y B w2 i.heap.size V
  rintro e w'⟨k,w2,rfl,r1,r2,r3,A,⟨K,hK,hz⟩,hO,_⟩;exact⟨k,K,rfl,r1,r2,r3,hK.base (aF P.lt A.lt),hz,(P.H A).SB hO F.lt⟩
 have a2:Hid (∀W,Bl (i.alloc (im (((((zeroCells248.setIfInBounds 0 (I a)).setIfInBounds 1 (I b)).setIfInBounds 2 (I c)).setIfInBounds 3 (I d)).setIfInBounds 4 (I ch)) 248)) W->W.heap.size=i.heap.size+1->iB 184 #[] W λe w3=>e=gX (gN (G (i.heap.size+1)) 3 3)/\iB 183 #[.pointer (some (U i.heap.size 71)),gN ad n cc,gN (G (i.heap.size+1)) 3 3,.func (.func 185) #[O i.heap.size] #[]] w3 λe w'=>∃k K,e=gX (.bool true)/\k<=rs.length/\off rs k<=n/\(∀h:k<rs.length,n<off rs k+rs[k].bytes.length)/\Ks w.heap.size w' i.heap.size a b c d ch (S k).ep (S k).mark (S k).ct (iE (rs.take k)) K/\(k=0->∀B,Ks B w' i.heap.size a b c d ch (S k).ep (S k).mark (S k).ct (iE (rs.take k)) K)/\Bl w w'):=by intro W P a3;refine(IE W).L ?_;rw[a3];rintro e w3⟨rfl,a4,M⟩;have ja:i.heap.size<W.heap.size:=C;exact⟨rfl,HO _ _ (af ja M.lt) (((F.H bB).H P).H M) ((M.heap ja).H ((P.heap gG).H HF)) a4⟩
 clear HO;go_region_with(first
  |(go_at_call 184;refine iO (a2 _ (by exact jC.drewN _) gG) λw3 a5=>?_)
  |(go_at_call 183;refine a5.L ?_;rintro e w4⟨k,K,rfl,r1,r2,r3,r4,r6,r5⟩;let⟨R6,R1,R2⟩:=iz r6 r1 r2;let⟨R3,R4,R5⟩:=iz r3 r4 r5;clear r1 r2 r3 r4 r5 r6))
 all_goals
  go_wp2;go_ret2;exact⟨k,_,K,rfl,R1,R2,R3,F.lt,R4,R6,R5⟩
end
def FM:List (Int×Int×Int):=[(1,2,0),(2,2,255)]
theorem FJ(w):iB 186 #[] w λe w'=>e=gX (gN (G w.heap.size) 2 2)/\mn w' w.heap.size 0 FM/\Bl w w':=by
 go_enter func186,ntmps186;go_wp2;go_ret;refine⟨rfl,⟨gG,λj h=>?_⟩,jC.alloc _⟩
 match j,h with
 |0,_=>exact⟨ax _ _ 0 _ 322 (0,0) (ao w _),ax _ _ 1 _ 322 (0,0) (ao w _),ax _ _ 2 _ 322 (0,0) (ao w _)⟩
 |1,_=>exact⟨ax _ _ 3 _ 322 (0,0) (ao w _),ax _ _ 4 _ 322 (0,0) (ao w _),ax _ _ 5 _ 322 (0,0) (ao w _)⟩
 |n+2,h=>simp[FM]at h;omega
def UE:Ep:=⟨0,0,[]⟩
structure pX(rs:List Rc)(S:Nat->Int->Ep):Prop where
 zero:S 0=λ_=>UE
 step:∀j,(h:j<rs.length)->tK (S j) rs[j] (S (j+1))
 ok:∀r∈rs,r.Ok FM
theorem pX.xH{S:Nat->Int->Ep}(h:pX rs S):∀j,j<=rs.length->∀e,(S j e).val.length<=255/\∀d∈(S j e).val,0<=d/\d<=255:=by
 intro j;induction j with
 |zero=>intro _ e;rw[h.zero];simp[UE]
 |succ j i=>
  intro H e;have y:=h.step j C;have i:=i C;generalize S (j+1)=L at y|-;generalize rs[j]=r at y
  cases y with
  |prep e' b _ _ _=>
   unfold mS;split
   .exact i e'
   exact i e
  |acc e' b ys _ _ _ _ F A _=>
   unfold mS;split
   .exact⟨F,A⟩
   exact i e
structure Jv(p bm:Nat)(rs:List Rc)(S:Nat->Int->Ep)(w2:World)(j:Nat)(W:World):Prop where
 vs:∃M vi,Vs w2.heap.size W p bm j (S j) (iE (rs.take j)) M vi 253/\(j=0->∀B,W.ownsRow B 5 1 vi 0 []/\∀e,M e=VP)
 only:gL (λb=>b=p\/b=bm) w2 W
 Yc:∃vi,w2.heap[p]?=some (.cells #[.map (some bm),vi] 253 (0,0))
 Yp:∃es cl,w2.heap[bm]?=some (.map es cl)
def Vu{bm:Nat}{S:Nat->Int->Ep}(Y:pX rs S)(hl:(iE rs).length<=1000000000000)(base):GN 187 (O p) p 1 bm base rs (Jv p bm rs S) where
 jt:=by rintro w2 W j⟨⟨M,Q,A,_⟩,_,_,_⟩ hj;exact⟨_,_,A.c1,A.ie⟩
 Xn:=by rintro w2 W j⟨_,_,⟨Q,h⟩,_⟩;exact(ae.1 h).1
 OF:=by
  rintro w2 W j⟨_,_,⟨Q,h⟩,⟨es,cl,hm⟩⟩ b cs e f V F;obtain rfl|rfl:=V
  .rw[h]at F;simp only[aJ,Obj.cells.injEq]at F;rw[<-F.2.1];decide
  rw[hm]at F;simp at F
 only:=λh=>h.only
 bl:=λ⟨⟨M,Q,A,hz⟩,h2,h3,h4⟩ V=>⟨⟨M,Q,A.bl V,λe B=>⟨(iT V).iX (hz e B).1 λ_ _ e=>e,(hz e B).2⟩⟩,h2.H (gL.B V),h3,h4⟩
 step:=by
  rintro w2 W j nv vv h⟨⟨M,Q,A,_⟩,H,hA,hB⟩ hn hv Z;have a0:(iE (rs.take j)).length<=1000000000000:=by have:=PO rs j h;unfold off at this;omega
  have a1:j<=1000000000000:=by have:=CX rs j C;unfold off at this;omega
  refine(Jr w2.heap.size p bm j base (S j) (S (j+1)) rs[j] _ M Q 253 nv vv W A H.size a0 a1 (Y.xH j C) (Y.step j h) (Y.ok _ (aL h)).wf hn hv λg e e'=>?_).L ?_
  .have:=Z g e;have:=(A.ie.lt g e').1;omega
  rintro e W'⟨M',a2,rfl,a3,y⟩;refine⟨rfl,⟨⟨M',a2,?_,λe=>absurd e C⟩,?_,hA,hB⟩,_,y,?_⟩
  .rw[aM h,lO];simpa [iE]using a3
  .refine⟨y.os.H H.os,y.tape.H H.tape,y.output.H H.output,aF H.size y.size,λi hi P=>?_⟩;rw[y.block i (af hi H.size) λe=>?_,H.block i hi P];obtain e|e|e:=e
   .exact P (.inl e)
   .exact P (.inr e)
   have:=(A.ie.lt i e).1;omega
  rintro x cs f F (e|e|e)
  .subst e;rw[A.jU]at F;simp only[aJ,Obj.cells.injEq]at F;exact absurd F.2.1 gF
  .exact A.mp.ne F e
  exact gY A.ie F gF e
theorem Lg(ad)(n cc)(rs)(S)(w)(hw:pX rs S)(hl:(iE rs).length<=1000000000000)(hd:El w ad n cc rs):iB 147 #[gN ad n cc] w λe w'=>∃k p bm M j,e=gX (.tuple #[O p,I 0])/\k<=rs.length/\off rs k<=n/\(∀h:k<rs.length,n<off rs k+rs[k].bytes.length)/\w.heap.size<=p/\w.heap.size<=bm/\Vs w.heap.size w' p bm k (S k) (iE (rs.take k)) M j 253/\Bl w w':=by
 let⟨Y,Hd⟩:=gO hw hd;clear hw hd;have a0:(Instr.makeMap 251 none).run prog w=.ok (.map (some w.heap.size)) (w.alloc (.map #[] 0)):=by rfl
 go_enter func147,ntmps147;go_wp2;have b0:=gP (((Bl.refl w).alloc (.map #[] 0)).alloc (im #[.map (some w.heap.size),OO] 253));have a1:Hid (((w.alloc (.map #[] 0)).alloc (im #[.map (some w.heap.size),OO] 253)).heap[w.heap.size+1]?=some (im #[.map (some w.heap.size),OO] 253 (0,0))):=by have:=ao (w.alloc (.map #[] 0)) (im #[.map (some w.heap.size),OO] 253);rw[show(w.alloc (.map #[] 0)).heap.size=w.heap.size+1 from by simp]at this;exact this
 have a2:Hid (Mp ((w.alloc (.map #[] 0)).alloc (im #[.map (some w.heap.size),OO] 253)) w.heap.size 0 λ_=>VP):=(Mp.DJ w).bl (jC.alloc _);have HO:Hid (∀W,Bl ((w.alloc (.map #[] 0)).alloc (im #[.map (some w.heap.size),OO] 253)) W->W.heap.size=w.heap.size+2->iB 186 #[] W λe P=>e=gX (gN (G (w.heap.size+2)) 2 2)/\iB 183 #[.pointer (some (U (w.heap.size+1) 1)),gN ad n cc,gN (G (w.heap.size+2)) 2 2,.func (.func 187) #[O (w.heap.size+1)] #[]] P λe w'=>∃k M j,e=gX (.bool true)/\k<=rs.length/\off rs k<=n/\(∀h:k<rs.length,n<off rs k+rs[k].bytes.length)/\Vs w.heap.size w' (w.heap.size+1) w.heap.size k (S k) (iE (rs.take k)) M j 253/\Bl w w'):=by
  intro W hW a3;refine(FJ W).L ?_;rw[a3];rintro e P⟨rfl,a4,a5⟩;refine⟨rfl,?_⟩;have y:=hW.H a5;obtain⟨g1,g2,g3,b',o',g4,g5⟩:=Hd.bl (b0.H y);refine(vR 187 (.inr rfl) (O (w.heap.size+1)) (w.heap.size+1) 1 w.heap.size ad b' o' cc n (w.heap.size+2) 0 2 rs FM P _ (Vu (p:=w.heap.size+1) (bm:=w.heap.size) Y hl P.heap.size) (λw4 A=>?_) g1 g2 (aF g1 hl) g3 g4 g5 a4 gF Y.ok).L ?_
  .have i:=y.H A;have Q:=(i.heap gG).H a1;have V:=a2.bl i;refine⟨⟨_,_,⟨Q,.inl rfl,V,λe=>⟨OO,?_,?_,λg e=>ny e⟩,?_⟩,λ_ B=>⟨mT,λ_=>rfl⟩⟩,ug,⟨_,Q⟩,?_⟩
   .rw[Y.zero];rfl
   .rw[Y.zero];exact mT
   .exact mT
   obtain⟨D,⟨es,cl,hh,_⟩,_⟩:=V;exact⟨es,cl,hh⟩
  rintro e w'⟨k,w4,rfl,Z,r2,r3,A,⟨M,j,F,_⟩,a6,_,_⟩;have i:=(b0.H y).H A;refine⟨k,M,j,rfl,Z,r2,r3,?_,i.A a6 λn e=>C⟩;exact⟨F.jU,F.ty,F.mp,λe=>by
   obtain⟨vv,h1,h2,h3⟩:=F.ep e
   exact⟨vv,h1,gZ h2 λg e=>aF i.lt (h2.lt g e).1,h3⟩,gZ F.ie λg e=>aF i.lt (F.ie.lt g e).1⟩
 clear a0;go_region_with(first
  |(go_at_call 186;refine iO (HO _ (by exact jC.drewN _) gG) λP a7=>?_)
  |(go_at_call 183;refine a7.L ?_;rintro e w4⟨k,M,j,rfl,Z,r2,r3,r4,r5⟩;let⟨R1,R2,R3⟩:=iz Z r2 r3;let⟨R4,R5⟩:=gO r4 r5;clear Z r2 r3 r4 r5))
 all_goals
  go_wp2;go_ret2;exact⟨k,_,_,M,j,rfl,R1,R2,R3,C,jl,R4,R5⟩
def mR(ys:List Int):Prop:=∀d∈ys,0<=d/\d<=255
def Us(a b c d x:Int):Nat:=(oT a b c d x).2.1.toNat
def uS(gH:Nat->Nat)(N i:Nat)(v:Value):Nat->Nat:=λb=>if b<N then gH b else if v.ownBlock=some b then 1 else i
def nz(gH)(N i)(v)(b)(h:b<N):uS gH N i v b=gH b:=by simp[uS,h]
def EY(gH)(N i)(v)(b)(h:N<=b)(j:v.ownBlock=some b):uS gH N i v b=1:=by unfold uS;rw[az C,aE j]
def zC(gH)(N i)(v)(b)(h:N<=b)(j:v.ownBlock≠some b):uS gH N i v b=i:=by unfold uS;rw[az C,az j]
def iq(gH:Nat->Nat)(N i:Nat):Nat->Nat:=λb=>if b<N then gH b else i
def gV(gH)(N i b)(h:b<N):iq gH N i b=gH b:=by simp[iq,h]
def iJ(gH)(N i b)(h:N<=b):iq gH N i b=i:=by unfold iq;rw[az C]
def r9(gH)(N i):uS gH N i OO=iq gH N i:=rfl
def Fb{B:Nat}(h:w.ownsRow B 5 1 v n xs):∃a c,v=gN a n c:=by obtain⟨i,c',e'⟩:=(i7 h).len;rw[jh h]at e';simp_all
abbrev AU:Value:= OO
def Ks.XM{S:Nat->Prop}{base:Nat}(h:Ks base w p a b c d ch ep mk ct jt K)(j:gL S w w')(F:¬S p)(A:∀g,g<w.heap.size->KF K g->¬S g):Ks base w' p a b c d ch ep mk ct jt K:=
 ⟨h.jU.only j F,h.k0,h.k1,h.k2,h.k3,h.k4,h.k5,h.k6,j.iX h.ie λg e=>A g (h.ie.lt g e).2 (.inl e),h.kd,h.cl,h.ca,λi y=>j.iX (h.val i y) λg e=>A g ((h.val i y).lt g e).2 (.inr ⟨i,y,e⟩),h.mu⟩
def Ks.zero{base:Nat}(h:Ks base w p a b c d ch ep mk ct jt K):Ks 0 w p a b c d ch ep mk ct jt K:=
 ⟨h.jU,h.k0,h.k1,h.k2,h.k3,h.k4,h.k5,h.k6,gZ h.ie λ_ _=>ju,h.kd,h.cl,h.ca,λi j=>gZ (h.val i j) λ_ _=>ju,h.mu⟩
def Kt(w:World)(gH:Nat->Nat)(tg p:Nat)(a b c d ch:Int)(rs:List Rc)(S:Nat->St):Prop:=
 ∃K,Ks 0 w p a b c d ch (S rs.length).ep (S rs.length).mark (S rs.length).ct (iE rs) K/\AS a b c d ch rs S/\gH p=tg/\∀g,KF K g->gH g=tg
def Kt.V7(h:Kt w gH tg p a b c d ch rs S):AS a b c d ch rs S:=by let⟨K,_,i,_⟩:=h;omega
def Kt.only(h:Kt w gH tg p a b c d ch rs S)(H:gL T w w')(j:∀b,b<w.heap.size->T b->gH b≠tg)(y:∀b,b<w.heap.size->gI b=gH b):Kt w' gI tg p a b c d ch rs S:=by let⟨K,i,L,A,F⟩:=h;exact⟨K,i.XM H (λe=>j p i.jU.lt e A) λg M hF e=>j g M e (F g hF),L,by rw[y p i.jU.lt,A],λg hF=>by rw[y g (i.IJ hF).2,F g hF]⟩
def TG(S:Nat->St)(n:Nat)(s:St):Nat->St:=λj=>if j=n+1 then s else S j
def wG(S)(rs)(r:Rc)(s):TG S rs.length s (rs++[r]).length=s:=by simp[TG]
def C1(S)(n k)(s)(h:k<=n):TG S n s k=S k:=by unfold TG;rw[az C]
def AS.snoc(h:AS a b c d ch rs S)(y:vk a b c d ch (S rs.length) r s)(A:r.Ok lG):AS a b c d ch (rs++[r]) (TG S rs.length s) where
 zero:=by rw[C1 _ _ _ _ ju];exact h.zero
 step:=λj i=>by
  rw[aO,dD]at i;by_cases e:j<rs.length
  .rw[C1 _ _ _ _ C,C1 _ _ _ _ C,dI e];exact h.step j e
  obtain rfl:j=rs.length:=C;unfold TG;simp_all
 ok:=λx hx=>by
  obtain hx|hx:=aT.1 hx
  .exact h.ok x hx
  simp_all
def Kt.step(j:Ks 0 w p a b c d ch (S rs.length).ep (S rs.length).mark (S rs.length).ct (iE rs) K)(F:AS a b c d ch rs S)(H:gH p=tg)(y:∀g,KF K g->gH g=tg)(h:vk a b c d ch (S rs.length) r s)(L:r.Ok lG)(i:Ks 0 w' p a b c d ch s.ep s.mark s.ct (iE rs++r.bytes) K')(A:Gk p K K' w w'):(∀v:Value,(∀g,v.ownBlock=some g->¬KF K' g)->Kt w' (uS gH w.heap.size tg v) tg p a b c d ch (rs++[r]) (TG S rs.length s))/\gL (λb=>gH b=tg) w w':=by
 have M:gL (λb=>gH b=tg) w w':=A.only.L λb _ e=>by
  obtain rfl|e:=e
  .omega
  exact y b (.inl e)
 refine⟨λv P=>⟨K',?_,F.snoc h L,by rw[nz _ _ _ _ _ j.jU.lt,H],λg hF=>?_⟩,M⟩
 .rw[wG];simpa [iE]using i
 obtain h1|h1:=A.a g hF
 .rw[nz _ _ _ _ _ (j.IJ h1).2,y g h1]
 exact zC _ _ _ _ _ h1 λe=>P g e hF
def Ob(e)(h:(Lit.int .i64 e).wf=true):Rc.Ok lG ⟨1,[e],[]⟩:=
 ⟨gG,gG,gG,gG,gG,by simp;exact h,gG,(1,1,0),gF,rfl,rfl,gG⟩
def OQ(e m)(h:(Lit.int .i64 e).wf=true)(i:(Lit.int .i64 m).wf=true):Rc.Ok lG ⟨2,[e,m],[]⟩:=
 ⟨gG,gG,gG,gG,gG,by simp;exact⟨h,i⟩,gG,(2,2,0),gF,rfl,rfl,gG⟩
def Nu(e x kd cl ca)(ys)(i:(Lit.int .i64 e).wf=true)(j:(Lit.int .i64 x).wf=true)(y:(Lit.int .i64 kd).wf=true)(A:(Lit.int .i64 cl).wf=true)(F:(Lit.int .i64 ca).wf=true)(H:ys.length<=8)(h:∀d∈ys,0<=d/\d<=255):Rc.Ok lG ⟨3,[e,x,kd,cl,ca],ys⟩:=
 ⟨gG,gG,gG,gG,ig,by simp;exact⟨i,j,y,A,F⟩,h,(3,5,8),gF,rfl,rfl,ig⟩
def NQ(h:Kt w gH tg p a b c d ch rs S)(i:(iE rs).length<=1000000000000):iB 169 #[O p] w λj w'=>∃v,j=gX v/\Bl w w'/\w'.ownsRow w.heap.size 5 1 v (iE rs).length ((iE rs).map B8):=by
 let⟨K,y,_⟩:=h;exact Nx 0 p a b c d ch _ _ _ _ K w y i
def RD(i:AS a b c d ch rs S)(u)(y:Bi a b c d u=(ch,0))(ad)(n cc)(P:(iE rs).length<=1000000000000)(Q:El w ad n cc rs)(gH)(tg):iB 146 #[.agg #[I a,I b,I c,I d],I u,gN ad n cc] w λF w'=>∃k p,F=gX (.tuple #[O p,I 0])/\k<=rs.length/\off rs k<=n/\(∀h:k<rs.length,n<off rs k+rs[k].bytes.length)/\w.heap.size<=p/\Bl w w'/\Kt w' (iq gH w.heap.size tg) tg p a b c d ch (rs.take k) S:=by
 refine(NJ a b c d u ch ad n cc rs S w y i P Q).L ?_;rintro F w'⟨k,p,K,rfl,V,Y,Z,H,M,_,h7⟩;have hk:(rs.take k).length=k:=by rw[bH];omega
 have A:AS a b c d ch (rs.take k) S:=⟨i.zero,λj hj=>by
  have:=i.step j C
  simpa  using this,λr hr=>i.ok r (cQ hr)⟩
 refine⟨k,p,rfl,V,Y,Z,H,h7,K,?_,A,iJ _ _ _ _ H,λg hF=>iJ _ _ _ _ (M.IJ hF).1⟩;rw[hk];exact M.zero
def qo(rs:List Rc)(S:Nat->St)(rs':List Rc)(S':Nat->St):Prop:=
 (rs'=rs/\S'=S)\/∃r s,rs'=rs++[r]/\S'=TG S rs.length s
def Kt.B(i:Ks 0 w p a b c d ch (S rs.length).ep (S rs.length).mark (S rs.length).ct (iE rs) K)(A:AS a b c d ch rs S)(F:gH p=tg)(j:∀g,KF K g->gH g=tg)(h:Ks 0 w' p a b c d ch (S rs.length).ep (S rs.length).mark (S rs.length).ct (iE rs) K')(y:Gk p K K' w w'):(∀v:Value,(∀g,v.ownBlock=some g->¬KF K' g)->Kt w' (uS gH w.heap.size tg v) tg p a b c d ch rs S)/\gL (λb=>gH b=tg) w w':=by
 have H:gL (λb=>gH b=tg) w w':=y.only.L λb _ e=>by
  obtain rfl|e:=e
  .omega
  exact j b (.inl e)
 refine⟨λv L=>⟨K',h,A,by rw[nz _ _ _ _ _ i.jU.lt,F],λg hF=>?_⟩,H⟩;obtain h1|h1:=y.a g hF
 .rw[nz _ _ _ _ _ (i.IJ h1).2,j g h1]
 exact zC _ _ _ _ _ h1 λe=>L g e hF
def tZ(K'):∀g,(gN none 0 0).ownBlock=some g->¬KF K' g:=λg e=>ny e
def Kt.K6{e:Int}(H:Ks 0 w p a b c d ch (S rs.length).ep (S rs.length).mark (S rs.length).ct (iE rs) K)(L:AS a b c d ch rs S)(M:gH p=tg)(P:∀g,KF K g->gH g=tg)(y:(Lit.int .i64 e).wf=true)(V:¬e<(S rs.length).ep)(h:Ks 0 w' p a b c d ch e (S rs.length).mark (S rs.length).ct (iE rs++if e=(S rs.length).ep then []else iV 1 [e] []) K')(Q:Gk p K K' w w'):∃i S',qo rs S i S'/\S' i.length=⟨e,(S rs.length).mark,(S rs.length).ct⟩/\(iE i).length<=(iE rs).length+24/\(∀v:Value,(∀g,v.ownBlock=some g->¬KF K' g)->Kt w' (uS gH w.heap.size tg v) tg p a b c d ch i S')/\gL (λb=>gH b=tg) w w':=by
 by_cases j:e=(S rs.length).ep
 .rw[aE j,cF,j]at h;let⟨A,F⟩:=Kt.B H L M P h Q;exact⟨rs,S,.inl ⟨rfl,rfl⟩,mf j,C,A,F⟩
 rw[az j]at h;obtain⟨A,F⟩:=Kt.step H L M P (vk.mD _ e C) (Ob e y) h Q;refine⟨_,_,.inr ⟨_,_,rfl,rfl⟩,wG _ _ _ _,?_,A,F⟩;simp[iE,Rc.bytes,oH]
def Ti(h:Kt w gH tg p a b c d ch rs S)(e)(A:(Lit.int .i64 e).wf=true)(hl:(iE rs).length<=1000000000000):iB 178 #[O p,I e] w λQ w'=>∃i S',Q=gX (if e<(S rs.length).ep then jK 5 (S rs.length).ep 0 0 0 0 AU else jK 1 e 0 0 0 0 AU)/\qo rs S i S'/\S' i.length=(if e<(S rs.length).ep then S rs.length else⟨e,(S rs.length).mark,(S rs.length).ct⟩)/\(iE i).length<=(iE rs).length+24/\Kt w' (iq gH w.heap.size tg) tg p a b c d ch i S'/\gL (λb=>gH b=tg) w w':=by
 let⟨K,F,V,Y,Z⟩:=h;refine(Ea 0 p a b c d ch _ _ _ (iE rs) K e w F ju hl).L ?_;rintro Q w'⟨K',rfl,j,hG⟩;by_cases y:e<(S rs.length).ep
 .rw[aE y,aE (.inl y)]at j;let⟨H,M⟩:=Kt.B F V Y Z j hG;refine⟨rs,S,rfl,.inl ⟨rfl,rfl⟩,by rw[aE y],C,?_,M⟩;rw[<-r9];exact H _ (tZ K')
 rw[az y]at j;have P:Ks 0 w' p a b c d ch e (S rs.length).mark (S rs.length).ct (iE rs++if e=(S rs.length).ep then []else iV 1 [e] []) K':=by
  by_cases hq:e=(S rs.length).ep
  .rw[aE (.inr hq)]at j;rw[aE hq,cF];exact j
  simp_all
 let⟨i,S',r0,H,M,r3,r4⟩:=Kt.K6 F V Y Z A y P hG;refine⟨i,S',rfl,r0,by rw[az y];exact H,M,?_,r4⟩;rw[<-r9];exact r3 _ (tZ K')
def Si(h:Kt w gH tg p a b c d ch rs S)(e m)(F:(Lit.int .i64 e).wf=true)(P:(Lit.int .i64 m).wf=true)(hl:(iE rs).length<=1000000000000):iB 177 #[O p,I e,I m] w λQ w'=>∃i S',Q=gX (if e<(S rs.length).ep then jK 5 (S rs.length).ep 0 0 0 0 AU else jK 1 0 (if(S rs.length).mark<m then m else(S rs.length).mark) 0 0 0 AU)/\qo rs S i S'/\S' i.length=(if e<(S rs.length).ep then S rs.length else⟨e,if(S rs.length).mark<m then m else(S rs.length).mark,(S rs.length).ct⟩)/\(iE i).length<=(iE rs).length+24/\Kt w' (iq gH w.heap.size tg) tg p a b c d ch i S'/\gL (λb=>gH b=tg) w w':=by
 have hh:=h;let⟨K,H,Z,hp,hg⟩:=h;by_cases j:e<(S rs.length).ep
 .refine(Fj 0 p a b c d ch _ _ _ (iE rs) K e m w H j).L ?_;rintro Q w'⟨rfl,_,M⟩;refine⟨rs,S,by rw[aE j],.inl ⟨rfl,rfl⟩,by rw[aE j],C,?_,gL.B M⟩;exact hh.only (iT M) (λ_ _ e=>e.elim) λb M=>gV _ _ _ _ M
 refine(yq 0 p a b c d ch _ _ _ (iE rs) K e m w H ju hl j).L ?_;rintro Q w'⟨K',rfl,y,hG⟩;by_cases A:(S rs.length).mark<m
 .rw[aE A,aE A]at y;let⟨V,Y⟩:=Kt.step (s:=⟨e,m,(S rs.length).ct⟩) H Z hp hg (vk.uU (S rs.length) e m j A) (OQ e m F P) y hG;refine⟨rs++[⟨2,[e,m],[]⟩],_,by rw[az j],.inr ⟨_,_,rfl,rfl⟩,by rw[az j,aE A];exact wG _ _ _ _,?_,?_,Y⟩
  .rw[lO,aO];simp[iE,Rc.bytes,oH]
  rw[<-r9];exact V _ (tZ K')
 rw[az A,az A]at y;let⟨i,S',r0,V,Y,r3,r4⟩:=Kt.K6 H Z hp hg F j y hG;refine⟨i,S',by rw[az j],r0,by rw[az j,az A];exact V,Y,?_,r4⟩;rw[<-r9];exact r3 _ (tZ K')
def TV(h:Kt w gH tg p a b c d ch rs S)(e x)(j:(Lit.int .i64 e).wf=true)(P:(iE rs).length<=1000000000000)(A:¬e<(S rs.length).ep):iB 171 #[O p,I e,I x] w λF w'=>∃v i S',F=gX (jK (kr a b c d ch (S rs.length).mark (S rs.length).ct x).1 0 (kr a b c d ch (S rs.length).mark (S rs.length).ct x).2.1 (kr a b c d ch (S rs.length).mark (S rs.length).ct x).2.2.kd (kr a b c d ch (S rs.length).mark (S rs.length).ct x).2.2.cl (kr a b c d ch (S rs.length).mark (S rs.length).ct x).2.2.ca v)/\w'.ownsRow w.heap.size 5 1 v (kr a b c d ch (S rs.length).mark (S rs.length).ct x).2.2.val.length ((kr a b c d ch (S rs.length).mark (S rs.length).ct x).2.2.val.map B8)/\qo rs S i S'/\S' i.length=⟨e,(S rs.length).mark,(S rs.length).ct⟩/\(iE i).length<=(iE rs).length+24/\Kt w' (uS gH w.heap.size tg v) tg p a b c d ch i S'/\gL (λb=>gH b=tg) w w':=by
 let⟨K,H,M,Q,V⟩:=h;refine(Fc 0 p a b c d ch _ _ _ _ K e x w H ju P (M.xH _ jl) A _ _ _ rfl).L ?_;rintro F w'⟨K',v,rfl,Y,y,Z,_,hd⟩;let⟨i,S',r0,r1,r2,r3,r4⟩:=Kt.K6 H M Q V j A y Z;exact⟨v,i,S',rfl,Y,r0,r1,r2,r3 v hd,r4⟩
def Dh(h:Kt w gH tg p a b c d ch rs S)(e x kd cl ca)(va)(vn vc)(j:(Lit.int .i64 e).wf=true)(V:(iE rs).length<=1000000000000)(F:¬e<(S rs.length).ep)(H:sy kd vn=true)(y:(kr a b c d ch (S rs.length).mark (S rs.length).ct x).1≠3):iB 175 #[O p,I e,I x,.agg #[I kd,I cl,I ca,gN va vn vc]] w λM w'=>∃v i S',M=gX (jK (kr a b c d ch (S rs.length).mark (S rs.length).ct x).1 0 (kr a b c d ch (S rs.length).mark (S rs.length).ct x).2.1 (kr a b c d ch (S rs.length).mark (S rs.length).ct x).2.2.kd (kr a b c d ch (S rs.length).mark (S rs.length).ct x).2.2.cl (kr a b c d ch (S rs.length).mark (S rs.length).ct x).2.2.ca v)/\w'.ownsRow w.heap.size 5 1 v (kr a b c d ch (S rs.length).mark (S rs.length).ct x).2.2.val.length ((kr a b c d ch (S rs.length).mark (S rs.length).ct x).2.2.val.map B8)/\qo rs S i S'/\S' i.length=⟨e,(S rs.length).mark,(S rs.length).ct⟩/\(iE i).length<=(iE rs).length+24/\Kt w' (uS gH w.heap.size tg v) tg p a b c d ch i S'/\gL (λb=>gH b=tg) w w':=by
 let⟨K,P,Q,Y,Z⟩:=h;have h8:=yN H;refine(Bp 0 p a b c d ch _ _ _ _ K e x kd cl ca va vn vc w P ju V (Q.xH _ jl) C F _ _ _ rfl y H).L ?_;rintro M w'⟨K',v,rfl,hv,A,hG,_,hd⟩;let⟨i,S',r0,r1,r2,r3,r4⟩:=Kt.K6 P Q Y Z j F A hG;exact⟨v,i,S',rfl,hv,r0,r1,r2,r3 v hd,r4⟩
def E9(h:Kt w gH tg p a b c d ch rs S)(e x kd cl ca)(v)(ys)(i:Nat)(M:(Lit.int .i64 e).wf=true)(P:(Lit.int .i64 x).wf=true)(Q:(Lit.int .i64 kd).wf=true)(V:(Lit.int .i64 cl).wf=true)(Y:(Lit.int .i64 ca).wf=true)(hl:(iE rs).length<=1000000000000)(hv:Bs w v (ys.map B8))(H:∀g,v.ownBlock=some g->g<w.heap.size/\gH g≠tg)(Z:mR ys)(he:¬e<(S rs.length).ep)(hi:i<16)(F:oT a b c d x=(ch,(i:Int),0))(y:kr a b c d ch (S rs.length).mark (S rs.length).ct x=(3,0,⟨0,0,0,[]⟩))(hc:sy kd ys.length=true):iB 175 #[O p,I e,I x,.agg #[I kd,I cl,I ca,v]] w λen w'=>∃A S',en=gX (jK 1 0 0 0 0 0 AU)/\qo rs S A S'/\S' A.length=⟨e,(S rs.length).mark,λj=>if j=i then⟨kd,cl,ca,ys⟩else(S rs.length).ct j⟩/\(iE A).length<=(iE rs).length+60/\Kt w' (iq gH w.heap.size tg) tg p a b c d ch A S'/\gL (λb=>gH b=tg) w w':=by
 let⟨K,hk,hw,hp,hg⟩:=h;have h8:=yN hc;refine(tM 0 p a b c d ch _ _ _ (iE rs) K e x kd cl ca v ys i w hk ju hl (hw.xH _ jl) hv C (λg e=>⟨(H g e).1,λe'=>(H g e).2 (hg g (.inl e')),λe'=>(H g e).2 (jk e' hp)⟩) he hi F y hc).L ?_;rintro en w'⟨K',rfl,a0,hG⟩;let⟨r1,r2⟩:=Kt.step hk hw hp hg (vk.write (S rs.length) e x kd cl ca ys i he hi F y hc) (Nu e x kd cl ca ys M P Q V Y h8 Z) a0 hG;refine⟨rs++[⟨3,[e,x,kd,cl,ca],ys⟩],_,rfl,.inr ⟨_,_,rfl,rfl⟩,wG _ _ _ _,?_,?_,r2⟩
 .rw[lO,aO];simp[iE,Rc.bytes,oH];omega
 rw[<-r9];exact r1 _ (tZ K')
structure An where
 wh:Int
 ep:Int
 mark:Int
 ct:Ct
def An.val(A:An)(v:Value):Value:=jK A.wh A.ep A.mark A.ct.kd A.ct.cl A.ct.ca v
def an(wh ep mk:Int):An:=⟨wh,ep,mk,⟨0,0,0,[]⟩⟩
def th(s:St)(e:Int):An×St:=if e<s.ep then(an 5 s.ep 0,s)else(an 1 e 0,⟨e,s.mark,s.ct⟩)
def tj(s:St)(e m:Int):An×St:=if e<s.ep then(an 5 s.ep 0,s)else(an 1 0 (if s.mark<m then m else s.mark),⟨e,if s.mark<m then m else s.mark,s.ct⟩)
def vr(a b c d ch:Int)(s:St)(x:Int):An:=⟨(kr a b c d ch s.mark s.ct x).1,0,(kr a b c d ch s.mark s.ct x).2.1,(kr a b c d ch s.mark s.ct x).2.2⟩
def s9(a b c d ch:Int)(s:St)(e x:Int):An×St:=if e<s.ep then(an 5 s.ep 0,s)else(vr a b c d ch s x,⟨e,s.mark,s.ct⟩)
def rP(a b c d ch:Int)(s:St)(e x kd cl ca:Int)(ys:List Int):An×St:=
 if e<s.ep then(an 5 s.ep 0,s)else if sy kd ys.length=false then(an 6 0 0,⟨e,s.mark,s.ct⟩)
 else if(kr a b c d ch s.mark s.ct x).1=3 then(an 1 0 0,⟨e,s.mark,λj=>if j=Us a b c d x then⟨kd,cl,ca,ys⟩else s.ct j⟩)else(vr a b c d ch s x,⟨e,s.mark,s.ct⟩)
def Bu(f:Nat)(args:Array Value)(w:World)(gH:Nat->Nat)(tg p:Nat)(a b c d ch:Int)(rs:List Rc)(S:Nat->St)(R:An×St):Prop:=
 Calls prog f args w λen w'=>∃v rs' S',en=gX (R.1.val v)/\w'.ownsRow w.heap.size 5 1 v R.1.ct.val.length (R.1.ct.val.map B8)/\qo rs S rs' S'/\S' rs'.length=R.2/\(iE rs').length<=(iE rs).length+60/\Kt w' (uS gH w.heap.size tg v) tg p a b c d ch rs' S'/\gL (λg=>gH g=tg) w w'
def Kt.ni(h:Kt w gH tg p a b c d ch rs S)(j:Bl w w'):∃v i S',gX (jK 5 (S rs.length).ep 0 0 0 0 AU)=gX (An.val (an 5 (S rs.length).ep 0) v)/\w'.ownsRow w.heap.size 5 1 v 0 []/\qo rs S i S'/\S' i.length=S rs.length/\(iE i).length<=(iE rs).length+60/\Kt w' (uS gH w.heap.size tg v) tg p a b c d ch i S'/\gL (λg=>gH g=tg) w w':=
 ⟨AU,rs,S,rfl,mT,.inl ⟨rfl,rfl⟩,rfl,C,h.only (iT j) (λ_ _ e=>e.elim) λg y=>nz _ _ _ _ _ y,gL.B j⟩
def Tf(h:Kt w gH tg p a b c d ch rs S)(e)(i:(Lit.int .i64 e).wf=true)(y:(iE rs).length<=1000000000000):Bu 178 #[O p,I e] w gH tg p a b c d ch rs S (th (S rs.length) e):=by
 refine(Ti h e i y).L ?_;rintro P w'⟨j,S',rfl,A,F,Q,H,M⟩;refine⟨AU,j,S',?_,?_,A,?_,C,H,M⟩
 .unfold th;split<;>rfl
 .unfold th;split<;>exact mT
 rw[F];unfold th;split<;>rfl
def TS(h:Kt w gH tg p a b c d ch rs S)(e m)(i:(Lit.int .i64 e).wf=true)(j:(Lit.int .i64 m).wf=true)(A:(iE rs).length<=1000000000000):Bu 177 #[O p,I e,I m] w gH tg p a b c d ch rs S (tj (S rs.length) e m):=by
 refine(Si h e m i j A).L ?_;rintro Q w'⟨y,S',rfl,F,H,V,M,P⟩;refine⟨AU,y,S',?_,?_,F,?_,C,M,P⟩
 .unfold tj;split<;>rfl
 .unfold tj;split<;>exact mT
 rw[H];unfold tj;split<;>rfl
def SL(h:Kt w gH tg p a b c d ch rs S)(e x)(j:(Lit.int .i64 e).wf=true)(F:(iE rs).length<=1000000000000):Bu 171 #[O p,I e,I x] w gH tg p a b c d ch rs S (s9 a b c d ch (S rs.length) e x):=by
 unfold s9;by_cases i:e<(S rs.length).ep
 .rw[aE i];let⟨K,A,H⟩:=h;refine(FY 0 p a b c d ch _ _ _ _ K e x w A i).L ?_;rintro M w'⟨rfl,_,P⟩;exact Kt.ni ⟨K,A,H⟩ P
 rw[az i];refine(TV h e x j F i).L ?_;rintro M w'⟨v,y,S',rfl,Q,V,Y,h3,Z,h5⟩;exact⟨v,y,S',rfl,Q,V,Y,C,Z,h5⟩
def OP(h:Kt w gH tg p a b c d ch rs S)(e x kd cl ca)(va)(vc)(ys)(H:(Lit.int .i64 e).wf=true)(Y:(Lit.int .i64 x).wf=true)(Z:(Lit.int .i64 kd).wf=true)(a0:(Lit.int .i64 cl).wf=true)(a1:(Lit.int .i64 ca).wf=true)(hl:(iE rs).length<=1000000000000)(hv:Bs w (gN va ys.length vc) (ys.map B8))(a2:∀g,(gN va ys.length vc).ownBlock=some g->g<w.heap.size/\gH g≠tg)(a3:mR ys)(hc:sy kd ys.length=true):Bu 175 #[O p,I e,I x,.agg #[I kd,I cl,I ca,gN va ys.length vc]] w gH tg p a b c d ch rs S (rP a b c d ch (S rs.length) e x kd cl ca ys):=by
 unfold rP;by_cases M:e<(S rs.length).ep
 .rw[aE M];let⟨K,hk,hr⟩:=h;refine(DA 0 p a b c d ch _ _ _ (iE rs) K e x kd cl ca va ys.length vc w hk M).L ?_;rintro en w'⟨rfl,_,hb⟩;exact Kt.ni ⟨K,hk,hr⟩ hb
 rw[az M];rw[az (mG hc)];by_cases j:(kr a b c d ch (S rs.length).mark (S rs.length).ct x).1=3
 .rw[aE j];have A:kr a b c d ch (S rs.length).mark (S rs.length).ct x=(3,0,⟨0,0,0,[]⟩)/\(oT a b c d x).2.2=0/\(oT a b c d x).1=ch:=by
   unfold kr at j|-;by_cases Q:(oT a b c d x).2.2≠0\/(oT a b c d x).1≠ch
   .rw[aE Q]at j;exact absurd j (show¬(6:Int)=3 by decide)
   rw[az Q]at j|-;have a4:(oT a b c d x).2.2=0/\(oT a b c d x).1=ch:=⟨bk λe=>Q (.inl e),bk λe=>Q (.inr e)⟩;by_cases q2:x<(S rs.length).mark
   .rw[aE q2]at j;exact absurd j (show¬(4:Int)=3 by decide)
   rw[az q2]at j|-;by_cases q3:((S rs.length).ct (oT a b c d x).2.1.toNat).kd=0
   .rw[aE q3];exact⟨rfl,a4⟩
   rw[az q3]at j;exact absurd j (show¬(2:Int)=3 by decide)
  let⟨i,hi,y⟩:=zB A.2.1;have P:Us a b c d x=i:=by unfold Us;rw[y];rfl
  refine(E9 h e x kd cl ca _ ys i H Y Z a0 a1 hl hv a2 a3 M hi (jS y A.2.2) A.1 hc).L ?_;rintro en w'⟨F,S',rfl,h1,h2,j,V,h5⟩;rw[<-r9]at V;exact⟨AU,F,S',rfl,mT,h1,jS h2 P,C,V,h5⟩
 rw[az j];refine(Dh h e x kd cl ca va ys.length vc H hl M hc j).L ?_;rintro en w'⟨v,F,S',rfl,h0,h1,h2,j,V,h5⟩;exact⟨v,F,S',rfl,h0,h1,h2,C,V,h5⟩
abbrev Mh(p0:Ct)(p1)(p2):=im #[I p0.kd,I p0.cl,I p0.ca,gN p1 p0.val.length p2] 91
abbrev Vd(p0:An)(p1)(p2):=im #[I p0.wh,I p0.ep,I p0.mark,I p0.ct.kd,I p0.ct.cl,I p0.ct.ca,gN p1 p0.ct.val.length p2] 215
def sP(w:World)(v:Value)(ds:List Int):Prop:=∃b o c,v=.slice (some (U b o)) ds.length c/\b<w.heap.size/\ds.length<=c/\c<=9223372036854775807/\∀j d,ds[j]?=some d->w.cell? (U b (o+j))=some (B8 d)
def sP.bl(h:sP w v ds)(i:Bl w w'):sP w' v ds:=by let⟨b,o,c,e,y,A,F,L⟩:=h;exact⟨b,o,c,e,af y i.lt,A,F,λj d M=>(i.cell y).H (L j d M)⟩
def sP.sl(h:sP w v ds):Sl w v (ds.map B8):=by let⟨b,o,c,e,i,F,H,L⟩:=h;refine .inr ⟨b,o,c,by rw[ay];exact e,i,λj y=>?_⟩;have A:j<ds.length:=iU y;simp_all
def KS(r:Rc):3<=r.bytes.length:=by rw[r.len];omega
def Ie{lG:List (Int×Int×Int)}(h:r.Ok lG):r.bytes.length<=2298:=by have i:=h.n1;have j:=h.v1;rw[r.len];omega
theorem OA(v)(ds)(bs os cs)(lG)(w)(Q:sP w v ds)(h0:0<ds.length)(hl:ds.length<=1100000000000)(F:∀d∈ds,0<=d/\d<=255)(i:mn w bs os lG)(hs:lG.length<=1000)(V:(lG.any λs=>qp s.1 s.2.1 s.2.2 ds)=false):iB 233 #[v,gN (some (U bs os)) lG.length cs] w λe w'=>e=gX (.tuple #[OO,.bool false])/\Bl w w':=by
 have H:=Q.sl;obtain⟨b,o,c,rfl,_⟩:=Q;have A:=(Bl.refl w).alloc (im #[gN (some (U b o)) ds.length c] 40);have Y:=ao w (im #[gN (some (U b o)) ds.length c] 40);have x0:(w.alloc (im #[gN (some (U b o)) ds.length c] 40)).cell? (U w.heap.size 0)=some (gN (some (U b o)) ds.length c):=ax _ w.heap.size 0 _ 40 (0,0) Y;have y:mn (w.alloc (im #[gN (some (U b o)) ds.length c] 40)) bs os lG:=⟨af i.1 A.lt,λj h=>by rw[A.cell i.1,A.cell i.1,A.cell i.1];exact i.2 j h⟩;have M:=gP (rL bs os cs lG w.heap.size _ ds _ y gG x0 (H.bl A) h0 hl F hs);rw[V]at M;have HB:=gP A;have Z:(0:Int)<(ds.length:Int):=C;clear H A Y y i F V x0;go_enter func233,ntmps233;go_wp2;refine Z6 1 ?_;rw[ZZ];go_wp2_with fail;refine gT M λw2 L=>?_;have P:=gP (HB.H L);clear M L;go_wp2;go_ret2;exact⟨rfl,P⟩
theorem xx(v)(r:Rc)(bs os cs)(lG)(w)(hv:sP w v r.bytes)(y:mn w bs os lG)(hs:lG.length<=1000)(ok:r.Ok lG):iB 246 #[v,gN (some (U bs os)) lG.length cs] w λe w'=>∃g na nc va vc,e=gX (.tuple #[.agg #[I r.kd,gN (some (U g na)) r.ns.length nc,gN va r.val.length vc],.bool true])/\Bl w w'/\w'.ownsRow w.heap.size 3 1 (gN (some (U g na)) r.ns.length nc) r.ns.length (r.ns.map I)/\w'.ownsRow w.heap.size 5 1 (gN va r.val.length vc) r.val.length (r.val.map B8):=by
 obtain⟨b,o,c,rfl,h1,h2,h3,h4⟩:=hv;have F:iE [r]=r.bytes:=by simp[iE]
 have an:=Ie ok;have ap:=KS r;have Y:=(Bl.refl w).alloc wO;have HS:=gP (xD (some (U b o)) b o c r.bytes.length bs os cs [r] lG (w.alloc wO) (by rw[F];exact jl) h2 C h3 (λ_=>⟨rfl,ig⟩) (λj d hj hd=>by rw[F]at hd;rw[Y.cell h1];exact h4 j d hd) ⟨af y.1 Y.lt,λj h=>by rw[Y.cell y.1,Y.cell y.1,Y.cell y.1];exact y.2 j h⟩ hs (iU ok));let⟨HA,hX,L⟩:=iz Y (ao w wO) ok;clear h4 y ok Y;go_enter func246,ntmps246;go_wp2_with fail;refine HS.L ?_;rintro e w1⟨k,rv,xs,rfl,k1,k2,k3,k4,a0⟩;have hk:k=1:=by
  apply bk;intro aq;obtain rfl:k=0:=by simp at k1;omega
  have:=k3 gG;rw[tX]at this;simp at this
 subst hk;have e1:List.take 1 [r]=[r]:=rfl;rw[e1]at k4;obtain⟨nv,n1,Q⟩:=k4.ns 0 gG;obtain⟨vv,v1,V⟩:=k4.val 0 gG;have a1:=k4.kd 0 gG;simp only[List.getElem_cons_zero,Nat.mul_zero,bP]at n1 Q v1 V a1;have i:=k4.ie;obtain⟨gr,cr,ab⟩:∃gr cr,rv=gN (G gr) 1 cr:=by
  obtain⟨_,e'⟩|⟨g,cap,a5,e,_⟩:=i.2
  .simp at e'
  exact⟨g,cap,iU e⟩
 subst ab;obtain⟨gn,cn,ac⟩:∃gn cn,nv=gN (G gn) r.ns.length cn:=by
  obtain⟨_,e'⟩|⟨g,cap,a5,e,_⟩:=Q.2
  .have:=L.n0;omega
  exact⟨g,cap,e⟩
 obtain⟨va,vc,a6⟩:=(i7 V).len;rw[ay]at a6;subst ac a6;have d0:=(i.cellAt 0 gG).H a1;have d1:=(i.cellAt 1 gG).H n1;have d2:=(i.cellAt 2 gG).H v1;have a7:gr<w1.heap.size:=(i.lt gr rfl).2;have a2:∀{e:TypeId} {u:Value} {n:Nat} {ys:List Value},w1.ownsRow w.heap.size e 1 u n ys->n=ys.length->Bs w1 u ys:=fun{e u n ys} h hn=>by
  subst hn;obtain⟨e1,e2⟩|⟨g,cap,a5,e1,_⟩:=h.2
  .exact .inl ⟨e1,aW.1 e2⟩
  subst e1;exact .inr ⟨(U g 0),cap,rfl,λj u hj=>by rw[mK,bP,h.cellAt j (gS ((aj.1 hj).1))];exact hj⟩
 have HR:=gP (nE 0 OO 0 [] r.kd _ _ r.ns r.val w1 mT ju C (a2 (gZ Q (by intro g hg;have:=(Q.lt g hg).1;simp at this;omega)) gG) (a2 (gZ V (by intro g hg;have:=(V.lt g hg).1;simp at this;omega)) gG) L.k0 L.k1 L.n1 L.v1 (λg e=>ny e) (λg e=>ny e) (λg e=>(Q.lt g e).2) λg e=>(V.lt g e).2);let⟨ag,a3⟩:=gO (HA.H a0) ((a0.heap gG).H hX);have HN:=gP (gZ (base':=w.heap.size) Q (by intro g hg;have:=(Q.lt g hg).1;simp at this;omega));have HV:=gP (gZ (base':=w.heap.size) V (by intro g hg;have:=(V.lt g hg).1;simp at this;omega));have ai:(iV r.kd r.ns r.val).length=r.bytes.length:=rfl;clear HS k2 k3 k4 a0 n1 Q v1 V a1 i a2 hX HA;go_wp2_with fail;refine HR.L ?_;rintro e w2⟨v',rfl,hG⟩;rw[bP,ai]at hG;obtain⟨ga,gc,rfl⟩:=hG.B;have M:=hG.only.te λk _ e=>ny e;let⟨ar,au,av⟩:=M.D a7 d0 d1 d2;have am:=af a7 M.lt;have P:=(M.heap (ae.1 a3).1).H a3;let⟨y0,y1,y2⟩:=oR P 0 1 2 rfl;let⟨f0,f1,f2⟩:=B9 P 0 1 2;have aw:w.heap.size<w2.heap.size:=(ae.1 P).1;let⟨a4,a8⟩:=gO M P;clear HR hG M P d0 d1 d2 a3;go_wp2;have Z:=(((gL.refl (λb=>b=w.heap.size) w2).setCell (U w.heap.size 0) (.inl rfl) (I r.kd)).setCell (U w.heap.size 1) (.inl rfl) (gN (G gn) r.ns.length cn)).setCell (U w.heap.size 2) (.inl rfl) (gN va r.val.length vc);have hB:=(ag.H a4).A Z λn e=>C;have a9:=(iT a4).iX HN λ_ _ e=>e;have aa:=(iT a4).iX HV λ_ _ e=>e;have ak:=Z.iX a9 λb hb e=>gY a9 a8 gF (jS hb e);have al:=Z.iX aa λb hb e=>gY aa a8 gF (jS hb e);exact aG (v:= .tuple #[.agg #[I r.kd,gN (G gn) r.ns.length cn,gN va r.val.length vc],.bool true]) (by simp[results,results246,go_sem,y0,y1,y2]) rfl ⟨gn,0,cn,va,vc,rfl,hB,ak,al⟩
theorem zX(v)(ds)(bs os cs)(lG)(w)(P:sP w v ds)(h0:0<ds.length)(hl:ds.length<=1100000000000)(L:∀d∈ds,0<=d/\d<=255)(i:mn w bs os lG)(hs:lG.length<=1000)(Q:(lG.any λs=>qp s.1 s.2.1 s.2.2 ds)=false):iB 246 #[v,gN (some (U bs os)) lG.length cs] w λe w'=>e=gX (.tuple #[.agg #[I 0,OO,OO],.bool false])/\Bl w w':=by
 have A:=(Bl.refl w).alloc wO;have V:=gP (OA v ds bs os cs lG _ (P.bl A) h0 hl L ⟨af i.1 A.lt,λj h=>by rw[A.cell i.1,A.cell i.1,A.cell i.1];exact i.2 j h⟩ hs Q);let⟨Y,hX⟩:=gO A (ao w wO);clear P L i Q A;go_enter func246,ntmps246;go_wp2_with fail;refine gT V λw2 F=>?_;have y:=(F.heap gG).H hX;let⟨y0,y1,y2⟩:=oR y 0 1 2 rfl;let⟨f0,f1,f2⟩:=B9 y 0 1 2;have a0:w.heap.size<w2.heap.size:=(ae.1 y).1;have M:=gP (Y.H F);clear V F hX y Y;go_wp2;have Z:=(((gL.refl (λb=>b=w.heap.size) w2).setCell (U w.heap.size 0) (.inl rfl) (I 0)).setCell (U w.heap.size 1) (.inl rfl) OO).setCell (U w.heap.size 2) (.inl rfl) OO;have hB:=M.A Z λn e=>C;exact aG (v:= .tuple #[.agg #[I 0,OO,OO],.bool false]) (by simp[results,results246,go_sem,y0,y1,y2]) rfl ⟨rfl,hB⟩
def nV:List (Int×Int×Int):=[(1,7,0),(2,7,8),(3,7,0),(4,7,0),(5,7,0),(6,7,255),(7,7,0)]
theorem rB(w):iB 247 #[] w λe w'=>∃y,e=gX (gN (G y) 7 7)/\Bl w w'/\mn w' y 0 nV:=by
 go_enter func247,ntmps247;go_wp2;go_ret;refine⟨_,rfl,jC.alloc _,gG,λj h=>?_⟩;have A:j<7:=h;have i:=ao w (im #[I 1,I 7,I 0,I 2,I 7,I 8,I 3,I 7,I 0,I 4,I 7,I 0,I 5,I 7,I 0,I 6,I 7,I 255,I 7,I 7,I 0] 322);rw[ax _ _ _ _ _ _ i,ax _ _ _ _ _ _ i,ax _ _ _ _ _ _ i]
 match j,A with
 |0,_=>exact⟨rfl,rfl,rfl⟩
 |1,_=>exact⟨rfl,rfl,rfl⟩
 |2,_=>exact⟨rfl,rfl,rfl⟩
 |3,_=>exact⟨rfl,rfl,rfl⟩
 |4,_=>exact⟨rfl,rfl,rfl⟩
 |5,_=>exact⟨rfl,rfl,rfl⟩
 |6,_=>exact⟨rfl,rfl,rfl⟩
def BU{base o c:Nat}{x0 x1 x2 i j y A:Int}(h:w.ownsRow base 3 1 (gN (some (U g o)) 7 c) 7 ([x0,x1,x2,i,j,y,A].map I)):o=0/\g<w.heap.size/\w.cell? (U g 0)=some (I x0)/\w.cell? (U g 1)=some (I x1)/\w.cell? (U g 2)=some (I x2)/\w.cell? (U g 3)=some (I i)/\w.cell? (U g 4)=some (I j)/\w.cell? (U g 5)=some (I y)/\w.cell? (U g 6)=some (I A):=by
 obtain⟨e,_⟩|⟨H,cap,F,e,_⟩:=h.2
 .omega
 simp at e;obtain⟨⟨_,rfl,_⟩,_⟩:=e;exact⟨rfl,(h.lt g rfl).2,h.cellAt 0 C,h.cellAt 1 C,h.cellAt 2 C,h.cellAt 3 C,h.cellAt 4 C,h.cellAt 5 C,h.cellAt 6 C⟩
def AZ(h:W.heap[g]?=some (im #[x0,x1,x2] t (0,0))):W.cell? (U g 0)=some x0/\W.cell? (U g 1)=some x1/\W.cell? (U g 2)=some x2/\g<W.heap.size:=
 ⟨ax W g 0 _ t _ h,ax W g 1 _ t (0,0) h,ax W g 2 _ t _ h,(ae.1 h).1⟩
def rX{i:Value}(h:W.heap[g]?=some (im #[x0,x1,x2,i] t (0,0))):W.cell? (U g 0)=some x0/\W.cell? (U g 1)=some x1/\W.cell? (U g 2)=some x2/\W.cell? (U g 3)=some i/\g<W.heap.size:=
 ⟨ax W g 0 _ t _ h,ax W g 1 _ t (0,0) h,ax W g 2 _ t _ h,ax W g 3 _ t (0,0) h,(ae.1 h).1⟩
def uf{j y A F H L:Value}(h:W.heap[g]?=some (im #[x0,x1,x2,j,y,A,F,H,L] t (0,0))):(W.cell? (U g 0)=some x0/\W.cell? (U g 1)=some x1/\W.cell? (U g 2)=some x2/\W.cell? (U g 3)=some j/\W.cell? (U g 4)=some y/\W.cell? (U g 5)=some A/\W.cell? (U g 6)=some F/\W.cell? (U g 7)=some H/\W.cell? (U g 8)=some L)/\(∀i,W.frozen? (U g i)=false)/\g<W.heap.size:=
 ⟨⟨ax W g 0 _ t _ h,ax W g 1 _ t (0,0) h,ax W g 2 _ t _ h,ax W g 3 _ t (0,0) h,ax W g 4 _ t _ h,ax W g 5 _ t (0,0) h,ax W g 6 _ t _ h,ax W g 7 _ t (0,0) h,ax W g 8 _ t _ h⟩,λi=>aP W g i _ t h,(ae.1 h).1⟩
abbrev Fg(kd ln nr ep pl ck cl ca:Int)(v:Value):Value:= .agg #[I kd,I ln,I nr,I ep,I pl,I ck,I cl,I ca,v]
theorem Iw(ln)(w):Calls prog 248 #[I ln] w λe w'=>e=gX (.bool (decide (0<=ln)&&decide (ln<10)))/\w'=w:=by
 by_cases h:0<=ln
 .have i:decide (0<=ln)=true:=by simpa using h
  go_wp2;go_ret;exact⟨nN h,rfl⟩
 have i:decide (0<=ln)=false:=by simpa using h
 go_enter func248,ntmps248;go_wp2;go_ret;exact⟨gG,rfl⟩
theorem td(v)(kd ln nr ep pl ck cl ca)(val)(w)(hv:sP w v (iV kd [ln,nr,ep,pl,ck,cl,ca] val))(ab:0<=ln/\ln<10)(ok:Rc.Ok nV ⟨kd,[ln,nr,ep,pl,ck,cl,ca],val⟩):iB 211 #[v] w λe w'=>∃i j,e=gX (.tuple #[.agg #[I kd,I ln,I nr,I ep,I pl,I ck,I cl,I ca,gN i val.length j],.bool true])/\Bl w w'/\w'.ownsRow w.heap.size 5 1 (gN i val.length j) val.length (val.map B8):=by
 have bA:=(Bl.refl w).alloc (im TC 100);let⟨hX,HS,HA⟩:=iz (ao w (im TC 100)) (rB (w.alloc (im TC 100))) bA;let⟨Hv,ac⟩:=gO hv ok;clear hv bA ok;go_enter func211,ntmps211;go_wp2_with fail;refine HS.L ?_;rintro e w1⟨bs,rfl,A,a1⟩;let⟨HW,a2,F⟩:=iz (xx v ⟨kd,[ln,nr,ep,pl,ck,cl,ca],val⟩ bs 0 7 nV w1 (Hv.bl (HA.H A)) a1 gF ac) (HA.H A) ((A.heap gG).H hX);clear HS A a1 hX HA;go_wp2_with fail;refine HW.L ?_;rintro e w2⟨g,na,nc,i,j,rfl,P,Q,a3⟩;obtain⟨rfl,lg,n0,n1,n2,n3,n4,n5,n6⟩:=BU Q;have ng:¬w.heap.size=g:=by have:=(Q.lt g rfl).1;have:=(ae.1 F).1;omega
 have a4:=gP (a2.H P);have V:=(P.heap (ae.1 F).1).H F;have lx:=(ae.1 V).1;let⟨a5,ag⟩:=gO a3 a2.lt;have ap:¬w.heap.size=w2.heap.size:=C;clear HW P Q a3 F;let⟨W3,Y⟩:=gJ (w2.alloc (im #[I kd,gN (G g) 7 nc,gN i val.length j] 320));have M:=(Bl.refl w2).alloc (im #[I kd,gN (G g) 7 nc,gN i val.length j] 320);have hR:=ao w2 (im #[I kd,gN (G g) 7 nc,gN i val.length j] 320);rw[Y]at M hR;have L:=gP ((M.heap lx).H V);let⟨r0,r1,r2,lr⟩:=AZ hR;let⟨m0,m1,m2,m3⟩:=M.M lg n0 n1 n2 n3;let⟨m4,m5,m6⟩:=M.D lg n4 n5 n6;have a6:=af lg M.lt;obtain⟨ai,a7,a8,aq⟩:=jR (a4.H M) ((iT M).iX a5 λ_ _ e=>e) Y hR;clear V Y M a4 a5 n0 n1 n2 n3 n4 n5 n6 hR;have HL:=gP (Iw ln);have ak:(decide (0<=ln)&&decide (ln<10))=true:=nN ab;rw[ak]at HL;go_upto_region 2 with fail;rw[a8.o];clear a8;generalize w2.heap.size=gr at*;go_upto_region 5 with(go_at_call 248;refine gT (HL _) λw' a9=>?_;have al:=a9.symm;clear a9;subst al);go_cut[7]from 27 to 38 λx wx=>∃gc,x= O gc/\Hid (wx.heap[gc]?=some (im (ry ck cl ca i val j) 91 (0,0))/\W3.heap.size<=gc)/\Hid (Bl W3 wx)
 case first=>
  go_region_held3(λW=>W.cell? (U g 4)=some (I ck)/\W.cell? (U g 5)=some (I cl)/\W.cell? (U g 6)=some (I ca)/\W.cell? (U gr 2)=some (lF i val j)) (go_keep) (fail);all_goals(go_wp2_with fail;go_meet)
  all_goals exact⟨_,rfl,⟨ao W3 _,jl⟩,by first|exact(jC.alloc _).drewN _|exact(jC.alloc _).drew|exact jC.alloc _⟩
 case rest=>
  obtain⟨gc,rfl,HC,h⟩:=hcut;let⟨k0,k1,k2,k3,ar⟩:=rX HC.1;have a0:=(h.heap (ae.1 L).1).H L;obtain⟨⟨x0,x1,x2,x3,x4,x5,x6,x7,x8⟩,y,lX⟩:=uf a0;have f0:=y 0;have f1:=y 1;have f2:=y 2;have f3:=y 3;have f4:=y 4;have f5:=y 5;have f6:=y 6;have f7:=y 7;have f8:=y 8;let⟨p0,p1,p2,p3⟩:=h.M a6 m0 m1 m2 m3;have s0:=(h.cell lr).H r0;have au:=af a6 h.lt;have av:=af lr h.lt;have am:=gP a0;have aw:¬w.heap.size=gc:=by have:=HC.2;have:=(ae.1 L).1;omega
  obtain⟨aa,an⟩:=gO ((iT h).iX a7 λ_ _ e=>e) (ai.H h);clear y m0 m1 m2 m3 m4 m5 m6 r0 r1 r2 a0 a7 L;go_upto_region 6 with fail;go_region_held3(λW=>W.cell? (U g 0)=some (I ln)/\W.cell? (U g 1)=some (I nr)/\W.cell? (U g 2)=some (I ep)/\W.cell? (U g 3)=some (I pl)/\W.cell? (U gr 0)=some (I kd)/\W.cell? (U gc 0)=some (I ck)/\W.cell? (U gc 1)=some (I cl)/\W.cell? (U gc 2)=some (I ca)/\W.cell? (U gc 3)=some (lF i val j)) (go_keep) (fail);all_goals
   go_wp2;have Z:=(((((((((gL.refl (λb=>b=w.heap.size) wc).setCell (U w.heap.size 0) (.inl rfl) (I kd)).setCell (U w.heap.size 1) (.inl rfl) (I ln)).setCell (U w.heap.size 2) (.inl rfl) (I nr)).setCell (U w.heap.size 3) (.inl rfl) (I ep)).setCell (U w.heap.size 4) (.inl rfl) (I pl)).setCell (U w.heap.size 5) (.inl rfl) (I ck)).setCell (U w.heap.size 6) (.inl rfl) (I cl)).setCell (U w.heap.size 7) (.inl rfl) (I ca)).setCell (U w.heap.size 8) (.inl rfl) (lF i val j);have hB:=an.A Z λn e=>C;have hV:=Z.iX aa λb hb e=>gY aa am gF (jS hb e);refine aG (v:= .tuple #[.agg #[I kd,I ln,I nr,I ep,I pl,I ck,I cl,I ca,gN i val.length j],.bool true]) (by simp[results,results211,go_sem,x0,x1,x2,x3,x4,x5,x6,x7,x8]) rfl ⟨i,j,rfl,hB.drew,gZ ((iT jC.drew).iX hV λ_ _ e=>e) λb hb=>?_⟩;have h1:=(hV.lt b hb).1;have h2:=ag.o;omega
def Db{i j y A:Value}(h:W.heap[g]?=some (im #[x0,x1,x2,i,j,y,A] t (0,0))):(W.cell? (U g 0)=some x0/\W.cell? (U g 1)=some x1/\W.cell? (U g 2)=some x2/\W.cell? (U g 3)=some i/\W.cell? (U g 4)=some j/\W.cell? (U g 5)=some y/\W.cell? (U g 6)=some A)/\(W.frozen? (U g 0)=false/\W.frozen? (U g 1)=false/\W.frozen? (U g 2)=false/\W.frozen? (U g 3)=false/\W.frozen? (U g 4)=false/\W.frozen? (U g 5)=false/\W.frozen? (U g 6)=false)/\g<W.heap.size:=
 ⟨⟨ax W g 0 _ t (0,0) h,ax W g 1 _ t (0,0) h,ax W g 2 _ t (0,0) h,ax W g 3 _ t (0,0) h,ax W g 4 _ t (0,0) h,ax W g 5 _ t (0,0) h,ax W g 6 _ t (0,0) h⟩,⟨aP W g 0 _ t h,aP W g 1 _ t h,aP W g 2 _ t h,aP W g 3 _ t h,aP W g 4 _ t h,aP W g 5 _ t h,aP W g 6 _ t h⟩,(ae.1 h).1⟩
def MK{a b c d:Value}(h:w.heap[g]?=some (im #[a,b,c,d] t (0,0)))(x0 x1 x2 x3):((((w.setCell (U g 0) x0).setCell (U g 1) x1).setCell (U g 2) x2).setCell (U g 3) x3).heap[g]?=some (im #[x0,x1,x2,x3] t (0,0)):=
 fy _ g 3 _ t _ (fy _ g 2 _ t _ (fy _ g 1 _ t _ (fy _ g 0 _ t _ h)))
def xe:List (Int×Int×Int):=[(101,7,8)]
theorem M6(w:World):mn (w.alloc (im #[I 101,I 7,I 8] 322)) w.heap.size 0 xe:=by
 refine⟨gG,λj h=>?_⟩;have i:=ao w (im #[I 101,I 7,I 8] 322);rw[ax _ _ _ _ _ _ i,ax _ _ _ _ _ _ i,ax _ _ _ _ _ _ i];have y:j<1:=h
 match j,y with
 |0,_=>exact⟨rfl,rfl,rfl⟩
theorem Bk(v)(nr wh ep mk ck cl ca)(val)(w)(hv:sP w v (iV 101 [nr,wh,ep,mk,ck,cl,ca] val))(ok:Rc.Ok xe ⟨101,[nr,wh,ep,mk,ck,cl,ca],val⟩):iB 213 #[v] w λe w'=>∃h i,e=gX (.tuple #[I nr,.agg #[I wh,I ep,I mk,I ck,I cl,I ca,gN h val.length i],.bool true])/\Bl w w'/\w'.ownsRow w.heap.size 5 1 (gN h val.length i) val.length (val.map B8):=by
 have bA:=(Bl.refl w).alloc GH;have hX:=ao w GH;have bB:=(Bl.refl (w.alloc GH)).alloc (im #[I 101,I 7,I 8] 322);have F:=bA.H bB;obtain⟨HW,a1,L⟩:=iz (xx v ⟨101,[nr,wh,ep,mk,ck,cl,ca],val⟩ _ 0 1 xe _ (hv.bl F) (M6 _) gF ok) F ((bB.heap gG).H hX);have a2:Hid ((w.alloc GH).heap.size=w.heap.size+1):=by unfold Hid;simp
 rw[a2.o]at HW;clear hv bA hX bB F ok;go_enter func213,ntmps213;go_wp2_with fail;refine HW.L ?_;rintro e w2⟨g,na,nc,h,i,rfl,M,P,Q⟩;obtain⟨rfl,lg,n0,n1,n2,n3,n4,n5,n6⟩:=BU P;have ng:¬w.heap.size=g:=by have:=(P.lt g rfl).1;simp at this;omega
 have a3:=gP (a1.H M);have V:=(M.heap (ae.1 L).1).H L;have lx:=(ae.1 V).1;have a4:=gP (gZ (base':=w.heap.size) Q λb hb=>by have:=(Q.lt b hb).1;simp at this;omega);have ac:¬w.heap.size=w2.heap.size:=C;clear HW M P Q L a1 a2;let⟨W3,Y⟩:=gJ (w2.alloc (im #[I 101,gN (G g) 7 nc,gN h val.length i] 320));have A:=(Bl.refl w2).alloc (im #[I 101,gN (G g) 7 nc,gN h val.length i] 320);have hR:=ao w2 (im #[I 101,gN (G g) 7 nc,gN h val.length i] 320);rw[Y]at A hR;have y:=gP ((A.heap lx).H V);let⟨r0,r1,r2,lr⟩:=AZ hR;let⟨m0,m1,m2,m3⟩:=A.M lg n0 n1 n2 n3;let⟨m4,m5,m6⟩:=A.D lg n4 n5 n6;have a5:=af lg A.lt;obtain⟨a9,a6,a7⟩:=iz (a3.H A) ((iT A).iX a4 λ_ _ e=>e) Y;clear V Y A a3 a4 n0 n1 n2 n3 n4 n5 n6 hR;go_upto_region 5 with fail;rw[a7.o];clear a7;generalize w2.heap.size=gr at*;go_cut[8]from 21 to 32 λx wx=>∃gc,x= O gc/\Hid (wx.heap[gc]?=some (im (ry ck cl ca h val i) 91 (0,0))/\W3.heap.size<=gc)/\Hid (Bl W3 wx)
 case first=>
  go_region_held3(λW=>W.cell? (U g 4)=some (I ck)/\W.cell? (U g 5)=some (I cl)/\W.cell? (U g 6)=some (I ca)/\W.cell? (U gr 2)=some (lF h val i)) (go_keep) (fail);all_goals(go_wp2_with fail;go_meet)
  all_goals exact⟨_,rfl,⟨ao W3 _,jl⟩,by first|exact(jC.alloc _).drewN _|exact(jC.alloc _).drew|exact jC.alloc _⟩
 case rest=>
  obtain⟨gc,rfl,HC,j⟩:=hcut;let⟨k0,k1,k2,k3,ag⟩:=rX HC.1;have a0:=(j.heap (ae.1 y).1).H y;obtain⟨⟨x0,x1,x2,x3,x4,x5,x6⟩,⟨f0,f1,f2,f3,f4,f5,f6⟩,lX⟩:=Db a0;let⟨p0,p1,p2,p3⟩:=j.M a5 m0 m1 m2 m3;have ai:=af a5 j.lt;have aa:=gP a0;have ak:¬w.heap.size=gc:=by have:=HC.2;have:=(ae.1 y).1;omega
  obtain⟨a8,ab⟩:=gO ((iT j).iX a6 λ_ _ e=>e) (a9.H j);clear m0 m1 m2 m3 m4 m5 m6 r0 r1 r2 a0 a6 y;go_upto_region 6 with fail;go_region_held3(λW=>W.cell? (U g 0)=some (I nr)/\W.cell? (U g 1)=some (I wh)/\W.cell? (U g 2)=some (I ep)/\W.cell? (U g 3)=some (I mk)/\W.cell? (U gc 0)=some (I ck)/\W.cell? (U gc 1)=some (I cl)/\W.cell? (U gc 2)=some (I ca)/\W.cell? (U gc 3)=some (lF h val i)) (go_keep) (fail);all_goals
   go_wp2;have Z:=((((((((gL.refl (λb=>b=w.heap.size) wc).setCell (U w.heap.size 0) (.inl rfl) (I wh)).setCell (U w.heap.size 1) (.inl rfl) (I ep)).setCell (U w.heap.size 2) (.inl rfl) (I mk)).setCell (U w.heap.size 3) (.inl rfl) (I ck)).setCell (U w.heap.size 4) (.inl rfl) (I cl)).setCell (U w.heap.size 5) (.inl rfl) (I ca)).setCell (U w.heap.size 6) (.inl rfl) (lF h val i));have hB:=ab.A Z λn e=>C;have hV:=Z.iX a8 λb hb e=>gY a8 aa gF (jS hb e);exact aG (v:= .tuple #[I nr,.agg #[I wh,I ep,I mk,I ck,I cl,I ca,gN h val.length i],.bool true]) (by simp[results,results213,go_sem,x0,x1,x2,x3,x4,x5,x6]) rfl ⟨h,i,rfl,hB.drew,(iT jC.drew).iX hV λ_ _ e=>e⟩
def ku(w:World)(p o:Nat):List Value->World
 |[]=>w
 |v::vs=>ku (w.setCell (U p o) v) p (o+1) vs
def yE(l:List Value)(o:Nat):List Value->List Value
 |[]=>l
 |v::vs=>yE (l.set o v) (o+1) vs
theorem kA:∀(i:List Value) (o:Nat) (w:World) (l:List Value),w.heap[p]?=some (im l.toArray t (0,0))->(ku w p o i).heap[p]?=some (im (yE l o i).toArray t (0,0))
 |[],_,_,_,h=>h
 |v::i,o,w,l,h=>kA i (o+1) _ _ (by
  have:=fy w p o l.toArray t v h
  rwa[List.setIfInBounds_toArray]at this)
def jx(o)(v)(w:World)(l:List Value)(h:w.heap[p]?=some (im l.toArray t (0,0))):(w.setCell (U p o) v).heap[p]?=some (im (l.set o v).toArray t (0,0)):=kA [v] o w l h
theorem tS(v:Value)(w:World)(hw:∀W b,Bl w W->mn W b 0 [(102,5,255)]->iB 246 #[v,gN (G b) ([(102,5,255)]:List (Int×Int×Int)).length 1] W λe w'=>e=gX (.tuple #[.agg #[I 0,OO,OO],.bool false])/\Bl W w'):iB 215 #[v] w λe w'=>e=gX (.tuple #[I 0,I 0,.agg #[I 0,I 0,I 0,OO],.bool false])/\Bl w w':=by
 have bA:=(Bl.refl w).alloc zD;have L:=ao w zD;have Y:=(Bl.refl (w.alloc zD)).alloc (im #[I 102,I 5,I 255] 322);have y:=bA.H Y;have M:mn ((w.alloc zD).alloc (im #[I 102,I 5,I 255] 322)) (w.alloc zD).heap.size 0 [(102,5,255)]:=by
  refine⟨gG,λj h=>?_⟩;have L:=ao (w.alloc zD) (im #[I 102,I 5,I 255] 322);rw[ax _ _ _ _ _ _ L,ax _ _ _ _ _ _ L,ax _ _ _ _ _ _ L];have h':j<1:=h
  match j,h' with
  |0,_=>exact⟨rfl,rfl,rfl⟩
 obtain⟨HW,P,A⟩:=iz (hw _ _ y M) y ((Y.heap gG).H L);have Q:Hid ((w.alloc zD).heap.size=w.heap.size+1):=by unfold Hid;simp
 rw[Q.o]at HW;clear hw bA L Y y M Q;go_enter func215,ntmps215;go_wp2_with fail;refine gT HW λw2 F=>?_;have i:=(F.heap (ae.1 A).1).H A;let⟨x0,x1,x2,x3,lX⟩:=rX i;let⟨f0,f1,f2,f3⟩:=yo i 0 1 2 3;let⟨a0,a1⟩:=gO (P.H F) i;clear HW F i A P;go_wp2;have Z:=((((gL.refl (λb=>b=w.heap.size) w2).setCell (U w.heap.size 0) (.inl rfl) (I 0)).setCell (U w.heap.size 1) (.inl rfl) (I 0)).setCell (U w.heap.size 2) (.inl rfl) (I 0)).setCell (U w.heap.size 3) (.inl rfl) OO;have hB:=a0.A Z λn e=>C;have V:=MK a1 (I 0) (I 0) (I 0) OO;have bD:=(Bl.refl ((((w2.setCell (U w.heap.size 0) (I 0)).setCell (U w.heap.size 1) (I 0)).setCell (U w.heap.size 2) (I 0)).setCell (U w.heap.size 3) OO)).alloc wO;let⟨y0,y1,y2,y3,_⟩:=rX ((bD.heap (ae.1 V).1).H V);exact aG (v:= .tuple #[I 0,I 0,.agg #[I 0,I 0,I 0,OO],.bool false]) (by simp only[results,results215];simp[go_sem,y0,y1,y2,y3]) rfl ⟨rfl,hB.H bD⟩
def FL(v)(ds)(w)(j:sP w v ds)(y:0<ds.length)(A:ds.length<=1100000000000)(i:∀d∈ds,0<=d/\d<=255)(F:ds.getD 0 0≠102):iB 215 #[v] w λe w'=>e=gX (.tuple #[I 0,I 0,.agg #[I 0,I 0,I 0,OO],.bool false])/\Bl w w':=by
 have h:(([(102,5,255)]:List (Int×Int×Int)).any λs=>qp s.1 s.2.1 s.2.2 ds)=false:=by simp only[eM,List.any_nil,Bool.or_false,qp];rw[show(ds.getD 0 0==102)=false from by simpa using F];rfl
 exact tS v w λW b H L=>zX v ds b 0 1 _ W (j.bl H) y A i L gF h
theorem ts(v:Value)(w:World)(hw:∀W b,Bl w W->mn W b 0 [(101,7,8)]->iB 246 #[v,gN (G b) ([(101,7,8)]:List (Int×Int×Int)).length 1] W λe w'=>e=gX (.tuple #[.agg #[I 0,OO,OO],.bool false])/\Bl W w'):iB 213 #[v] w λe w'=>e=gX (.tuple #[I 0,.agg #[I 0,I 0,I 0,I 0,I 0,I 0,OO],.bool false])/\Bl w w':=by
 have bA:=(Bl.refl w).alloc GH;have P:=ao w GH;have bB:=(Bl.refl (w.alloc GH)).alloc (im #[I 101,I 7,I 8] 322);have i:=bA.H bB;have Q:mn ((w.alloc GH).alloc (im #[I 101,I 7,I 8] 322)) (w.alloc GH).heap.size 0 [(101,7,8)]:=by
  refine⟨gG,λj h=>?_⟩;have P:=ao (w.alloc GH) (im #[I 101,I 7,I 8] 322);rw[ax _ _ _ _ _ _ P,ax _ _ _ _ _ _ P,ax _ _ _ _ _ _ P];have h':j<1:=h
  match j,h' with
  |0,_=>exact⟨rfl,rfl,rfl⟩
 obtain⟨HW,V,y⟩:=iz (hw _ _ i Q) i ((bB.heap gG).H P);have Y:Hid ((w.alloc GH).heap.size=w.heap.size+1):=by unfold Hid;simp
 rw[Y.o]at HW;clear hw bA P bB i Q Y;go_enter func213,ntmps213;go_wp2_with fail;refine gT HW λw2 A=>?_;have F:=(A.heap (ae.1 y).1).H y;obtain⟨⟨x0,x1,x2,x3,x4,x5,x6⟩,⟨f0,f1,f2,f3,f4,f5,f6⟩,lX⟩:=Db F;let⟨a1,a2⟩:=gO (V.H A) F;clear HW A F y V;go_wp2;have Z:=(((((((gL.refl (λb=>b=w.heap.size) w2).setCell (U w.heap.size 0) (.inl rfl) (I 0)).setCell (U w.heap.size 1) (.inl rfl) (I 0)).setCell (U w.heap.size 2) (.inl rfl) (I 0)).setCell (U w.heap.size 3) (.inl rfl) (I 0)).setCell (U w.heap.size 4) (.inl rfl) (I 0)).setCell (U w.heap.size 5) (.inl rfl) (I 0)).setCell (U w.heap.size 6) (.inl rfl) OO;have hB:=a1.A Z λn e=>C;have L:=kA [I 0,I 0,I 0,I 0,I 0,I 0,OO] 0 w2 [I 0,I 0,I 0,I 0,I 0,I 0,OO] a2;let⟨W5,M⟩:=gJ (ku w2 w.heap.size 0 [I 0,I 0,I 0,I 0,I 0,I 0,OO]);have a0:Bl w (ku w2 w.heap.size 0 [I 0,I 0,I 0,I 0,I 0,I 0,OO]):=hB;rw[M]at L a0;simp only[ku,bP,Nat.reduceAdd]at M;rw[M];have bD:=(Bl.refl W5).alloc wO;obtain⟨⟨y0,y1,y2,y3,y4,y5,y6⟩,_,_⟩:=Db ((bD.heap (ae.1 L).1).H L);exact aG (v:= .tuple #[I 0,.agg #[I 0,I 0,I 0,I 0,I 0,I 0,OO],.bool false]) (by simp only[results,results213];simp[go_sem,y0,y1,y2,y3,y4,y5,y6]) rfl ⟨rfl,a0.H bD⟩
def Du(v)(ds)(w)(j:sP w v ds)(y:0<ds.length)(A:ds.length<=1100000000000)(i:∀d∈ds,0<=d/\d<=255)(F:ds.getD 0 0≠101):iB 213 #[v] w λe w'=>e=gX (.tuple #[I 0,.agg #[I 0,I 0,I 0,I 0,I 0,I 0,OO],.bool false])/\Bl w w':=by
 have h:(([(101,7,8)]:List (Int×Int×Int)).any λs=>qp s.1 s.2.1 s.2.2 ds)=false:=by simp only[eM,List.any_nil,Bool.or_false,qp];rw[show(ds.getD 0 0==101)=false from by simpa using F];rfl
 exact ts v w λW b H L=>zX v ds b 0 1 _ W (j.bl H) y A i L gF h
def N1{base o c:Nat}{x0 x1 x2 i j:Int}(h:w.ownsRow base 3 1 (gN (some (U g o)) 5 c) 5 ([x0,x1,x2,i,j].map I)):o=0/\g<w.heap.size/\w.cell? (U g 0)=some (I x0)/\w.cell? (U g 1)=some (I x1)/\w.cell? (U g 2)=some (I x2)/\w.cell? (U g 3)=some (I i)/\w.cell? (U g 4)=some (I j):=by
 obtain⟨e,_⟩|⟨A,cap,y,e,_⟩:=h.2
 .simp at e
 simp only[bO,aJ,Z0]at e;obtain⟨⟨_,rfl,_⟩,_⟩:=e;exact⟨rfl,(h.lt g rfl).2,h.cellAt 0 C,h.cellAt 1 C,h.cellAt 2 C,h.cellAt 3 C,h.cellAt 4 C⟩
def xm:List (Int×Int×Int):=[(102,5,255)]
theorem Nm(w:World):mn (w.alloc (im #[I 102,I 5,I 255] 322)) w.heap.size 0 xm:=by
 refine⟨gG,λj h=>?_⟩;have i:=ao w (im #[I 102,I 5,I 255] 322);rw[ax _ _ _ _ _ _ i,ax _ _ _ _ _ _ i,ax _ _ _ _ _ _ i];have y:j<1:=h
 match j,y with
 |0,_=>exact⟨rfl,rfl,rfl⟩
theorem Dv(v)(nr lt wh pr ba)(val)(w)(hv:sP w v (iV 102 [nr,lt,wh,pr,ba] val))(ok:Rc.Ok xm ⟨102,[nr,lt,wh,pr,ba],val⟩):iB 215 #[v] w λe w'=>∃h i,e=gX (.tuple #[I nr,I lt,.agg #[I wh,I pr,I ba,gN h val.length i],.bool true])/\Bl w w'/\w'.ownsRow w.heap.size 5 1 (gN h val.length i) val.length (val.map B8):=by
 have bA:=(Bl.refl w).alloc zD;have hX:=ao w zD;have bB:=(Bl.refl (w.alloc zD)).alloc (im #[I 102,I 5,I 255] 322);have A:=bA.H bB;obtain⟨HW,Y,F⟩:=iz (xx v ⟨102,[nr,lt,wh,pr,ba],val⟩ _ 0 1 xm _ (hv.bl A) (Nm _) gF ok) A ((bB.heap gG).H hX);have a0:Hid ((w.alloc zD).heap.size=w.heap.size+1):=by unfold Hid;simp
 rw[a0.o]at HW;clear hv bA hX bB A ok;go_enter func215,ntmps215;go_wp2_with fail;refine HW.L ?_;rintro e w2⟨g,na,nc,h,i,rfl,L,M,P⟩;obtain⟨rfl,lg,n0,n1,n2,n3,n4⟩:=N1 M;have ng:¬w.heap.size=g:=by have:=(M.lt g rfl).1;simp at this;omega
 have a1:=gP (Y.H L);have Q:=(L.heap (ae.1 F).1).H F;have lx:=(ae.1 Q).1;have a2:=gP (gZ (base':=w.heap.size) P λb hb=>by have:=(P.lt b hb).1;simp at this;omega);have a7:¬w.heap.size=w2.heap.size:=C;clear HW L M P F Y a0;let⟨W3,V⟩:=gJ (w2.alloc (im #[I 102,gN (G g) 5 nc,gN h val.length i] 320));have y:=(Bl.refl w2).alloc (im #[I 102,gN (G g) 5 nc,gN h val.length i] 320);have hR:=ao w2 (im #[I 102,gN (G g) 5 nc,gN h val.length i] 320);rw[V]at y hR;have j:=(y.heap lx).H Q;let⟨r0,r1,r2,lr⟩:=AZ hR;let⟨x0,x1,x2,x3,lX⟩:=rX j;let⟨f0,f1,f2,f3⟩:=yo j 0 1 2 3;let⟨m0,m1,m2⟩:=y.D lg n0 n1 n2;let⟨m3,m4⟩:=y.B lg n3 n4;have a8:=af lg y.lt;obtain⟨a5,a3,a6,a4⟩:=jR (a1.H y) ((iT y).iX a2 λ_ _ e=>e) j V;clear Q V y a1 a2 n0 n1 n2 n3 n4 hR j;go_upto_region 5 with fail;rw[a4.o];clear a4;generalize w2.heap.size=gr at*;go_region_held3(λW=>W.cell? (U g 0)=some (I nr)/\W.cell? (U g 1)=some (I lt)/\W.cell? (U g 2)=some (I wh)/\W.cell? (U g 3)=some (I pr)/\W.cell? (U g 4)=some (I ba)/\W.cell? (U gr 2)=some (lF h val i)) (go_keep) (fail);all_goals
  go_wp2;have Z:=((((gL.refl (λb=>b=w.heap.size) W3).setCell (U w.heap.size 0) (.inl rfl) (I wh)).setCell (U w.heap.size 1) (.inl rfl) (I pr)).setCell (U w.heap.size 2) (.inl rfl) (I ba)).setCell (U w.heap.size 3) (.inl rfl) (lF h val i);have hB:=a5.A Z λn e=>C;have hV:=Z.iX a3 λb hb e=>gY a3 a6 gF (jS hb e);exact aG (v:= .tuple #[I nr,I lt,.agg (ry wh pr ba h val i),.bool true]) (by simp[results,results215,go_sem,x0,x1,x2,x3]) rfl ⟨h,i,rfl,hB.drew,(iT jC.drew).iX hV λ_ _ e=>e⟩
def CQ(w)(xs:List Int)(f)(g)(h:w.heap[g]?=some (im (xs.map I).toArray 3 f)):Bs w (gN (G g) xs.length xs.length) (xs.map I):=by refine .inr ⟨(U g 0),xs.length,by rw[ay],λj u i=>?_⟩;rw[mK,bP,ax w g j _ 3 f h];simp_all
theorem xI(kd ln nr ep pl ck cl ca)(va)(vc)(val)(w)(Z:0<=kd)(h1:kd<=255)(H:Bs w (gN va val.length vc) (val.map B8))(L:∀b,(gN va val.length vc).ownBlock=some b->b<w.heap.size)(A:val.length<=255):iB 245 #[.agg #[I kd,I ln,I nr,I ep,I pl,I ck,I cl,I ca,gN va val.length vc]] w λe w'=>∃ba M,e=gX (gN ba (iV kd [ln,nr,ep,pl,ck,cl,ca] val).length M)/\Bl w w'/\w'.ownsRow w.heap.size 5 1 (gN ba (iV kd [ln,nr,ep,pl,ck,cl,ca] val).length M) (iV kd [ln,nr,ep,pl,ck,cl,ca] val).length ((iV kd [ln,nr,ep,pl,ck,cl,ca] val).map B8):=by
 have h:=(((Bl.refl w).alloc (im #[I kd,I ln,I nr,I ep,I pl,I ck,I cl,I ca,gN va val.length vc] 100)).alloc (im (ry ck cl ca va val vc) 91)).alloc (im #[I ln,I nr,I ep,I pl,I ck,I cl,I ca] 3);have F:(_:World).heap[_]?=_:=ao ((w.alloc (im #[I kd,I ln,I nr,I ep,I pl,I ck,I cl,I ca,gN va val.length vc] 100)).alloc (im (ry ck cl ca va val vc) 91)) (im #[I ln,I nr,I ep,I pl,I ck,I cl,I ca] 3);have i:((w.alloc (im #[I kd,I ln,I nr,I ep,I pl,I ck,I cl,I ca,gN va val.length vc] 100)).alloc (im (ry ck cl ca va val vc) 91)).heap.size=w.heap.size+1+1:=gG;rw[i]at F;have P:=gP (nE w.heap.size OO 0 [] kd (gN (G (w.heap.size+1+1)) 7 7) (lF va val vc) [ln,nr,ep,pl,ck,cl,ca] val _ mT h.lt C (CQ _ [ln,nr,ep,pl,ck,cl,ca] (0,0) _ F) (H.bl h) C C gG A (λg e=>ny e) (λg e=>ny e) (λg e=>by simp[Value.ownBlock]at e;simp;omega) λg e=>af (L g e) h.lt);have j:=gP h;clear H L h F i;go_enter func245,ntmps245;go_wp2_with fail;refine P.L ?_;rintro e w1⟨v',rfl,y⟩;rw[bP,dz]at y;obtain⟨ga,Q,rfl⟩:=y.B;obtain⟨V,Y⟩:=gO (j.H (y.only.te λk _ e=>ny e)) y.ie;clear P y j;go_wp2;go_ret;exact⟨ga,Q,rfl,V,Y⟩
theorem zm(nr wh ep mk ck cl ca)(va)(vc)(val)(w)(H:Bs w (gN va val.length vc) (val.map B8))(L:∀b,(gN va val.length vc).ownBlock=some b->b<w.heap.size)(A:val.length<=255):iB 338 #[I nr,.agg #[I wh,I ep,I mk,I ck,I cl,I ca,gN va val.length vc]] w λe w'=>∃ba M,e=gX (gN ba (iV 101 [nr,wh,ep,mk,ck,cl,ca] val).length M)/\Bl w w'/\w'.ownsRow w.heap.size 5 1 (gN ba (iV 101 [nr,wh,ep,mk,ck,cl,ca] val).length M) (iV 101 [nr,wh,ep,mk,ck,cl,ca] val).length ((iV 101 [nr,wh,ep,mk,ck,cl,ca] val).map B8):=by
 have h:=(((Bl.refl w).alloc (im #[I wh,I ep,I mk,I ck,I cl,I ca,gN va val.length vc] 215)).alloc (im (ry ck cl ca va val vc) 91)).alloc (im #[I nr,I wh,I ep,I mk,I ck,I cl,I ca] 3);have F:(_:World).heap[_]?=_:=ao ((w.alloc (im #[I wh,I ep,I mk,I ck,I cl,I ca,gN va val.length vc] 215)).alloc (im (ry ck cl ca va val vc) 91)) (im #[I nr,I wh,I ep,I mk,I ck,I cl,I ca] 3);have i:((w.alloc (im #[I wh,I ep,I mk,I ck,I cl,I ca,gN va val.length vc] 215)).alloc (im (ry ck cl ca va val vc) 91)).heap.size=w.heap.size+1+1:=gG;rw[i]at F;have P:=gP (nE w.heap.size OO 0 [] 101 (gN (G (w.heap.size+1+1)) 7 7) (lF va val vc) [nr,wh,ep,mk,ck,cl,ca] val _ mT h.lt C (CQ _ [nr,wh,ep,mk,ck,cl,ca] (0,0) _ F) (H.bl h) C C gG A (λg e=>ny e) (λg e=>ny e) (λg e=>by simp[Value.ownBlock]at e;simp;omega) λg e=>af (L g e) h.lt);have j:=gP h;clear H L h F i;go_enter func338,ntmps338;go_wp2_with fail;refine P.L ?_;rintro e Z⟨v',rfl,y⟩;rw[bP,dz]at y;obtain⟨ga,Q,rfl⟩:=y.B;obtain⟨V,Y⟩:=gO (j.H (y.only.te λk _ e=>ny e)) y.ie;clear P y j;go_wp2;go_ret;exact⟨ga,Q,rfl,V,Y⟩
theorem AP(nr lt wh pr ba)(va)(vc)(val)(w)(H:Bs w (gN va val.length vc) (val.map B8))(L:∀b,(gN va val.length vc).ownBlock=some b->b<w.heap.size)(A:val.length<=255):iB 344 #[I nr,I lt,.agg #[I wh,I pr,I ba,gN va val.length vc]] w λe w'=>∃M P,e=gX (gN M (iV 102 [nr,lt,wh,pr,ba] val).length P)/\Bl w w'/\w'.ownsRow w.heap.size 5 1 (gN M (iV 102 [nr,lt,wh,pr,ba] val).length P) (iV 102 [nr,lt,wh,pr,ba] val).length ((iV 102 [nr,lt,wh,pr,ba] val).map B8):=by
 have h:=((Bl.refl w).alloc (im (ry wh pr ba va val vc) 222)).alloc (im #[I nr,I lt,I wh,I pr,I ba] 3);have F:(_:World).heap[_]?=_:=ao ((w.alloc (im (ry wh pr ba va val vc) 222))) (im #[I nr,I lt,I wh,I pr,I ba] 3);have i:((w.alloc (im (ry wh pr ba va val vc) 222))).heap.size=w.heap.size+1:=gG;rw[i]at F;have Q:=gP (nE w.heap.size OO 0 [] 102 (gN (G (w.heap.size+1)) 5 5) (lF va val vc) [nr,lt,wh,pr,ba] val _ mT h.lt C (CQ _ [nr,lt,wh,pr,ba] (0,0) _ F) (H.bl h) C C gG A (λg e=>ny e) (λg e=>ny e) (λg e=>by simp[Value.ownBlock]at e;simp;omega) λg e=>af (L g e) h.lt);have j:=gP h;clear H L h F i;go_enter func344,ntmps344;go_wp2_with fail;refine Q.L ?_;rintro e w1⟨v',rfl,y⟩;rw[bP,dz]at y;obtain⟨ga,V,rfl⟩:=y.B;obtain⟨Y,Z⟩:=gO (j.H (y.only.te λk _ e=>ny e)) y.ie;clear Q y j;go_wp2;go_ret;exact⟨ga,V,rfl,Y,Z⟩
def wP(f:Nat)(args:Array Value)(w:World)(gH:Nat->Nat)(tg p:Nat)(a b c d ch:Int)(rs:List Rc)(S:Nat->St)(R:An×St):Prop:=
 Calls prog f args w λen w'=>∃va vc rs' S' gI,en=gX (R.1.val (.slice va R.1.ct.val.length vc))/\w'.ownsRow w.heap.size 5 1 (.slice va R.1.ct.val.length vc) R.1.ct.val.length (R.1.ct.val.map B8)/\(∀g,(Value.slice va R.1.ct.val.length vc).ownBlock=some g->gI g=1)/\(∀g,g<w.heap.size->gI g=gH g)/\qo rs S rs' S'/\S' rs'.length=R.2/\(iE rs').length<=(iE rs).length+60/\Kt w' gI tg p a b c d ch rs' S'/\gL (λg=>gH g=tg) w w'
def Ml{w3:World}{h:List Rc}{R:An×St}{A:Nat}(L:tg≠3)(F:Bl w W)(a0:W.heap.size=w.heap.size+1+1+1)(hX:w2.heap[w.heap.size+1+1]?=some (im cs 215 (0,0)))(H:w2.ownsRow W.heap.size 5 1 (gN xa R.1.ct.val.length A) R.1.ct.val.length (R.1.ct.val.map B8))(hM:qo rs S h S')(hE:S' h.length=R.2)(M:(iE h).length<=(iE rs).length+60)(P:Kt w2 (uS (iq gH w.heap.size 3) W.heap.size tg (gN xa R.1.ct.val.length A)) tg p a b c d ch h S')(y:gL (λg=>iq gH w.heap.size 3 g=tg) W w2)(Z:gL (λb=>b=w.heap.size+1+1) w2 w3):∃Q V h S' gI,(gX (R.1.val (gN xa R.1.ct.val.length A)):Ending)=gX (R.1.val (gN Q R.1.ct.val.length V))/\w3.ownsRow w.heap.size 5 1 (gN Q R.1.ct.val.length V) R.1.ct.val.length (R.1.ct.val.map B8)/\(∀g,(gN Q R.1.ct.val.length V).ownBlock=some g->gI g=1)/\(∀g,g<w.heap.size->gI g=gH g)/\qo rs S h S'/\S' h.length=R.2/\(iE h).length<=(iE rs).length+60/\Kt w3 gI tg p a b c d ch h S'/\gL (λg=>gH g=tg) w w3:=by
 have s2:=y.size;refine⟨xa,A,h,S',_,rfl,gZ (Z.iX H λb hb e=>gY H hX gF (jS hb e)) λg j=>?_,λg j=>EY _ _ _ _ _ (H.lt g j).1 j,λg j=>by rw[nz _ _ _ _ _ C];exact gV _ _ _ _ j,hM,hE,M,P.only Z (λg _ e=>?_) hU,?_⟩
 .have h1:=(H.lt g j).1;omega
 .rw[e,nz _ _ _ _ _ C,iJ _ _ _ _ C];exact Ne.symm L
 have s3:=Z.size;refine⟨Z.os.H (y.os.H F.os),Z.tape.H (y.tape.H F.tape),Z.output.H (y.output.H F.output),C,λi Y hn=>?_⟩;rw[Z.block i C C,y.block i C λe=>hn (by rwa[gV _ _ _ _ Y]at e),F.heap Y]
theorem yR(Q:tg≠3)(kd ln nr e x ck cl ca)(va)(vc)(ys:List Int)(R){F N:Nat}{A:Array Value}(hF:(F=334/\N=178/\A=#[.pointer (some ⟨p,0,none⟩),.int .i64 e])\/(F=335/\N=175/\A=#[.pointer (some ⟨p,0,none⟩),.int .i64 e,.int .i64 x,.agg #[.int .i64 ck,.int .i64 cl,.int .i64 ca,gN va ys.length vc]])\/(F=336/\N=171/\A=#[.pointer (some ⟨p,0,none⟩),.int .i64 e,.int .i64 x])\/(F=337/\N=177/\A=#[.pointer (some ⟨p,0,none⟩),.int .i64 e,.int .i64 x]))(hK:∀W,Bl w W->Bu N A W (iq gH w.heap.size 3) tg p a b c d ch rs S R):wP F #[.agg #[.pointer (some ⟨p,0,none⟩)],.agg #[.int .i64 kd,.int .i64 ln,.int .i64 nr,.int .i64 e,.int .i64 x,.int .i64 ck,.int .i64 cl,.int .i64 ca,gN va ys.length vc]] w gH tg p a b c d ch rs S R:=by
 have b3:Bl w (((w.alloc (im #[.pointer (some ⟨p,0,none⟩)] 233)).alloc (AM kd ln nr e x ck cl ca va ys vc)).alloc (im mA 215)):=(((Bl.refl w).alloc _).alloc _).alloc _;obtain⟨W,L⟩:∃W,W=((w.alloc (im #[.pointer (some ⟨p,0,none⟩)] 233)).alloc (AM kd ln nr e x ck cl ca va ys vc)).alloc (im mA 215):=⟨_,rfl⟩;have a0:W.heap.size=w.heap.size+1+1+1:=nG L;have hX:W.heap[w.heap.size+1+1]?=some (im mA 215 (0,0)):=by rw[L];have:=ao ((w.alloc (im #[.pointer (some ⟨p,0,none⟩)] 233)).alloc (AM kd ln nr e x ck cl ca va ys vc)) (im mA 215);have hz:((w.alloc (im #[.pointer (some ⟨p,0,none⟩)] 233)).alloc (AM kd ln nr e x ck cl ca va ys vc)).heap.size=w.heap.size+1+1:=gG;rwa[hz]at this
 rw[<-L]at b3;have V:=gP (hK W b3);unfold Bu at V;let⟨HX,HB,HW⟩:=iz hX b3 L;rw[L]at V;clear hX b3 hK L;unfold wP;unfold mA at V;obtain⟨rfl,rfl,rfl⟩|⟨rfl,rfl,rfl⟩|⟨rfl,rfl,rfl⟩|⟨rfl,rfl,rfl⟩:=hF;all_goals
  first|go_enter func334,ntmps334|go_enter func335,ntmps335|go_enter func336,ntmps336|go_enter func337,ntmps337
  go_wp2_with fail;refine V.L ?_;rintro en w2⟨v,a2,S',rfl,M,hM,hE,i,h,P⟩;have j:=HW.o;unfold mA at j;rw[<-j]at M h P;obtain⟨xa,xc,rfl⟩:=Fb M;have y:w2.heap[w.heap.size+1+1]?=some (im #[.int .i64 0,.int .i64 0,.int .i64 0,.int .i64 0,.int .i64 0,.int .i64 0,gN none 0 0] 215 (0,0)):=(P.block _ C (by rw[iJ _ _ _ _ C];exact Ne.symm Q)).H HX;obtain⟨⟨n0,n1,n2,n3,n4,n5,n6⟩,⟨f0,f1,f2,f3,f4,f5,f6⟩,lN⟩:=Db y;let⟨HP,a1⟩:=gO (And.intro M (And.intro hM (And.intro hE (And.intro i (And.intro h P))))) y;clear V M hM hE i h P y j;unfold An.val jK;go_wp2;obtain⟨M,hM,hE,i,h,P⟩:=HP.o;have Z:=((((((((gL.refl (λb=>b=w.heap.size+1+1) w2).setCell ⟨w.heap.size+1+1,0,none⟩ (.inl rfl) (.int .i64 R.1.wh)).setCell ⟨w.heap.size+1+1,1,none⟩ (.inl rfl) (.int .i64 R.1.ep)).setCell ⟨w.heap.size+1+1,2,none⟩ (.inl rfl) (.int .i64 R.1.mark)).setCell ⟨w.heap.size+1+1,3,none⟩ (.inl rfl) (.int .i64 R.1.ct.kd)).setCell ⟨w.heap.size+1+1,4,none⟩ (.inl rfl) (.int .i64 R.1.ct.cl)).setCell ⟨w.heap.size+1+1,5,none⟩ (.inl rfl) (.int .i64 R.1.ct.ca)).setCell ⟨w.heap.size+1+1,6,none⟩ (.inl rfl) (gN xa R.1.ct.val.length xc));have Y:=Ml (tg:=tg) Q HB a0 a1 M hM hE i h P Z;exact aG (v:= .agg #[.int .i64 R.1.wh,.int .i64 R.1.ep,.int .i64 R.1.mark,.int .i64 R.1.ct.kd,.int .i64 R.1.ct.cl,.int .i64 R.1.ct.ca,gN xa R.1.ct.val.length xc]) (by simp[results,results334,results335,results336,results337,go_sem,n0,n1,n2,n3,n4,n5,n6]) rfl Y
def Lw(h:Kt w gH tg p a b c d ch rs S)(i:tg≠3)(kd ln nr e x ck cl ca)(va)(vc)(ys:List Int)(j:(Lit.int .i64 e).wf=true)(y:(iE rs).length<=1000000000000):wP 334 #[.agg #[O p],.agg #[I kd,I ln,I nr,I e,I x,I ck,I cl,I ca,gN va ys.length vc]] w gH tg p a b c d ch rs S (th (S rs.length) e):=
 yR i kd ln nr e x ck cl ca va vc ys _ (.inl ⟨rfl,rfl,rfl⟩) λ_ A=>Tf (h.only (iT A) (λ_ _ e=>e.elim) λ_ F=>gV _ _ _ _ F) e j y
def LR(h:Kt w gH tg p a b c d ch rs S)(i:tg≠3)(kd ln nr e x ck cl ca)(va)(vc)(ys:List Int)(j:(Lit.int .i64 e).wf=true)(y:(iE rs).length<=1000000000000):wP 336 #[.agg #[O p],.agg #[I kd,I ln,I nr,I e,I x,I ck,I cl,I ca,gN va ys.length vc]] w gH tg p a b c d ch rs S (s9 a b c d ch (S rs.length) e x):=
 yR i kd ln nr e x ck cl ca va vc ys _ (.inr (.inr (.inl ⟨rfl,rfl,rfl⟩))) λ_ A=>SL (h.only (iT A) (λ_ _ e=>e.elim) λ_ F=>gV _ _ _ _ F) e x j y
def Mz(h:Kt w gH tg p a b c d ch rs S)(i:tg≠3)(kd ln nr e x ck cl ca)(va)(vc)(ys:List Int)(j:(Lit.int .i64 e).wf=true)(y:(Lit.int .i64 x).wf=true)(A:(iE rs).length<=1000000000000):wP 337 #[.agg #[O p],.agg #[I kd,I ln,I nr,I e,I x,I ck,I cl,I ca,gN va ys.length vc]] w gH tg p a b c d ch rs S (tj (S rs.length) e x):=
 yR i kd ln nr e x ck cl ca va vc ys _ (.inr (.inr (.inr ⟨rfl,rfl,rfl⟩))) λ_ F=>TS (h.only (iT F) (λ_ _ e=>e.elim) λ_ H=>gV _ _ _ _ H) e x j y A
def GS(h:Kt w gH tg p a b c d ch rs S)(y:tg≠3)(kd ln nr e x ck cl ca)(va)(vc)(ys)(A:(Lit.int .i64 e).wf=true)(F:(Lit.int .i64 x).wf=true)(H:(Lit.int .i64 ck).wf=true)(L:(Lit.int .i64 cl).wf=true)(M:(Lit.int .i64 ca).wf=true)(V:Bs w (gN va ys.length vc) (ys.map B8))(i:∀g,(gN va ys.length vc).ownBlock=some g->g<w.heap.size/\gH g≠tg)(P:mR ys)(Y:sy ck ys.length=true)(Z:(iE rs).length<=1000000000000):wP 335 #[.agg #[O p],.agg #[I kd,I ln,I nr,I e,I x,I ck,I cl,I ca,gN va ys.length vc]] w gH tg p a b c d ch rs S (rP a b c d ch (S rs.length) e x ck cl ca ys):=
 yR y kd ln nr e x ck cl ca va vc ys _ (.inr (.inl ⟨rfl,rfl,rfl⟩)) λ_ Q=>OP (h.only (iT Q) (λ_ _ e=>e.elim) λ_ j=>gV _ _ _ _ j) e x ck cl ca va vc ys A F H L M Z (V.bl Q) (λg j=>⟨af (i g j).1 Q.lt,by rw[gV _ _ _ _ (i g j).1];exact(i g j).2⟩) P Y
def RN(w):(Instr.makeMap 400 none).run prog w=.ok (.map (some w.heap.size)) (w.alloc (.map #[] 0)):=rfl
def By(W:World)(o o'):({(W.alloc o)with heap:=(W.alloc o).heap.setIfInBounds W.heap.size o'}:World)=W.alloc o':=by
 show({(W.alloc o)with heap:=(W.heap.push o).setIfInBounds W.heap.size o'}:World)=W.alloc o';have:(W.heap.push o).setIfInBounds W.heap.size o'=W.heap.push o':=by
  apply Array.ext
  .simp
  intro i j y;by_cases h:i=W.heap.size
  .simp_all
  simp at j;rw[Array.getElem_setIfInBounds_ne (iU j) (Ne.symm h),gv C,gv C]
 rw[this];rfl
def DL(W:World)(g)(es)(n)(k)(f)(i:g=W.heap.size)(j:Instr.findNow (.int .i64) (.int .i64 k) es.toList 0=some none):(Instr.mapUpdate 400 (.map (some g)) (.int .i64 k) f).run prog (W.alloc (.map es n))=.ok () (W.alloc (.map (es.push ⟨.int .i64 k,f,n⟩) (n+1))):=by
 subst i;have h:(W.alloc (.map es n)).heap[W.heap.size]?=some (.map es n):=ao W _;have y:=eW (P:=prog) (w:=W.alloc (.map es n)) (k:= .int .i64 k) underlying3 um false 9999;simp only[Instr.mapUpdate,Sem.run_bind,Z4 underlying400,Result.andThen,aI h,y,(fa (w:=W.alloc (.map es n)) underlying3 j)];rw[Z7 _ h,By]
def KA:Array MapEntry:=#[⟨I 1,(Value.func (Fn.func 334) #[] #[]),0⟩,⟨I 2,(Value.func (Fn.func 335) #[] #[]),1⟩,⟨I 3,(Value.func (Fn.func 336) #[] #[]),2⟩,⟨I 4,(Value.func (Fn.func 337) #[] #[]),3⟩]
def yP(w)(g)(k)(i)(f)(h:w.heap[g]?=some (.map KA 4))(j:Instr.findNow (.int .i64) (.int .i64 k) KA.toList 0=some (some (i,f))):(Instr.lookup 400 (.map (some g)) (.int .i64 k) true).run prog w=.ok (.tuple #[f,.bool true]) w:=by
 have y:=fa (w:=w) underlying3 j;have A:=eW (P:=prog) (w:=w) (k:= .int .i64 k) underlying3 um KA.isEmpty 9999;simp[Instr.lookup,Sem.run_bind,aI h,A,y]
def Az{base:Nat}{u:Value}(h:w.ownsRow base 5 1 u n (ys.map B8)):Bs w u (ys.map B8):=by
 have A:=h.1;obtain⟨i,H⟩|⟨g,cap,F,i,_⟩:=h.2
 .exact .inl ⟨i,aW.1 C⟩
 subst i;exact .inr ⟨(U g 0),cap,by congr 1;simpa using A.symm,λj u y=>by rw[mK,bP,h.cellAt j (gS ((aj.1 y).1))];exact y⟩
def TX{W' w3:World}{y:Int}{h:List Rc}{R:An×St}{V:Nat}(Q:Bl w W)(a0:W.heap.size=w.heap.size+1+1+1)(M:∀g,g<W'.heap.size->gI g=iq gH w.heap.size 3 g)(hM:qo rs S h S')(hE:S' h.length=R.2)(Y:(iE h).length<=(iE rs).length+60)(Z:Kt w2 gI tg p a b c d ch h S')(P:gL (λg=>iq gH w.heap.size 3 g=tg) W' w2)(L:Bl w2 w3)(ho:w3.ownsRow w2.heap.size 5 1 (gN ba (iV 101 [y,R.1.wh,R.1.ep,R.1.mark,R.1.ct.kd,R.1.ct.cl,R.1.ct.ca] R.1.ct.val).length V) (iV 101 [y,R.1.wh,R.1.ep,R.1.mark,R.1.ct.kd,R.1.ct.cl,R.1.ct.ca] R.1.ct.val).length ((iV 101 [y,R.1.wh,R.1.ep,R.1.mark,R.1.ct.kd,R.1.ct.cl,R.1.ct.ca] R.1.ct.val).map B8))(j:Bl W W'):∃A F h S' gI,(gX (.tuple #[gN ba (iV 101 [y,R.1.wh,R.1.ep,R.1.mark,R.1.ct.kd,R.1.ct.cl,R.1.ct.ca] R.1.ct.val).length V,.bool true]):Ending)=gX (.tuple #[gN A (iV 101 [y,R.1.wh,R.1.ep,R.1.mark,R.1.ct.kd,R.1.ct.cl,R.1.ct.ca] R.1.ct.val).length F,.bool true])/\w3.ownsRow w.heap.size 5 1 (gN A (iV 101 [y,R.1.wh,R.1.ep,R.1.mark,R.1.ct.kd,R.1.ct.cl,R.1.ct.ca] R.1.ct.val).length F) (iV 101 [y,R.1.wh,R.1.ep,R.1.mark,R.1.ct.kd,R.1.ct.cl,R.1.ct.ca] R.1.ct.val).length ((iV 101 [y,R.1.wh,R.1.ep,R.1.mark,R.1.ct.kd,R.1.ct.cl,R.1.ct.ca] R.1.ct.val).map B8)/\(∀g,(gN A (iV 101 [y,R.1.wh,R.1.ep,R.1.mark,R.1.ct.kd,R.1.ct.cl,R.1.ct.ca] R.1.ct.val).length F).ownBlock=some g->gI g=4)/\(∀g,g<w.heap.size->gI g=gH g)/\qo rs S h S'/\S' h.length=R.2/\(iE h).length<=(iE rs).length+60/\Kt w3 gI tg p a b c d ch h S'/\gL (λg=>gH g=tg) w w3:=by
 have s1:=j.lt;have s2:=P.size;have s3:=L.lt;refine⟨ba,V,h,S',iq gI w2.heap.size 4,rfl,gZ ho λg H=>?_,λg H=>iJ _ _ _ _ (ho.lt g H).1,λg H=>?_,hM,hE,Y,Z.only (iT L) (λ_ _ e=>e.elim) λg H=>gV _ _ _ _ H,?_⟩
 .have h1:=(ho.lt g H).1;omega
 .rw[gV _ _ _ _ C,M g C,gV _ _ _ _ H]
 refine⟨L.os.H (P.os.H (j.os.H Q.os)),L.tape.H (P.tape.H (j.tape.H Q.tape)),L.output.H (P.output.H (j.output.H Q.output)),C,λi hi hn=>?_⟩;rw[L.heap C,P.block i C λe=>hn (by rwa[gV _ _ _ _ hi]at e),j.heap C,Q.heap hi]
def uT(a b c d ch:Int)(s:St)(kd e x ck cl ca:Int)(ys:List Int):An×St:=
 if kd=1 then th s e else if kd=2 then rP a b c d ch s e x ck cl ca ys else if kd=3 then s9 a b c d ch s e x else tj s e x
def PR(h:Kt w gH tg p a b c d ch rs S)(i:tg≠3)(kd ln nr e x ck cl ca)(F:kd=1\/kd=2\/kd=3\/kd=4)(va)(vc)(ys)(j:(Lit.int .i64 e).wf=true)(y:(Lit.int .i64 x).wf=true)(H:(Lit.int .i64 ck).wf=true)(L:(Lit.int .i64 cl).wf=true)(M:(Lit.int .i64 ca).wf=true)(V:Bs w (gN va ys.length vc) (ys.map B8))(P:∀g,(gN va ys.length vc).ownBlock=some g->g<w.heap.size/\gH g≠tg)(Q:mR ys)(Y:kd=2->sy ck ys.length=true)(A:(iE rs).length<=1000000000000):wP (333+kd.toNat) #[.agg #[O p],.agg #[I kd,I ln,I nr,I e,I x,I ck,I cl,I ca,gN va ys.length vc]] w gH tg p a b c d ch rs S (uT a b c d ch (S rs.length) kd e x ck cl ca ys):=by
 obtain rfl|rfl|rfl|rfl:=F
 .exact Lw h i 1 ln nr e x ck cl ca va vc ys j A
 .exact GS h i 2 ln nr e x ck cl ca va vc ys j y H L M V P Q (Y rfl) A
 .exact LR h i 3 ln nr e x ck cl ca va vc ys j A
 exact Mz h i 4 ln nr e x ck cl ca va vc ys j y A
theorem Jl(h:Kt w gH tg p a b c d ch rs S)(htg:tg≠3)(kd ln nr e x ck cl ca)(hkd:kd=1\/kd=2\/kd=3\/kd=4)(va)(vc)(ys)(hwf:(Lit.int .i64 e).wf=true)(hxf:(Lit.int .i64 x).wf=true)(hkf:(Lit.int .i64 ck).wf=true)(hcf:(Lit.int .i64 cl).wf=true)(haf:(Lit.int .i64 ca).wf=true)(hv:Bs w (gN va ys.length vc) (ys.map B8))(hvb:∀g,(gN va ys.length vc).ownBlock=some g->g<w.heap.size/\gH g≠tg)(hys:mR ys)(hc:kd=2->sy ck ys.length=true)(hl:(iE rs).length<=1000000000000)(R)(hR:R=uT a b c d ch (S rs.length) kd e x ck cl ca ys)(hRl:R.1.ct.val.length<=255):iB 333 #[.agg #[O p],.agg #[I kd,I ln,I nr,I e,I x,I ck,I cl,I ca,gN va ys.length vc]] w λen w'=>∃ba bc rs' S' gI,en=gX (.tuple #[gN ba (iV 101 [nr,R.1.wh,R.1.ep,R.1.mark,R.1.ct.kd,R.1.ct.cl,R.1.ct.ca] R.1.ct.val).length bc,.bool true])/\w'.ownsRow w.heap.size 5 1 (gN ba (iV 101 [nr,R.1.wh,R.1.ep,R.1.mark,R.1.ct.kd,R.1.ct.cl,R.1.ct.ca] R.1.ct.val).length bc) (iV 101 [nr,R.1.wh,R.1.ep,R.1.mark,R.1.ct.kd,R.1.ct.cl,R.1.ct.ca] R.1.ct.val).length ((iV 101 [nr,R.1.wh,R.1.ep,R.1.mark,R.1.ct.kd,R.1.ct.cl,R.1.ct.ca] R.1.ct.val).map B8)/\(∀g,(gN ba (iV 101 [nr,R.1.wh,R.1.ep,R.1.mark,R.1.ct.kd,R.1.ct.cl,R.1.ct.ca] R.1.ct.val).length bc).ownBlock=some g->gI g=4)/\(∀g,g<w.heap.size->gI g=gH g)/\qo rs S rs' S'/\S' rs'.length=R.2/\(iE rs').length<=(iE rs).length+60/\Kt w' gI tg p a b c d ch rs' S'/\gL (λg=>gH g=tg) w w':=by
 have hmk:=RN;have q1:=DL (UM w p kd ln nr e x ck cl ca va ys vc) (w.heap.size+1+1) #[] 0 1 (Value.func (Fn.func 334) #[] #[]) gG rfl;have q2:=DL (UM w p kd ln nr e x ck cl ca va ys vc) (w.heap.size+1+1) #[⟨I 1,(Value.func (Fn.func 334) #[] #[]),0⟩] 1 2 (Value.func (Fn.func 335) #[] #[]) gG rfl;have q3:=DL (UM w p kd ln nr e x ck cl ca va ys vc) (w.heap.size+1+1) #[⟨I 1,(Value.func (Fn.func 334) #[] #[]),0⟩,⟨I 2,(Value.func (Fn.func 335) #[] #[]),1⟩] 2 3 (Value.func (Fn.func 336) #[] #[]) gG rfl;have q4:=DL (UM w p kd ln nr e x ck cl ca va ys vc) (w.heap.size+1+1) #[⟨I 1,(Value.func (Fn.func 334) #[] #[]),0⟩,⟨I 2,(Value.func (Fn.func 335) #[] #[]),1⟩,⟨I 3,(Value.func (Fn.func 336) #[] #[]),2⟩] 3 4 (Value.func (Fn.func 337) #[] #[]) gG rfl;simp only[List.push_toArray,dV,dz,Nat.reduceAdd]at q1 q2 q3 q4;obtain⟨W,hW⟩:∃W,W=(UM w p kd ln nr e x ck cl ca va ys vc).alloc (.map KA 4):=⟨_,rfl⟩;have b3:Bl w W:=by rw[hW];exact((jC.alloc _).alloc _).alloc _
 have hs3:W.heap.size=w.heap.size+1+1+1:=nG hW;have hu0:W.heap[w.heap.size]?=some (im #[O p] 233 (0,0)):=by rw[hW,fJ _ _ _ ig,fJ _ _ _ gG];exact ao w _
 have hq:W.heap[w.heap.size+1]?=some (im #[I kd,I ln,I nr,I e,I x,I ck,I cl,I ca,gN va ys.length vc] 100 (0,0)):=by rw[hW,fJ _ _ _ gG];have:=ao (w.alloc (im #[O p] 233)) (im #[I kd,I ln,I nr,I e,I x,I ck,I cl,I ca,gN va ys.length vc] 100);have hz:(w.alloc (im #[O p] 233)).heap.size=w.heap.size+1:=gG;rwa[hz]at this
 have u0:W.cell? (U w.heap.size 0)=some (O p):=ax W _ 0 _ 233 (0,0) hu0;let⟨g0,g1,g2,g3⟩:=lV hq 0 1 2 3 rfl;let⟨g4,g5,g6⟩:=oR hq 4 5 6 rfl;let⟨g7,g8⟩:=qJ hq 7 8 rfl;have lu:w.heap.size<W.heap.size:=C;have lq:w.heap.size+1<W.heap.size:=C;have HU:Hid (∀W',Bl W W'->wP (333+kd.toNat) #[.agg #[O p],.agg #[I kd,I ln,I nr,I e,I x,I ck,I cl,I ca,gN va ys.length vc]] W' (iq gH w.heap.size 3) tg p a b c d ch rs S R):=λW' hW'=>by have hbb:=b3.H hW';rw[hR];exact PR (h.only (iT hbb) (λ_ _ e=>e.elim) λg hg=>gV _ _ _ _ hg) htg kd ln nr e x ck cl ca hkd va vc ys hwf hxf hkf hcf haf (hv.bl hbb) (λg hg=>⟨af (hvb g hg).1 hbb.lt,by rw[gV _ _ _ _ (hvb g hg).1];exact(hvb g hg).2⟩) hys hc hl
 have hm3:W.heap[w.heap.size+1+1]?=some (.map KA 4):=by rw[hW];have:=ao (UM w p kd ln nr e x ck cl ca va ys vc) (.map KA 4);have hz:(UM w p kd ln nr e x ck cl ca va ys vc).heap.size=w.heap.size+1+1:=gG;rwa[hz]at this
 have ql:(Instr.lookup 400 (.map (some (w.heap.size+1+1))) (I kd) true).run prog W=.ok (.tuple #[.func (Fn.func (333+kd.toNat)) #[] #[],.bool true]) W:=by
  obtain rfl|rfl|rfl|rfl:=hkd
  .exact yP W _ 1 0 _ hm3 rfl
  .exact yP W _ 2 1 _ hm3 rfl
  .exact yP W _ 3 2 _ hm3 rfl
  exact yP W _ 4 3 _ hm3 rfl
 have HW:=gP hW;unfold KA at HW;let⟨HB,HQ⟩:=gO b3 (And.intro hu0 hq);have hWt:=HW.o;clear hW hR b3 h hv hvb hys hc hm3 hu0 hq;rw[hWt]at ql;clear hWt;unfold wP at HU;let⟨F,hF⟩:=gJ (333+kd.toNat);rw[hF]at HU ql;have hFF:Hid (F=334\/F=335\/F=336\/F=337):=lT;clear hF hkd;have hWk:=HW.o;go_enter func333,ntmps333;go_upto_region 5 with fail;rw[<-hWk];clear hWk ql q1 q2 q3 q4 hmk;obtain rfl|rfl|rfl|rfl:=hFF.o;all_goals
  go_region_held3(λW=>W.cell? (U w.heap.size 0)=some (O p)/\W.cell? (U (w.heap.size+1) 0)=some (I kd)/\W.cell? (U (w.heap.size+1) 1)=some (I ln)/\W.cell? (U (w.heap.size+1) 2)=some (I nr)/\W.cell? (U (w.heap.size+1) 3)=some (I e)/\W.cell? (U (w.heap.size+1) 4)=some (I x)/\W.cell? (U (w.heap.size+1) 5)=some (I ck)/\W.cell? (U (w.heap.size+1) 6)=some (I cl)/\W.cell? (U (w.heap.size+1) 7)=some (I ca)/\W.cell? (U (w.heap.size+1) 8)=some (lF va ys vc)) (go_keep)
   (first|((first|go_at_call 334|go_at_call 335|go_at_call 336|go_at_call 337);refine(HU _ ?hb).L ?_;(case hb=>exact jg);rintro en w2⟨xa,xc,rs',S',gI,rfl,ho,ht1,hold,hM,hE,hsz,hkt,oQ⟩;have e1:=(oQ.block w.heap.size lu (by rw[iJ _ _ _ _ jl];exact Ne.symm htg)).H HQ.1;have e2:=(oQ.block (w.heap.size+1) lq (by rw[iJ _ _ _ _ oC];exact Ne.symm htg)).H HQ.2;have l1:=(ae.1 e1).1;have l2:=(ae.1 e2).1;have zu:=ax w2 _ 0 _ 233 (0,0) e1;simp at zu;have z0:=ax w2 _ 0 _ 100 (0,0) e2;simp at z0;have z1:=ax w2 _ 1 _ 100 (0,0) e2;simp at z1;have z2:=ax w2 _ 2 _ 100 (0,0) e2;simp at z2;have z3:=ax w2 _ 3 _ 100 (0,0) e2;simp at z3;have z4:=ax w2 _ 4 _ 100 (0,0) e2;simp at z4;have z5:=ax w2 _ 5 _ 100 (0,0) e2;simp at z5;have z6:=ax w2 _ 6 _ 100 (0,0) e2;simp at z6;have z7:=ax w2 _ 7 _ 100 (0,0) e2;simp at z7;have z8:=ax w2 _ 8 _ 100 (0,0) e2;simp at z8;have HRB:Hid (∀W2,Bl w2 W2->_):=λW2 h2=>zm nr R.1.wh R.1.ep R.1.mark R.1.ct.kd R.1.ct.cl R.1.ct.ca xa xc R.1.ct.val W2 ((Az ho).bl h2) (λg hg=>af (ho.lt g hg).2 h2.lt) hRl;have HP:=Ts hold hM hE hsz hkt oQ;clear ho ht1 hold hM hE hsz hkt oQ e1 e2;unfold An.val jK)|(go_at_call 338;refine(HRB _ ?hb).L ?_;(case hb=>exact jg);rintro en w3⟨ba,bc,rfl,hb3,ho3⟩;have hB3:Bl w2 w3:=Bl.H jg hb3;have yu:=(hB3.cell l1).H zu;let⟨y0,y1,y2,y3⟩:=hB3.M l2 z0 z1 z2 z3;let⟨y4,y5,y6⟩:=hB3.D l2 z4 z5 z6;let⟨y7,y8⟩:=hB3.B l2 z7 z8;have HQ3:=m9 hB3 ho3;clear hb3 hB3 ho3))
  all_goals
   go_wp2;go_ret2;exact TX HB hs3 HP.1 HP.2.1 HP.2.2.1 HP.2.2.2.1 HP.2.2.2.2.1 HP.2.2.2.2.2 HQ3.1 HQ3.2 jg
abbrev ak(a b:Int):Value:= .agg #[I a,I b]
def Uo(w)(d)(a c):(Op.equalIn (d+1) 3 (I a) (I c)).run prog w=.ok (a==c) w:=rfl
def WY(w)(a b):(part 3 #[I a,I b] 0).run prog w=.ok (I a) w:=rfl
def WX(w)(a b):(part 3 #[I a,I b] 1).run prog w=.ok (I b) w:=rfl
def tD(w)(em)(a b):(Instr.checkKey em 10000 294 (ak a b)).run prog w=.ok () w:=rfl
def Wv(w)(a b c d):(Op.equal 294 (ak a b) (ak c d)).run prog w=.ok (a==c&&b==d) w:=by
 have h:=Uo w 9998 a c;have i:=Uo w 9998 b d;show(Op.equalIn (9998+1+1) 294 (ak a b) (ak c d)).run prog w=_;unfold Op.equalIn;simp only[Nat.reduceAdd]at h i
 cases j:(a==c)<;>cases y:(b==d)<;>rw[j]at h<;>rw[y]at i<;>simp[Sem.run_bind,Z4 underlying294,Result.andThen,WY,WX,h,i]
structure Qv where
 cl:Int
 ln:Int
 v:Value
 bo:Nat
def Qv.A(e:Qv):MapEntry:=⟨ak e.cl e.ln,e.v,e.bo⟩
def kR(l:List Qv):Array MapEntry:=(l.map Qv.A).toArray
def xK(a b:Int):List Qv->Nat->Option (Nat×Value)
 |[],_=>none
 |e::es,i=>if a=e.cl/\b=e.ln then some (i,e.v)else xK a b es (i+1)
theorem Ky(w)(a b):∀(l:List Qv) (i:Nat),(Instr.findAsking 294 (ak a b) (l.map Qv.A) i).run prog w=.ok (xK a b l i) w
 |[],i=>by simp[Instr.findAsking,xK]
 |e::A,i=>by
  have h:=Ky w a b A (i+1);have y:=Wv w a b e.cl e.ln;simp only[bj,Instr.findAsking,Sem.run_bind,xK];simp only[Qv.A]at y|-;rw[y];by_cases j:a=e.cl/\b=e.ln
  .simp[Result.andThen,j]
  have F:(a==e.cl&&b==e.ln)=false:=by simpa using j
  rw[F,az j];exact h
theorem vT(w)(a b)(l):(Instr.findKey 294 (ak a b) (kR l).toList).run prog w=.ok (xK a b l 0) w:=by
 unfold Instr.findKey
 cases l with
 |nil=>simp[kR,Instr.findNow,xK]
 |cons e i=>have h:=Ky w a b (e::i) 0;simp;exact h
theorem wZ:∀{l:List Qv} {i:Nat},(∀e∈l,¬(a=e.cl/\b=e.ln))->xK a b l i=none
 |[],_,_=>rfl
 |e::y,i,h=>by unfold xK;rw[az (h e aN)];exact wZ λx j=>h x (aX _ j)
theorem uN:∀{l1 l2:List Qv} {e:Qv} {i:Nat},(∀x∈l1,¬(a=x.cl/\b=x.ln))->a=e.cl->b=e.ln->xK a b (l1++e::l2) i=some (i+l1.length,e.v)
 |[],l2,e,i,_,j,A=>by show xK a b (e::l2) i=_;unfold xK;rw[aE ⟨j,A⟩];rfl
 |x::xs,l2,e,i,h,j,A=>by show xK a b (x::(xs++e::l2)) i=_;unfold xK;rw[az (h x aN),uN (λy F=>h y (aX _ F)) j A];simp;omega
section
variable{l l1 l2:List Qv}{e:Qv}
def DH(j:w.heap[gm]?=some (.map (kR l) clk))(h:∀e∈l,¬(a=e.cl/\b=e.ln)):(Instr.lookup 120 (.map (some gm)) (ak a b) true).run prog w=.ok (.tuple #[.agg #[I 0,OO],.bool false]) w:=by have i:=vT w a b l;rw[wZ h]at i;simp[Instr.lookup,aI j,tD,i]
def sI(j:w.heap[gm]?=some (.map (kR (l1++e::l2)) clk))(h:∀x∈l1,¬(a=x.cl/\b=x.ln))(y:a=e.cl)(A:b=e.ln)(ok):(Instr.lookup 120 (.map (some gm)) (ak a b) ok).run prog w=.ok (if ok then .tuple #[e.v,.bool true]else e.v) w:=by
 have i:=vT w a b (l1++e::l2);rw[uN h y A]at i
 cases ok<;>simp[Instr.lookup,aI j,tD,i]
def G8(i:w.heap[gm]?=some (.map (kR l) clk))(h:∀e∈l,¬(a=e.cl/\b=e.ln)):(Instr.mapUpdate 120 (.map (some gm)) (ak a b) v).run prog w=.ok () (setBlock w gm (.map (kR (l++[⟨a,b,v,clk⟩])) (clk+1))):=by
 have j:=vT w a b l;rw[wZ h]at j;have y:(kR l).push ⟨ak a b,v,clk⟩=kR (l++[⟨a,b,v,clk⟩]):=by simp[kR,Qv.A]
 simp[Instr.mapUpdate,aI i,tD,j,Z7 _ i,y,setBlock]
end
theorem Kc{α:Type}(f):∀(l1:List α) (x:α) (l2:List α),(l1++x::l2).modify l1.length f=l1++f x::l2
 |[],x,l2=>rfl
 |y::l1,x,l2=>by show y::(l1++x::l2).modify l1.length f=_;rw[Kc f l1 x l2];rfl
def N9(a b)(w):(Instr.keyThatStays (ak a b) (ak a b)).run prog w=.ok (ak a b) w:=by
 have h:Instr.sameBits 10000 (ak a b) (ak a b)=true:=by simp[Instr.sameBits]
 unfold Instr.keyThatStays;simp_all
section
variable{l l1 l2:List Qv}{e:Qv}
def IT(i:w.heap[gm]?=some (.map (kR (l1++e::l2)) clk))(h:∀x∈l1,¬(e.cl=x.cl/\e.ln=x.ln)):(Instr.mapUpdate 120 (.map (some gm)) (ak e.cl e.ln) v).run prog w=.ok () (setBlock w gm (.map (kR (l1++{e with v:=v}::l2)) clk)):=by
 have j:=vT w e.cl e.ln (l1++e::l2);rw[uN h rfl rfl,bP]at j;have y:((kR (l1++e::l2))[l1.length]?).map (·.key)=some (ak e.cl e.ln):=by simp[kR,Qv.A]
 have A:(kR (l1++e::l2)).modify l1.length (λx=>{x with key:=ak e.cl e.ln,val:=v})=kR (l1++{e with v:=v}::l2):=by unfold kR;rw[List.modify_toArray,aZ,bj,aZ,bj];have:=Kc (λx:MapEntry=>{x with key:=ak e.cl e.ln,val:=v}) (l1.map Qv.A) e.A (l2.map Qv.A);rw[ay]at this;rw[this];rfl
 simp only[Instr.mapUpdate,Sem.run_bind,Z4 underlying120,Result.andThen,aI i,tD,j];rw[y];simp only[eN,N9,Z7 _ i,A];rfl
def FK(ty)(i:w.heap[gm]?=some (.map (kR (e::l2)) clk)):(Builtin.delete_ #[120,294] ty #[.map (some gm),ak e.cl e.ln]).run prog w=.ok (.tuple #[]) (setBlock w gm (.map (kR l2) clk)):=by
 have h:=vT w e.cl e.ln ([]++e::l2);rw[uN gG rfl rfl]at h;simp at h;have j:(kR (e::l2)).eraseIdxIfInBounds 0=kR l2:=by simp[kR,Array.eraseIdxIfInBounds]
 simp[Builtin.delete_,Sem.run_bind,Z4 underlying120,Result.andThen,aI i,tD,h,Z7 _ i,j,setBlock]
end
end Go.Proofs.YtbghhbpacijmmaaGreat
