import Derived.Deep.DeepCutAuto
import Derived.Test.YtbghhbpacijmmaaGreatL02
open Go.Proofs.Tryz
namespace Go.Proofs.YtbghhbpacijmmaaGreat
set_option maxRecDepth 99999
set_option maxHeartbeats 0
set_option linter.defProp false
open Go.RowKit Go.Maps
attribute [local go_sem ↓] Go.wp_at_zero Go.wp_at_succ
open Go.ChangeMaps (setBlock)
variable {w w' W w2:World} {p tg g gm clk n:Nat} {rs:List Rc} {a b ch c d ep mk:Int} {S S':Nat->St} {t:TypeId} {K K':Nat->Value} {aY bp:Nat->Nat} {iT ds ys:List Int} {v x0 x1 x2 x3:Value} {ct:Nat->Ct} {r:Rc} {ad xa ba:Option Addr} {cs A:Array Value} {xs:List Value} {s:St} {T:Nat->Prop}
section
def no:Ct:=⟨0,0,0,[]⟩
def St.first:St:=⟨0,0,λ_=>no⟩
structure zO(a b c d ch:Int)(rs:List Rc)(S:Nat->St):Prop where
 zero:S 0=St.first
 step:∀j,(h:j<rs.length)->tL a b c d ch (S j) rs[j] (S (j+1))
 ok:∀r∈rs,r.Ok kJ
theorem zO.vU(h:zO a b c d ch rs S):∀j,j<=rs.length->∀i,i<16->((S j).ct i).val.length<=255:=by
 intro j;induction j with
 |zero=>intro _ i _;rw[h.zero];simp[St.first,no]
 |succ j y=>
  intro L i F;have D:=h.step j C;have y:=y C i F;generalize S (j+1)=M at D|-;generalize rs[j]=r at D
  cases D with
  |lE=>exact y
  |rV=>exact y
  |write e x P Q V ys Y _ _ _ _ H=>
   simp only;split
   .have:=xM H;simp;omega
   exact y
def SV(i)(h:i<72):zeroCells248[i]?=some (if i=71 then OO else if i<7 then I 0 else if(i-7)%4=3 then OO else I 0):=by have e:zeroCells248.toList=(List.range 72).map (λi=>if i=71 then dk none 0 0 else if i<7 then I 0 else if(i-7)%4=3 then OO else I 0):=ij;rw[<-gw,e,aK,cD h];rfl
def Ks.oo(a b c d ch):∃K:Nat->Value,∀(base:Nat) (w:World) (p:Nat),w.heap[p]?=some (gO (((((zeroCells248.setIfInBounds 0 (I a)).setIfInBounds 1 (I b)).setIfInBounds 2 (I c)).setIfInBounds 3 (I d)).setIfInBounds 4 (I ch)) 248 (0,0))->Ks base w p a b c d ch 0 0 (λ_=>no) [] K:=by
 have P:∀i,5<=i->(((((zeroCells248.setIfInBounds 0 (I a)).setIfInBounds 1 (I b)).setIfInBounds 2 (I c)).setIfInBounds 3 (I d)).setIfInBounds 4 (I ch))[i]?=zeroCells248[i]?:=by intro i H;rw[cO C,cO C,cO C,cO C,cO C]
 have Q:(((((zeroCells248.setIfInBounds 0 (I a)).setIfInBounds 1 (I b)).setIfInBounds 2 (I c)).setIfInBounds 3 (I d)).setIfInBounds 4 (I ch)).size=72:=by simp only[Array.size_setIfInBounds];rfl
 have V:(((((zeroCells248.setIfInBounds 0 (I a)).setIfInBounds 1 (I b)).setIfInBounds 2 (I c)).setIfInBounds 3 (I d)).setIfInBounds 4 (I ch))[0]?=some (I a):=rfl;have Y:(((((zeroCells248.setIfInBounds 0 (I a)).setIfInBounds 1 (I b)).setIfInBounds 2 (I c)).setIfInBounds 3 (I d)).setIfInBounds 4 (I ch))[1]?=some (I b):=rfl;have Z:(((((zeroCells248.setIfInBounds 0 (I a)).setIfInBounds 1 (I b)).setIfInBounds 2 (I c)).setIfInBounds 3 (I d)).setIfInBounds 4 (I ch))[2]?=some (I c):=rfl;have e3:(((((zeroCells248.setIfInBounds 0 (I a)).setIfInBounds 1 (I b)).setIfInBounds 2 (I c)).setIfInBounds 3 (I d)).setIfInBounds 4 (I ch))[3]?=some (I d):=rfl;have e4:(((((zeroCells248.setIfInBounds 0 (I a)).setIfInBounds 1 (I b)).setIfInBounds 2 (I c)).setIfInBounds 3 (I d)).setIfInBounds 4 (I ch))[4]?=some (I ch):=rfl;generalize (((((zeroCells248.setIfInBounds 0 (I a)).setIfInBounds 1 (I b)).setIfInBounds 2 (I c)).setIfInBounds 3 (I d)).setIfInBounds 4 (I ch))=j at*;refine⟨λi=>(j[i]?).getD undef,λbase w p h=>?_⟩;have y:∀i,5<=i->i<72->(j[i]?).getD undef=(if i=71 then OO else if i<7 then I 0 else if(i-7)%4=3 then OO else I 0):=by intro i H D;rw[P i H,SV i D];rfl
 have F:(j[71]?).getD undef= OO:=by rw[y 71 au au];rfl
 have L:∀i,i<16->(j[10+4*i]?).getD undef= OO:=by intro i D;rw[y _ C C,az C,az C,aE C]
 refine⟨⟨_,248,h,.inl rfl,λi D=>?_⟩,by simp only[V];rfl,by simp only[Y];rfl,by simp only[Z];rfl,by simp only[e3];rfl,by simp only[e4];rfl,?_,?_,?_,λi D=>?_,λi D=>?_,λi D=>?_,λi D=>?_,λi D g M=>?_⟩
 .simp only[dW (show i<j.size by omega),eN]
 .rw[y 5 au au];rfl
 .rw[y 6 au au];rfl
 .simp only[F];exact mC
 iterate 3
  .rw[y _ C C,az C,az C,az C];rfl
 .simp only[L i D];exact mC
 simp only[L i D]at M;simp[Value.ownBlock]at M
def Ks.base{base base':Nat}(h:Ks base w p a b c d ch ep mk ct iT K)(j:base'<=base):Ks base' w p a b c d ch ep mk ct iT K:=
 ⟨h.f,h.k0,h.k1,h.k2,h.k3,h.k4,h.k5,h.k6,gL h.gZ λg e=>aF j (h.gZ.lt g e).1,h.kd,h.cl,h.ca,λi y=>gL (h.val i y) λg e=>aF j ((h.val i y).lt g e).1,h.lM⟩
structure Jc(p:Nat)(a b c d ch:Int)(rs:List Rc)(S:Nat->St)(w2:World)(j:Nat)(W:World):Prop where
 ks:∃K,Ks w2.heap.size W p a b c d ch (S j).ep (S j).mark (S j).ct (gY (rs.take j)) K/\(j=0->∀B,Ks B W p a b c d ch (S j).ep (S j).mark (S j).ct (gY (rs.take j)) K)
 only:bz (λb=>b=p) w2 W
 Wu:∃K,At w2 p K
def UI(hw:zO a b c d ch rs S)(hl:(gY rs).length<=1000000000000)(base):I3 185 (O p) p 71 base rs (Jc p a b c d ch rs S) where
 iT:=by rintro w2 W j⟨⟨K,D,_⟩,_,_⟩ hj;exact⟨_,_,D.f.cell 71 au,D.gZ⟩
 wU:=by rintro w2 W j⟨_,_,⟨K,cs,t,Q,H,_⟩⟩;exact⟨cs,t,Q,by obtain rfl|rfl:=H<;>decide⟩
 only:=λh=>h.only
 bl:=λ⟨⟨K,D,hz⟩,H,h3⟩ V=>⟨⟨K,D.bl V,λe B=>(hz e B).bl V⟩,H.H (bz.E V),h3⟩
 step:=by
  rintro w2 W j nv vv h⟨⟨K,D,_⟩,F,hA⟩ hn hv Y;have Z:(gY (rs.take j)).length<=1000000000000:=by have:=Oz rs j h;unfold off at this;omega
  refine(LC w2.heap.size p base a b c d ch (S j) (S (j+1)) rs[j] _ K nv vv W D F.size Z (hw.vU j C) (hw.step j h) hn hv λg e e'=>?_).L ?_
  .have:=Y g e;have:=(D.gZ.lt g e').1;omega
  rintro e W'⟨K',rfl,a0,y⟩;refine⟨rfl,⟨⟨K',?_,λe=>absurd e C⟩,?_,hA⟩,_,y,?_⟩
  .rw[aM h,kY];simpa [gY]using a0
  .refine⟨y.os.H F.os,y.tape.H F.tape,y.output.H F.output,aF F.size y.size,λi hi M=>?_⟩;rw[y.block i (af hi F.size) λe=>?_,F.block i hi M];obtain e|e:=e
   .exact M e
   have:=(D.gZ.lt i e).1;omega
  rintro x cs f P (e|e)
  .obtain⟨a1,t,Q,H,_⟩:=D.f;subst e;rw[Q]at P;simp only[aJ,Obj.cells.injEq]at P;obtain rfl|rfl:=H<;>exact absurd P.2.1 au
  exact gJ D.gZ P au e
open Go.RowKit
attribute [local go_sem ↓] Go.wp_at_zero Go.wp_at_succ
structure EN(w:World)(ad:Option Addr)(n c:Nat)(rs:List Rc):Prop where
 n1:n<=(gY rs).length
 nc:n<=c
 c1:c<=9223372036854775807
 h:∃b o,(0<n->ad=some (U b o)/\b<w.heap.size)/\∀j d,j<n->(gY rs)[j]?=some d->w.cell? (U b (o+j))=some (B8 d)
def EN.bl{c:Nat}(h:EN w ad n c rs)(y:Bl w w'):EN w' ad n c rs:=by obtain⟨F,H,L,b,o,i,M⟩:=h;refine⟨F,H,L,b,o,λD=>⟨(i D).1,af (i D).2 y.lt⟩,λj d P Q=>?_⟩;rw[y.cell (i C).2];exact M j d P Q
def Bl.RN(h:Bl w w2)(i:bz (λb=>b=p) w2 w')(j:w.heap.size<=p):Bl w w':=h.B i λn e=>C
theorem MD(a b c d u ch)(ad)(n cc)(rs)(S)(w)(Q:yY a b c d u=(ch,0))(hw:zO a b c d ch rs S)(hl:(gY rs).length<=1000000000000)(hd:EN w ad n cc rs):ib 146 #[.agg #[I a,I b,I c,I d],I u,dk ad n cc] w λe w'=>∃k p K,e=gG (.tuple #[O p,I 0])/\k<=rs.length/\off rs k<=n/\(∀h:k<rs.length,n<off rs k+rs[k].bytes.length)/\w.heap.size<=p/\Ks w.heap.size w' p a b c d ch (S k).ep (S k).mark (S k).ct (gY (rs.take k)) K/\(k=0->∀B,Ks B w' p a b c d ch (S k).ep (S k).mark (S k).ct (gY (rs.take k)) K)/\Bl w w':=by
 have bA:=fu ((Bl.refl w).alloc (qh a b c d));have a0:Hid (∀W,ib 90 #[.agg #[I a,I b,I c,I d],I u] W λe w'=>e=gG (.tuple #[I ch,I 0])/\Bl W w'):=λW=>by have:=ts a b c d u W;rwa[Q]at this
 obtain⟨Y,Hd⟩:=fl hw hd;clear Q hw hd;go_enter func146,ntmps146;go_wp2_with fail;refine gF (a0 _) λi j=>?_;have g0:=(j.cell (o:=0) aq).H (ax _ _ 0 _ 27 (0,0) (ao w _));have g1:=(j.cell (o:=1) aq).H (ax _ _ 1 _ 27 (0,0) (ao w _));have g2:=(j.cell (o:=2) aq).H (ax _ _ 2 _ 27 (0,0) (ao w _));have g3:=(j.cell (o:=3) aq).H (ax _ _ 3 _ 27 (0,0) (ao w _));simp at g0 g1 g2 g3;have F:=fu (bA.H j);clear j;obtain⟨HF,bB⟩:=fl (ao i (gO (((((zeroCells248.setIfInBounds 0 (I a)).setIfInBounds 1 (I b)).setIfInBounds 2 (I c)).setIfInBounds 3 (I d)).setIfInBounds 4 (I ch)) 248)) ((Bl.refl i).alloc (gO (((((zeroCells248.setIfInBounds 0 (I a)).setIfInBounds 1 (I b)).setIfInBounds 2 (I c)).setIfInBounds 3 (I d)).setIfInBounds 4 (I ch)) 248));obtain⟨K0,y⟩:=Ks.oo a b c d ch;have y:=fu y;go_wp2;have HO:Hid (∀W Z,i.heap.size<W.heap.size->Bl w W->W.heap[i.heap.size]?=some (gO (((((zeroCells248.setIfInBounds 0 (I a)).setIfInBounds 1 (I b)).setIfInBounds 2 (I c)).setIfInBounds 3 (I d)).setIfInBounds 4 (I ch)) 248 (0,0))->lK W Z 0 kJ->ib 183 #[.pointer (some (U i.heap.size 71)),dk ad n cc,dk (G Z) 3 3,.func (.func 185) #[O i.heap.size] #[]] W λe w'=>∃k K,e=gG (.bool true)/\k<=rs.length/\off rs k<=n/\(∀h:k<rs.length,n<off rs k+rs[k].bytes.length)/\Ks w.heap.size w' i.heap.size a b c d ch (S k).ep (S k).mark (S k).ct (gY (rs.take k)) K/\(k=0->∀B,Ks B w' i.heap.size a b c d ch (S k).ep (S k).mark (S k).ct (gY (rs.take k)) K)/\Bl w w'):=by
  intro W Z iV P hh a1;obtain⟨h1,h2,h3,b',o',h4,h5⟩:=Hd.bl P;refine(Du (O i.heap.size) i.heap.size 71 ad b' o' cc n Z 0 3 rs kJ W _ (UI (p:=i.heap.size) Y hl W.heap.size) (λw2 D=>?_) h1 h2 (aF h1 hl) h3 h4 h5 a1 au Y.ok).L ?_
  .have V:=(D.heap iV).H hh;have hk:=y w2.heap.size w2 i.heap.size V;refine⟨⟨K0,?_,?_⟩,sQ,⟨K0,hk.f⟩⟩
   .rw[Y.zero];exact hk
   intro _ B;rw[Y.zero];exact y B w2 i.heap.size V
  rintro e w'⟨k,w2,rfl,r1,r2,r3,D,⟨K,hK,hz⟩,hO,_⟩;exact⟨k,K,rfl,r1,r2,r3,hK.base (aF P.lt D.lt),hz,(P.H D).RN hO F.lt⟩
 have a2:Hid (∀W,Bl (i.alloc (gO (((((zeroCells248.setIfInBounds 0 (I a)).setIfInBounds 1 (I b)).setIfInBounds 2 (I c)).setIfInBounds 3 (I d)).setIfInBounds 4 (I ch)) 248)) W->W.heap.size=i.heap.size+1->ib 184 #[] W λe w3=>e=gG (dk (G (i.heap.size+1)) 3 3)/\ib 183 #[.pointer (some (U i.heap.size 71)),dk ad n cc,dk (G (i.heap.size+1)) 3 3,.func (.func 185) #[O i.heap.size] #[]] w3 λe w'=>∃k K,e=gG (.bool true)/\k<=rs.length/\off rs k<=n/\(∀h:k<rs.length,n<off rs k+rs[k].bytes.length)/\Ks w.heap.size w' i.heap.size a b c d ch (S k).ep (S k).mark (S k).ct (gY (rs.take k)) K/\(k=0->∀B,Ks B w' i.heap.size a b c d ch (S k).ep (S k).mark (S k).ct (gY (rs.take k)) K)/\Bl w w'):=by intro W P a3;refine(Hy W).L ?_;rw[a3];rintro e w3⟨rfl,a4,M⟩;have iV:i.heap.size<W.heap.size:=C;exact⟨rfl,HO _ _ (af iV M.lt) (((F.H bB).H P).H M) ((M.heap iV).H ((P.heap aq).H HF)) a4⟩
 clear HO;go_region_with(first
  |(go_at_call 184;refine ix (a2 _ (by exact jo.drewN _) aq) λw3 a5=>?_)
  |(go_at_call 183;refine a5.L ?_;rintro e w4⟨k,K,rfl,r1,r2,r3,r4,r6,r5⟩;obtain⟨R6,R1,R2⟩:=gV r6 r1 r2;obtain⟨R3,R4,R5⟩:=gV r3 r4 r5;clear r1 r2 r3 r4 r5 r6))
 all_goals
  go_wp2;go_ret2;exact⟨k,_,K,rfl,R1,R2,R3,F.lt,R4,R6,R5⟩
end
def D0:List (Int×Int×Int):=[(1,2,0),(2,2,255)]
theorem EM(w):ib 186 #[] w λe w'=>e=gG (dk (G w.heap.size) 2 2)/\lK w' w.heap.size 0 D0/\Bl w w':=by
 go_enter func186,ntmps186;go_wp2;go_ret;refine⟨rfl,⟨aq,λj h=>?_⟩,jo.alloc _⟩
 match j,h with
 |0,_=>exact⟨ax _ _ 0 _ 322 (0,0) (ao w _),ax _ _ 1 _ 322 (0,0) (ao w _),ax _ _ 2 _ 322 (0,0) (ao w _)⟩
 |1,_=>exact⟨ax _ _ 3 _ 322 (0,0) (ao w _),ax _ _ 4 _ 322 (0,0) (ao w _),ax _ _ 5 _ 322 (0,0) (ao w _)⟩
 |n+2,h=>simp[D0]at h;omega
def Tn:Ep:=⟨0,0,[]⟩
structure oS(rs:List Rc)(S:Nat->Int->Ep):Prop where
 zero:S 0=λ_=>Tn
 step:∀j,(h:j<rs.length)->sJ (S j) rs[j] (S (j+1))
 ok:∀r∈rs,r.Ok D0
theorem oS.vU{S:Nat->Int->Ep}(h:oS rs S):∀j,j<=rs.length->∀e,(S j e).val.length<=255/\∀d∈(S j e).val,0<=d/\d<=255:=by
 intro j;induction j with
 |zero=>intro _ e;rw[h.zero];simp[Tn]
 |succ j i=>
  intro L e;have y:=h.step j C;have i:=i C;generalize S (j+1)=M at y|-;generalize rs[j]=r at y
  cases y with
  |prep F b _ _ _=>
   unfold nD;split
   .exact i F
   exact i e
  |acc F b ys _ _ _ _ H D _=>
   unfold nD;split
   .exact⟨H,D⟩
   exact i e
structure Jv(p bm:Nat)(rs:List Rc)(S:Nat->Int->Ep)(w2:World)(j:Nat)(W:World):Prop where
 vs:∃M vi,Vs w2.heap.size W p bm j (S j) (gY (rs.take j)) M vi 253/\(j=0->∀B,W.ownsRow B 5 1 vi 0 []/\∀e,M e=TV)
 only:bz (λb=>b=p\/b=bm) w2 W
 Wu:∃vi,w2.heap[p]?=some (.cells #[.map (some bm),vi] 253 (0,0))
 WB:∃es cl,w2.heap[bm]?=some (.map es cl)
def Tk{bm:Nat}{S:Nat->Int->Ep}(Y:oS rs S)(hl:(gY rs).length<=1000000000000)(base):Gr 187 (O p) p 1 bm base rs (Jv p bm rs S) where
 iT:=by rintro w2 W j⟨⟨M,Q,D,_⟩,_,_,_⟩ hj;exact⟨_,_,D.c1,D.gZ⟩
 VK:=by rintro w2 W j⟨_,_,⟨Q,h⟩,_⟩;exact(ae.1 h).1
 MB:=by
  rintro w2 W j⟨_,_,⟨Q,h⟩,⟨es,cl,hm⟩⟩ b cs e f V F;obtain rfl|rfl:=V
  .rw[h]at F;simp only[aJ,Obj.cells.injEq]at F;rw[<-F.2.1];decide
  rw[hm]at F;simp at F
 only:=λh=>h.only
 bl:=λ⟨⟨M,Q,D,hz⟩,h2,h3,h4⟩ V=>⟨⟨M,Q,D.bl V,λe B=>⟨(iD V).iJ (hz e B).1 λ_ _ e=>e,(hz e B).2⟩⟩,h2.H (bz.E V),h3,h4⟩
 step:=by
  rintro w2 W j nv vv h⟨⟨M,Q,D,_⟩,H,hA,hB⟩ hn hv Z;have a0:(gY (rs.take j)).length<=1000000000000:=by have:=Oz rs j h;unfold off at this;omega
  have a1:j<=1000000000000:=by have:=Ci rs j C;unfold off at this;omega
  refine(G7 w2.heap.size p bm j base (S j) (S (j+1)) rs[j] _ M Q 253 nv vv W D H.size a0 a1 (Y.vU j C) (Y.step j h) (Y.ok _ (aL h)).wf hn hv λg e e'=>?_).L ?_
  .have:=Z g e;have:=(D.gZ.lt g e').1;omega
  rintro e W'⟨M',a2,rfl,a3,y⟩;refine⟨rfl,⟨⟨M',a2,?_,λe=>absurd e C⟩,?_,hA,hB⟩,_,y,?_⟩
  .rw[aM h,kY];simpa [gY]using a3
  .refine⟨y.os.H H.os,y.tape.H H.tape,y.output.H H.output,aF H.size y.size,λi hi P=>?_⟩;rw[y.block i (af hi H.size) λe=>?_,H.block i hi P];obtain e|e|e:=e
   .exact P (.inl e)
   .exact P (.inr e)
   have:=(D.gZ.lt i e).1;omega
  rintro x cs f F (e|e|e)
  .subst e;rw[D.f]at F;simp only[aJ,Obj.cells.injEq]at F;exact absurd F.2.1 au
  .exact D.mp.ne F e
  exact gJ D.gZ F au e
theorem La(ad)(n cc)(rs)(S)(w)(hw:oS rs S)(hl:(gY rs).length<=1000000000000)(hd:EN w ad n cc rs):ib 147 #[dk ad n cc] w λe w'=>∃k p bm M j,e=gG (.tuple #[O p,I 0])/\k<=rs.length/\off rs k<=n/\(∀h:k<rs.length,n<off rs k+rs[k].bytes.length)/\w.heap.size<=p/\w.heap.size<=bm/\Vs w.heap.size w' p bm k (S k) (gY (rs.take k)) M j 253/\Bl w w':=by
 obtain⟨Z,Hd⟩:=fl hw hd;clear hw hd;have a0:(Instr.makeMap 251 none).run prog w=.ok (.map (some w.heap.size)) (w.alloc (.map #[] 0)):=by rfl
 go_enter func147,ntmps147;go_wp2;have b0:=fu (((Bl.refl w).alloc (.map #[] 0)).alloc (gO #[.map (some w.heap.size),OO] 253));have a1:Hid (((w.alloc (.map #[] 0)).alloc (gO #[.map (some w.heap.size),OO] 253)).heap[w.heap.size+1]?=some (gO #[.map (some w.heap.size),OO] 253 (0,0))):=by have:=ao (w.alloc (.map #[] 0)) (gO #[.map (some w.heap.size),OO] 253);rw[show(w.alloc (.map #[] 0)).heap.size=w.heap.size+1 from by simp]at this;exact this
 have a2:Hid (Mp ((w.alloc (.map #[] 0)).alloc (gO #[.map (some w.heap.size),OO] 253)) w.heap.size 0 λ_=>TV):=(Mp.Cr w).bl (jo.alloc _);have HO:Hid (∀W,Bl ((w.alloc (.map #[] 0)).alloc (gO #[.map (some w.heap.size),OO] 253)) W->W.heap.size=w.heap.size+2->ib 186 #[] W λe Q=>e=gG (dk (G (w.heap.size+2)) 2 2)/\ib 183 #[.pointer (some (U (w.heap.size+1) 1)),dk ad n cc,dk (G (w.heap.size+2)) 2 2,.func (.func 187) #[O (w.heap.size+1)] #[]] Q λe w'=>∃k M j,e=gG (.bool true)/\k<=rs.length/\off rs k<=n/\(∀h:k<rs.length,n<off rs k+rs[k].bytes.length)/\Vs w.heap.size w' (w.heap.size+1) w.heap.size k (S k) (gY (rs.take k)) M j 253/\Bl w w'):=by
  intro W hW a3;refine(EM W).L ?_;rw[a3];rintro e Q⟨rfl,a4,a5⟩;refine⟨rfl,?_⟩;have y:=hW.H a5;obtain⟨g1,g2,g3,b',o',g4,g5⟩:=Hd.bl (b0.H y);refine(uK 187 (.inr rfl) (O (w.heap.size+1)) (w.heap.size+1) 1 w.heap.size ad b' o' cc n (w.heap.size+2) 0 2 rs D0 Q _ (Tk (p:=w.heap.size+1) (bm:=w.heap.size) Z hl Q.heap.size) (λw4 F=>?_) g1 g2 (aF g1 hl) g3 g4 g5 a4 au Z.ok).L ?_
  .have i:=y.H F;have V:=(i.heap aq).H a1;have Y:=a2.bl i;refine⟨⟨_,_,⟨V,.inl rfl,Y,λe=>⟨OO,?_,?_,λg e=>mX e⟩,?_⟩,λ_ B=>⟨mC,λ_=>rfl⟩⟩,sQ,⟨_,V⟩,?_⟩
   .rw[Z.zero];rfl
   .rw[Z.zero];exact mC
   .exact mC
   obtain⟨D,⟨es,cl,hh,_⟩,_⟩:=Y;exact⟨es,cl,hh⟩
  rintro e w'⟨k,w4,rfl,r1,r2,r3,F,⟨M,j,P,_⟩,a6,_,_⟩;have i:=(b0.H y).H F;refine⟨k,M,j,rfl,r1,r2,r3,?_,i.B a6 λn e=>C⟩;exact⟨P.f,P.ty,P.mp,λe=>by
   obtain⟨vv,h1,h2,h3⟩:=P.ep e
   exact⟨vv,h1,gL h2 λg e=>aF i.lt (h2.lt g e).1,h3⟩,gL P.gZ λg e=>aF i.lt (P.gZ.lt g e).1⟩
 clear a0;go_region_with(first
  |(go_at_call 186;refine ix (HO _ (by exact jo.drewN _) aq) λQ a7=>?_)
  |(go_at_call 183;refine a7.L ?_;rintro e w4⟨k,M,j,rfl,r1,r2,r3,r4,r5⟩;obtain⟨R1,R2,R3⟩:=gV r1 r2 r3;obtain⟨R4,R5⟩:=fl r4 r5;clear r1 r2 r3 r4 r5))
 all_goals
  go_wp2;go_ret2;exact⟨k,_,_,M,j,rfl,R1,R2,R3,C,jc,R4,R5⟩
def mA(ys:List Int):Prop:=∀d∈ys,0<=d/\d<=255
def Ux(a b c d x:Int):Nat:=(n9 a b c d x).2.1.toNat
def sP(aY:Nat->Nat)(N i:Nat)(v:Value):Nat->Nat:=λb=>if b<N then aY b else if v.ownBlock=some b then 1 else i
def mK(aY)(N i)(v)(b)(h:b<N):sP aY N i v b=aY b:=by simp[sP,h]
def Dz(aY)(N i)(v)(b)(h:N<=b)(j:v.ownBlock=some b):sP aY N i v b=1:=by unfold sP;rw[az C,aE j]
def yB(aY)(N i)(v)(b)(h:N<=b)(j:v.ownBlock≠some b):sP aY N i v b=i:=by unfold sP;rw[az C,az j]
def gN(aY:Nat->Nat)(N i:Nat):Nat->Nat:=λb=>if b<N then aY b else i
def fz(aY)(N i b)(h:b<N):gN aY N i b=aY b:=by simp[gN,h]
def ig(aY)(N i b)(h:N<=b):gN aY N i b=i:=by unfold gN;rw[az C]
def qN(aY)(N i):sP aY N i OO=gN aY N i:=rfl
def Ks.ne{base:Nat}(h:Ks base w p a b c d ch ep mk ct iT K)(i:w.heap.size<=g):¬(g=p\/(K 71).ownBlock=some g):=by
 have:=h.f.lt;rintro(e|e)
 .omega
 have:=(h.gZ.lt _ e).2;omega
def DB{B:Nat}(h:w.ownsRow B 5 1 v n xs):∃a c,v=dk a n c:=by obtain⟨j,c',i⟩:=(iC h).len;rw[iF h]at i;simp_all
abbrev Ak:Value:= OO
def Ks.Vh{S:Nat->Prop}{base:Nat}(h:Ks base w p a b c d ch ep mk ct iT K)(j:bz S w w')(F:¬S p)(D:∀g,g<w.heap.size->KF K g->¬S g):Ks base w' p a b c d ch ep mk ct iT K:=
 ⟨h.f.only j F,h.k0,h.k1,h.k2,h.k3,h.k4,h.k5,h.k6,j.iJ h.gZ λg e=>D g (h.gZ.lt g e).2 (.inl e),h.kd,h.cl,h.ca,λi y=>j.iJ (h.val i y) λg e=>D g ((h.val i y).lt g e).2 (.inr ⟨i,y,e⟩),h.lM⟩
def Ks.zero{base:Nat}(h:Ks base w p a b c d ch ep mk ct iT K):Ks 0 w p a b c d ch ep mk ct iT K:=
 ⟨h.f,h.k0,h.k1,h.k2,h.k3,h.k4,h.k5,h.k6,gL h.gZ λ_ _=>jd,h.kd,h.cl,h.ca,λi j=>gL (h.val i j) λ_ _=>jd,h.lM⟩
def Kt(w:World)(aY:Nat->Nat)(tg p:Nat)(a b c d ch:Int)(rs:List Rc)(S:Nat->St):Prop:=
 ∃K,Ks 0 w p a b c d ch (S rs.length).ep (S rs.length).mark (S rs.length).ct (gY rs) K/\zO a b c d ch rs S/\aY p=tg/\∀g,KF K g->aY g=tg
def Kt.lt(h:Kt w aY tg p a b c d ch rs S):p<w.heap.size/\aY p=tg:=by obtain⟨K,i,_,j,_⟩:=h;exact⟨i.f.lt,j⟩
def Kt.TX(h:Kt w aY tg p a b c d ch rs S):zO a b c d ch rs S:=by obtain⟨K,_,i,_⟩:=h;omega
def Kt.only(h:Kt w aY tg p a b c d ch rs S)(H:bz T w w')(j:∀b,b<w.heap.size->T b->aY b≠tg)(y:∀b,b<w.heap.size->bp b=aY b):Kt w' bp tg p a b c d ch rs S:=by obtain⟨K,i,L,D,F⟩:=h;exact⟨K,i.Vh H (λe=>j p i.f.lt e D) λg M hF e=>j g M e (F g hF),L,by rw[y p i.f.lt,D],λg hF=>by rw[y g (i.Fu hF).2,F g hF]⟩
def Kt.bl(h:Kt w aY tg p a b c d ch rs S)(i:Bl w w'):Kt w' aY tg p a b c d ch rs S:=h.only (iD i) (λ_ _ e=>e.elim) gK
def PE(S:Nat->St)(n:Nat)(s:St):Nat->St:=λj=>if j=n+1 then s else S j
def vy(S)(rs)(r:Rc)(s):PE S rs.length s (rs++[r]).length=s:=by simp[PE]
def B4(S)(n k)(s)(h:k<=n):PE S n s k=S k:=by unfold PE;rw[az C]
def zO.snoc(h:zO a b c d ch rs S)(y:tL a b c d ch (S rs.length) r s)(D:r.Ok kJ):zO a b c d ch (rs++[r]) (PE S rs.length s) where
 zero:=by rw[B4 _ _ _ _ jd];exact h.zero
 step:=λj i=>by
  rw[aO,dD]at i;by_cases e:j<rs.length
  .rw[B4 _ _ _ _ C,B4 _ _ _ _ C,dI e];exact h.step j e
  obtain rfl:j=rs.length:=C;unfold PE;simp_all
 ok:=λx hx=>by
  obtain hx|hx:=aT.1 hx
  .exact h.ok x hx
  simp_all
def Kt.step(y:Ks 0 w p a b c d ch (S rs.length).ep (S rs.length).mark (S rs.length).ct (gY rs) K)(H:zO a b c d ch rs S)(L:aY p=tg)(D:∀g,KF K g->aY g=tg)(i:tL a b c d ch (S rs.length) r s)(M:r.Ok kJ)(j:Ks 0 w' p a b c d ch s.ep s.mark s.ct (gY rs++r.bytes) K')(F:Gk p K K' w w'):(∀v:Value,(∀g,v.ownBlock=some g->¬KF K' g)->Kt w' (sP aY w.heap.size tg v) tg p a b c d ch (rs++[r]) (PE S rs.length s))/\bz (λb=>aY b=tg) w w':=by
 have P:bz (λb=>aY b=tg) w w':=F.only.L λb _ e=>by
  obtain rfl|e:=e
  .omega
  exact D b (.inl e)
 refine⟨λv Q=>⟨K',?_,H.snoc i M,by rw[mK _ _ _ _ _ y.f.lt,L],λg hF=>?_⟩,P⟩
 .rw[vy];simpa [gY]using j
 obtain h1|h1:=F.h g hF
 .rw[mK _ _ _ _ _ (y.Fu h1).2,D g h1]
 exact yB _ _ _ _ _ h1 λe=>Q g e hF
def LU(e)(i:(Lit.int .i64 e).wf=true):Rc.Ok kJ ⟨1,[e],[]⟩:=
 ⟨aq,aq,aq,aq,aq,by simp;exact i,aq,(1,1,0),au,rfl,rfl,aq⟩
def N6(e m)(i:(Lit.int .i64 e).wf=true)(j:(Lit.int .i64 m).wf=true):Rc.Ok kJ ⟨2,[e,m],[]⟩:=
 ⟨aq,aq,aq,aq,aq,by simp;exact⟨i,j⟩,aq,(2,2,0),au,rfl,rfl,aq⟩
def Lk(e x kd cl ca)(ys)(j:(Lit.int .i64 e).wf=true)(y:(Lit.int .i64 x).wf=true)(D:(Lit.int .i64 kd).wf=true)(F:(Lit.int .i64 cl).wf=true)(H:(Lit.int .i64 ca).wf=true)(L:ys.length<=8)(i:∀d∈ys,0<=d/\d<=255):Rc.Ok kJ ⟨3,[e,x,kd,cl,ca],ys⟩:=
 ⟨aq,aq,aq,aq,gM,by simp;exact⟨j,y,D,F,H⟩,i,(3,5,8),au,rfl,rfl,gM⟩
def NX(h:Kt w aY tg p a b c d ch rs S)(i:(gY rs).length<=1000000000000):ib 169 #[O p] w λj w'=>∃v,j=gG v/\Bl w w'/\w'.ownsRow w.heap.size 5 1 v (gY rs).length ((gY rs).map B8):=by
 obtain⟨K,y,_⟩:=h;exact JM 0 p a b c d ch _ _ _ _ K w y i
def PK(i:zO a b c d ch rs S)(u)(y:yY a b c d u=(ch,0))(ad)(n cc)(P:(gY rs).length<=1000000000000)(Q:EN w ad n cc rs)(aY)(tg):ib 146 #[.agg #[I a,I b,I c,I d],I u,dk ad n cc] w λF w'=>∃k p,F=gG (.tuple #[O p,I 0])/\k<=rs.length/\off rs k<=n/\(∀h:k<rs.length,n<off rs k+rs[k].bytes.length)/\w.heap.size<=p/\Bl w w'/\Kt w' (gN aY w.heap.size tg) tg p a b c d ch (rs.take k) S:=by
 refine(MD a b c d u ch ad n cc rs S w y i P Q).L ?_;rintro F w'⟨k,p,K,rfl,V,Y,Z,H,M,_,h7⟩;have hk:(rs.take k).length=k:=by rw[bH];omega
 have D:zO a b c d ch (rs.take k) S:=⟨i.zero,λj hj=>by
  have:=i.step j C
  simpa  using this,λr hr=>i.ok r (cQ hr)⟩
 refine⟨k,p,rfl,V,Y,Z,H,h7,K,?_,D,ig _ _ _ _ H,λg hF=>ig _ _ _ _ (M.Fu hF).1⟩;rw[hk];exact M.zero
def pF(rs:List Rc)(S:Nat->St)(rs':List Rc)(S':Nat->St):Prop:=
 (rs'=rs/\S'=S)\/∃r s,rs'=rs++[r]/\S'=PE S rs.length s
def Kt.Ts(j:Ks 0 w p a b c d ch (S rs.length).ep (S rs.length).mark (S rs.length).ct (gY rs) K)(F:zO a b c d ch rs S)(H:aY p=tg)(y:∀g,KF K g->aY g=tg)(i:Ks 0 w' p a b c d ch (S rs.length).ep (S rs.length).mark (S rs.length).ct (gY rs) K')(D:Gk p K K' w w'):(∀v:Value,(∀g,v.ownBlock=some g->¬KF K' g)->Kt w' (sP aY w.heap.size tg v) tg p a b c d ch rs S)/\bz (λb=>aY b=tg) w w':=by
 have L:bz (λb=>aY b=tg) w w':=D.only.L λb _ e=>by
  obtain rfl|e:=e
  .omega
  exact y b (.inl e)
 refine⟨λv M=>⟨K',i,F,by rw[mK _ _ _ _ _ j.f.lt,H],λg hF=>?_⟩,L⟩;obtain h1|h1:=D.h g hF
 .rw[mK _ _ _ _ _ (j.Fu h1).2,y g h1]
 exact yB _ _ _ _ _ h1 λe=>M g e hF
def si(K'):∀g,(dk none 0 0).ownBlock=some g->¬KF K' g:=λg e=>mX e
def Kt.Je{e:Int}(L:Ks 0 w p a b c d ch (S rs.length).ep (S rs.length).mark (S rs.length).ct (gY rs) K)(M:zO a b c d ch rs S)(P:aY p=tg)(Q:∀g,KF K g->aY g=tg)(D:(Lit.int .i64 e).wf=true)(Y:¬e<(S rs.length).ep)(i:Ks 0 w' p a b c d ch e (S rs.length).mark (S rs.length).ct (gY rs++if e=(S rs.length).ep then []else iB 1 [e] []) K')(V:Gk p K K' w w'):∃j S',pF rs S j S'/\S' j.length=⟨e,(S rs.length).mark,(S rs.length).ct⟩/\(gY j).length<=(gY rs).length+24/\(∀v:Value,(∀g,v.ownBlock=some g->¬KF K' g)->Kt w' (sP aY w.heap.size tg v) tg p a b c d ch j S')/\bz (λb=>aY b=tg) w w':=by
 by_cases y:e=(S rs.length).ep
 .rw[aE y,cF,y]at i;obtain⟨F,H⟩:=Kt.Ts L M P Q i V;exact⟨rs,S,.inl ⟨rfl,rfl⟩,qz y,C,F,H⟩
 rw[az y]at i;obtain⟨F,H⟩:=Kt.step L M P Q (tL.lE _ e C) (LU e D) i V;refine⟨_,_,.inr ⟨_,_,rfl,rfl⟩,vy _ _ _ _,?_,F,H⟩;simp[gY,Rc.bytes,nO]
def Rx(h:Kt w aY tg p a b c d ch rs S)(e)(D:(Lit.int .i64 e).wf=true)(hl:(gY rs).length<=1000000000000):ib 178 #[O p,I e] w λQ w'=>∃i S',Q=gG (if e<(S rs.length).ep then jr 5 (S rs.length).ep 0 0 0 0 Ak else jr 1 e 0 0 0 0 Ak)/\pF rs S i S'/\S' i.length=(if e<(S rs.length).ep then S rs.length else⟨e,(S rs.length).mark,(S rs.length).ct⟩)/\(gY i).length<=(gY rs).length+24/\Kt w' (gN aY w.heap.size tg) tg p a b c d ch i S'/\bz (λb=>aY b=tg) w w':=by
 obtain⟨K,F,V,Y,Z⟩:=h;refine(Ed 0 p a b c d ch _ _ _ (gY rs) K e w F jd hl).L ?_;rintro Q w'⟨K',rfl,j,hG⟩;by_cases y:e<(S rs.length).ep
 .rw[aE y,aE (.inl y)]at j;obtain⟨H,M⟩:=Kt.Ts F V Y Z j hG;refine⟨rs,S,rfl,.inl ⟨rfl,rfl⟩,by rw[aE y],C,?_,M⟩;rw[<-qN];exact H _ (si K')
 rw[az y]at j;have P:Ks 0 w' p a b c d ch e (S rs.length).mark (S rs.length).ct (gY rs++if e=(S rs.length).ep then []else iB 1 [e] []) K':=by
  by_cases hq:e=(S rs.length).ep
  .rw[aE (.inr hq)]at j;rw[aE hq,cF];exact j
  simp_all
 obtain⟨i,S',r0,H,M,r3,r4⟩:=Kt.Je F V Y Z D y P hG;refine⟨i,S',rfl,r0,by rw[az y];exact H,M,?_,r4⟩;rw[<-qN];exact r3 _ (si K')
def Rt(h:Kt w aY tg p a b c d ch rs S)(e m)(F:(Lit.int .i64 e).wf=true)(P:(Lit.int .i64 m).wf=true)(hl:(gY rs).length<=1000000000000):ib 177 #[O p,I e,I m] w λQ w'=>∃i S',Q=gG (if e<(S rs.length).ep then jr 5 (S rs.length).ep 0 0 0 0 Ak else jr 1 0 (if(S rs.length).mark<m then m else(S rs.length).mark) 0 0 0 Ak)/\pF rs S i S'/\S' i.length=(if e<(S rs.length).ep then S rs.length else⟨e,if(S rs.length).mark<m then m else(S rs.length).mark,(S rs.length).ct⟩)/\(gY i).length<=(gY rs).length+24/\Kt w' (gN aY w.heap.size tg) tg p a b c d ch i S'/\bz (λb=>aY b=tg) w w':=by
 have hh:=h;obtain⟨K,H,Z,hp,hg⟩:=h;by_cases j:e<(S rs.length).ep
 .refine(E4 0 p a b c d ch _ _ _ (gY rs) K e m w H j).L ?_;rintro Q w'⟨rfl,_,M⟩;refine⟨rs,S,by rw[aE j],.inl ⟨rfl,rfl⟩,by rw[aE j],C,?_,bz.E M⟩;exact hh.only (iD M) (λ_ _ e=>e.elim) λb M=>fz _ _ _ _ M
 refine(xz 0 p a b c d ch _ _ _ (gY rs) K e m w H jd hl j).L ?_;rintro Q w'⟨K',rfl,y,hG⟩;by_cases D:(S rs.length).mark<m
 .rw[aE D,aE D]at y;obtain⟨V,Y⟩:=Kt.step (s:=⟨e,m,(S rs.length).ct⟩) H Z hp hg (tL.rV (S rs.length) e m j D) (N6 e m F P) y hG;refine⟨rs++[⟨2,[e,m],[]⟩],_,by rw[az j],.inr ⟨_,_,rfl,rfl⟩,by rw[az j,aE D];exact vy _ _ _ _,?_,?_,Y⟩
  .rw[kY,aO];simp[gY,Rc.bytes,nO]
  rw[<-qN];exact V _ (si K')
 rw[az D,az D]at y;obtain⟨i,S',r0,V,Y,r3,r4⟩:=Kt.Je H Z hp hg F j y hG;refine⟨i,S',by rw[az j],r0,by rw[az j,az D];exact V,Y,?_,r4⟩;rw[<-qN];exact r3 _ (si K')
def Q9(h:Kt w aY tg p a b c d ch rs S)(e x)(j:(Lit.int .i64 e).wf=true)(P:(gY rs).length<=1000000000000)(D:¬e<(S rs.length).ep):ib 171 #[O p,I e,I x] w λF w'=>∃v i S',F=gG (jr (jQ a b c d ch (S rs.length).mark (S rs.length).ct x).1 0 (jQ a b c d ch (S rs.length).mark (S rs.length).ct x).2.1 (jQ a b c d ch (S rs.length).mark (S rs.length).ct x).2.2.kd (jQ a b c d ch (S rs.length).mark (S rs.length).ct x).2.2.cl (jQ a b c d ch (S rs.length).mark (S rs.length).ct x).2.2.ca v)/\w'.ownsRow w.heap.size 5 1 v (jQ a b c d ch (S rs.length).mark (S rs.length).ct x).2.2.val.length ((jQ a b c d ch (S rs.length).mark (S rs.length).ct x).2.2.val.map B8)/\pF rs S i S'/\S' i.length=⟨e,(S rs.length).mark,(S rs.length).ct⟩/\(gY i).length<=(gY rs).length+24/\Kt w' (sP aY w.heap.size tg v) tg p a b c d ch i S'/\bz (λb=>aY b=tg) w w':=by
 obtain⟨K,H,M,Q,V⟩:=h;refine(Ef 0 p a b c d ch _ _ _ _ K e x w H jd P (M.vU _ jc) D _ _ _ rfl).L ?_;rintro F w'⟨K',v,rfl,Y,y,Z,_,hd⟩;obtain⟨i,S',r0,r1,r2,r3,r4⟩:=Kt.Je H M Q V j D y Z;exact⟨v,i,S',rfl,Y,r0,r1,r2,r3 v hd,r4⟩
def B1(h:Kt w aY tg p a b c d ch rs S)(e x kd cl ca)(va)(vn vc)(j:(Lit.int .i64 e).wf=true)(V:(gY rs).length<=1000000000000)(F:¬e<(S rs.length).ep)(H:qd kd vn=true)(y:(jQ a b c d ch (S rs.length).mark (S rs.length).ct x).1≠3):ib 175 #[O p,I e,I x,.agg #[I kd,I cl,I ca,dk va vn vc]] w λM w'=>∃v i S',M=gG (jr (jQ a b c d ch (S rs.length).mark (S rs.length).ct x).1 0 (jQ a b c d ch (S rs.length).mark (S rs.length).ct x).2.1 (jQ a b c d ch (S rs.length).mark (S rs.length).ct x).2.2.kd (jQ a b c d ch (S rs.length).mark (S rs.length).ct x).2.2.cl (jQ a b c d ch (S rs.length).mark (S rs.length).ct x).2.2.ca v)/\w'.ownsRow w.heap.size 5 1 v (jQ a b c d ch (S rs.length).mark (S rs.length).ct x).2.2.val.length ((jQ a b c d ch (S rs.length).mark (S rs.length).ct x).2.2.val.map B8)/\pF rs S i S'/\S' i.length=⟨e,(S rs.length).mark,(S rs.length).ct⟩/\(gY i).length<=(gY rs).length+24/\Kt w' (sP aY w.heap.size tg v) tg p a b c d ch i S'/\bz (λb=>aY b=tg) w w':=by
 obtain⟨K,P,Q,Y,Z⟩:=h;have h8:=xM H;refine(Ap 0 p a b c d ch _ _ _ _ K e x kd cl ca va vn vc w P jd V (Q.vU _ jc) C F _ _ _ rfl y H).L ?_;rintro M w'⟨K',v,rfl,hv,D,hG,_,hd⟩;obtain⟨i,S',r0,r1,r2,r3,r4⟩:=Kt.Je P Q Y Z j F D hG;exact⟨v,i,S',rfl,hv,r0,r1,r2,r3 v hd,r4⟩
def Dj(h:Kt w aY tg p a b c d ch rs S)(e x kd cl ca)(v)(ys)(i:Nat)(M:(Lit.int .i64 e).wf=true)(P:(Lit.int .i64 x).wf=true)(Q:(Lit.int .i64 kd).wf=true)(V:(Lit.int .i64 cl).wf=true)(Y:(Lit.int .i64 ca).wf=true)(hl:(gY rs).length<=1000000000000)(hv:Bs w v (ys.map B8))(H:∀g,v.ownBlock=some g->g<w.heap.size/\aY g≠tg)(Z:mA ys)(he:¬e<(S rs.length).ep)(hi:i<16)(F:n9 a b c d x=(ch,(i:Int),0))(y:jQ a b c d ch (S rs.length).mark (S rs.length).ct x=(3,0,⟨0,0,0,[]⟩))(hc:qd kd ys.length=true):ib 175 #[O p,I e,I x,.agg #[I kd,I cl,I ca,v]] w λen w'=>∃D S',en=gG (jr 1 0 0 0 0 0 Ak)/\pF rs S D S'/\S' D.length=⟨e,(S rs.length).mark,λj=>if j=i then⟨kd,cl,ca,ys⟩else(S rs.length).ct j⟩/\(gY D).length<=(gY rs).length+60/\Kt w' (gN aY w.heap.size tg) tg p a b c d ch D S'/\bz (λb=>aY b=tg) w w':=by
 obtain⟨K,hk,hw,hp,hg⟩:=h;have h8:=xM hc;refine(sV 0 p a b c d ch _ _ _ (gY rs) K e x kd cl ca v ys i w hk jd hl (hw.vU _ jc) hv C (λg e=>⟨(H g e).1,λe'=>(H g e).2 (hg g (.inl e')),λe'=>(H g e).2 (jP e' hp)⟩) he hi F y hc).L ?_;rintro en w'⟨K',rfl,a0,hG⟩;obtain⟨r1,r2⟩:=Kt.step hk hw hp hg (tL.write (S rs.length) e x kd cl ca ys i he hi F y hc) (Lk e x kd cl ca ys M P Q V Y h8 Z) a0 hG;refine⟨rs++[⟨3,[e,x,kd,cl,ca],ys⟩],_,rfl,.inr ⟨_,_,rfl,rfl⟩,vy _ _ _ _,?_,?_,r2⟩
 .rw[kY,aO];simp[gY,Rc.bytes,nO];omega
 rw[<-qN];exact r1 _ (si K')
def VA{u:Int}(h:yY a b c d u=(ch,0)):mI a b c d=true/\0<=u/\u<=1000/\ch=u/b:=by
 unfold yY at h;by_cases i:mI a b c d=true
 .rw[aE i]at h;by_cases D:u<0\/a*b<=u
  .simp_all
  rw[az D]at h;have y:=rY i;have j:=BP i;have F:=qG y.1 y.2.1 j.1 C;simp at h;exact⟨i,C,C,h.symm⟩
 simp_all
structure An where
 wh:Int
 ep:Int
 mark:Int
 ct:Ct
def An.val(A:An)(v:Value):Value:=jr A.wh A.ep A.mark A.ct.kd A.ct.cl A.ct.ca v
def an(wh ep mk:Int):An:=⟨wh,ep,mk,⟨0,0,0,[]⟩⟩
def tM(s:St)(e:Int):An×St:=if e<s.ep then(an 5 s.ep 0,s)else(an 1 e 0,⟨e,s.mark,s.ct⟩)
def tK(s:St)(e m:Int):An×St:=if e<s.ep then(an 5 s.ep 0,s)else(an 1 0 (if s.mark<m then m else s.mark),⟨e,if s.mark<m then m else s.mark,s.ct⟩)
def tN(a b c d ch:Int)(s:St)(x:Int):An:=⟨(jQ a b c d ch s.mark s.ct x).1,0,(jQ a b c d ch s.mark s.ct x).2.1,(jQ a b c d ch s.mark s.ct x).2.2⟩
def xq(a b c d ch:Int)(s:St)(e x:Int):An×St:=if e<s.ep then(an 5 s.ep 0,s)else(tN a b c d ch s x,⟨e,s.mark,s.ct⟩)
def r9(a b c d ch:Int)(s:St)(e x kd cl ca:Int)(ys:List Int):An×St:=
 if e<s.ep then(an 5 s.ep 0,s)else if qd kd ys.length=false then(an 6 0 0,⟨e,s.mark,s.ct⟩)
 else if(jQ a b c d ch s.mark s.ct x).1=3 then(an 1 0 0,⟨e,s.mark,λj=>if j=Ux a b c d x then⟨kd,cl,ca,ys⟩else s.ct j⟩)else(tN a b c d ch s x,⟨e,s.mark,s.ct⟩)
def AD(f:Nat)(args:Array Value)(w:World)(aY:Nat->Nat)(tg p:Nat)(a b c d ch:Int)(rs:List Rc)(S:Nat->St)(R:An×St):Prop:=
 Calls prog f args w λen w'=>∃v rs' S',en=gG (R.1.val v)/\w'.ownsRow w.heap.size 5 1 v R.1.ct.val.length (R.1.ct.val.map B8)/\pF rs S rs' S'/\S' rs'.length=R.2/\(gY rs').length<=(gY rs).length+60/\Kt w' (sP aY w.heap.size tg v) tg p a b c d ch rs' S'/\bz (λg=>aY g=tg) w w'
def Kt.E(h:Kt w aY tg p a b c d ch rs S)(j:Bl w w'):∃v i S',gG (jr 5 (S rs.length).ep 0 0 0 0 Ak)=gG (An.val (an 5 (S rs.length).ep 0) v)/\w'.ownsRow w.heap.size 5 1 v 0 []/\pF rs S i S'/\S' i.length=S rs.length/\(gY i).length<=(gY rs).length+60/\Kt w' (sP aY w.heap.size tg v) tg p a b c d ch i S'/\bz (λg=>aY g=tg) w w':=
 ⟨Ak,rs,S,rfl,mC,.inl ⟨rfl,rfl⟩,rfl,C,h.only (iD j) (λ_ _ e=>e.elim) λg y=>mK _ _ _ _ _ y,bz.E j⟩
def RA(h:Kt w aY tg p a b c d ch rs S)(e)(i:(Lit.int .i64 e).wf=true)(y:(gY rs).length<=1000000000000):AD 178 #[O p,I e] w aY tg p a b c d ch rs S (tM (S rs.length) e):=by
 refine(Rx h e i y).L ?_;rintro P w'⟨j,S',rfl,D,F,Q,H,M⟩;refine⟨Ak,j,S',?_,?_,D,?_,C,H,M⟩
 .unfold tM;split<;>rfl
 .unfold tM;split<;>exact mC
 rw[F];unfold tM;split<;>rfl
def PW(h:Kt w aY tg p a b c d ch rs S)(e m)(i:(Lit.int .i64 e).wf=true)(j:(Lit.int .i64 m).wf=true)(D:(gY rs).length<=1000000000000):AD 177 #[O p,I e,I m] w aY tg p a b c d ch rs S (tK (S rs.length) e m):=by
 refine(Rt h e m i j D).L ?_;rintro Q w'⟨y,S',rfl,F,H,V,M,P⟩;refine⟨Ak,y,S',?_,?_,F,?_,C,M,P⟩
 .unfold tK;split<;>rfl
 .unfold tK;split<;>exact mC
 rw[H];unfold tK;split<;>rfl
def Ru(h:Kt w aY tg p a b c d ch rs S)(e x)(j:(Lit.int .i64 e).wf=true)(F:(gY rs).length<=1000000000000):AD 171 #[O p,I e,I x] w aY tg p a b c d ch rs S (xq a b c d ch (S rs.length) e x):=by
 unfold xq;by_cases i:e<(S rs.length).ep
 .rw[aE i];obtain⟨K,D,H⟩:=h;refine(C9 0 p a b c d ch _ _ _ _ K e x w D i).L ?_;rintro M w'⟨rfl,_,P⟩;exact Kt.E ⟨K,D,H⟩ P
 rw[az i];refine(Q9 h e x j F i).L ?_;rintro M w'⟨v,y,S',rfl,Q,V,Y,h3,Z,h5⟩;exact⟨v,y,S',rfl,Q,V,Y,C,Z,h5⟩
def MW(h:Kt w aY tg p a b c d ch rs S)(e x kd cl ca)(va)(vc)(ys)(H:(Lit.int .i64 e).wf=true)(Y:(Lit.int .i64 x).wf=true)(Z:(Lit.int .i64 kd).wf=true)(a0:(Lit.int .i64 cl).wf=true)(a1:(Lit.int .i64 ca).wf=true)(hl:(gY rs).length<=1000000000000)(hv:Bs w (dk va ys.length vc) (ys.map B8))(a2:∀g,(dk va ys.length vc).ownBlock=some g->g<w.heap.size/\aY g≠tg)(a3:mA ys)(hc:qd kd ys.length=true):AD 175 #[O p,I e,I x,.agg #[I kd,I cl,I ca,dk va ys.length vc]] w aY tg p a b c d ch rs S (r9 a b c d ch (S rs.length) e x kd cl ca ys):=by
 unfold r9;by_cases M:e<(S rs.length).ep
 .rw[aE M];obtain⟨K,hk,hr⟩:=h;refine(Cc 0 p a b c d ch _ _ _ (gY rs) K e x kd cl ca va ys.length vc w hk M).L ?_;rintro en w'⟨rfl,_,hb⟩;exact Kt.E ⟨K,hk,hr⟩ hb
 rw[az M];rw[az (T2 hc)];by_cases j:(jQ a b c d ch (S rs.length).mark (S rs.length).ct x).1=3
 .rw[aE j];have D:jQ a b c d ch (S rs.length).mark (S rs.length).ct x=(3,0,⟨0,0,0,[]⟩)/\(n9 a b c d x).2.2=0/\(n9 a b c d x).1=ch:=by
   unfold jQ at j|-;by_cases Q:(n9 a b c d x).2.2≠0\/(n9 a b c d x).1≠ch
   .rw[aE Q]at j;exact absurd j (show¬(6:Int)=3 by decide)
   rw[az Q]at j|-;have a4:(n9 a b c d x).2.2=0/\(n9 a b c d x).1=ch:=⟨bk λe=>Q (.inl e),bk λe=>Q (.inr e)⟩;by_cases q2:x<(S rs.length).mark
   .rw[aE q2]at j;exact absurd j (show¬(4:Int)=3 by decide)
   rw[az q2]at j|-;by_cases q3:((S rs.length).ct (n9 a b c d x).2.1.toNat).kd=0
   .rw[aE q3];exact⟨rfl,a4⟩
   rw[az q3]at j;exact absurd j (show¬(2:Int)=3 by decide)
  obtain⟨i,hi,y⟩:=uL D.2.1;have P:Ux a b c d x=i:=by unfold Ux;rw[y];rfl
  refine(Dj h e x kd cl ca _ ys i H Y Z a0 a1 hl hv a2 a3 M hi (j4 y D.2.2) D.1 hc).L ?_;rintro en w'⟨F,S',rfl,h1,h2,j,V,h5⟩;rw[<-qN]at V;exact⟨Ak,F,S',rfl,mC,h1,j4 h2 P,C,V,h5⟩
 rw[az j];refine(B1 h e x kd cl ca va ys.length vc H hl M hc j).L ?_;rintro en w'⟨v,F,S',rfl,h0,h1,h2,j,V,h5⟩;exact⟨v,F,S',rfl,h0,h1,h2,C,V,h5⟩
abbrev JY(p0:Ct)(p1)(p2):=gO #[I p0.kd,I p0.cl,I p0.ca,dk p1 p0.val.length p2] 91
abbrev Tg(p0:An)(p1)(p2):=gO #[I p0.wh,I p0.ep,I p0.mark,I p0.ct.kd,I p0.ct.cl,I p0.ct.ca,dk p1 p0.ct.val.length p2] 215
def rI(w:World)(v:Value)(ds:List Int):Prop:=∃b o c,v=.slice (some (U b o)) ds.length c/\b<w.heap.size/\ds.length<=c/\c<=9223372036854775807/\∀j d,ds[j]?=some d->w.cell? (U b (o+j))=some (B8 d)
def rI.bl(h:rI w v ds)(i:Bl w w'):rI w' v ds:=by obtain⟨b,o,c,e,y,D,F,L⟩:=h;exact⟨b,o,c,e,af y i.lt,D,F,λj d M=>(i.cell y).H (L j d M)⟩
def rI.sl(h:rI w v ds):Sl w v (ds.map B8):=by obtain⟨b,o,c,e,i,F,H,L⟩:=h;refine .inr ⟨b,o,c,by rw[ay];exact e,i,λj y=>?_⟩;have D:j<ds.length:=iG y;simp_all
def Iw(r:Rc):3<=r.bytes.length:=by rw[r.len];omega
def F8{kJ:List (Int×Int×Int)}(h:r.Ok kJ):r.bytes.length<=2298:=by have i:=h.n1;have j:=h.v1;rw[r.len];omega
theorem MT(v)(ds)(bs os cs)(kJ)(w)(Q:rI w v ds)(h0:0<ds.length)(hl:ds.length<=1100000000000)(F:∀d∈ds,0<=d/\d<=255)(i:lK w bs os kJ)(hs:kJ.length<=1000)(V:(kJ.any λs=>pH s.1 s.2.1 s.2.2 ds)=false):ib 233 #[v,dk (some (U bs os)) kJ.length cs] w λe w'=>e=gG (.tuple #[OO,.bool false])/\Bl w w':=by
 have H:=Q.sl;obtain⟨b,o,c,rfl,_⟩:=Q;have D:=(Bl.refl w).alloc (gO #[dk (some (U b o)) ds.length c] 40);have Y:=ao w (gO #[dk (some (U b o)) ds.length c] 40);have x0:(w.alloc (gO #[dk (some (U b o)) ds.length c] 40)).cell? (U w.heap.size 0)=some (dk (some (U b o)) ds.length c):=ax _ w.heap.size 0 _ 40 (0,0) Y;have y:lK (w.alloc (gO #[dk (some (U b o)) ds.length c] 40)) bs os kJ:=⟨af i.1 D.lt,λj h=>by rw[D.cell i.1,D.cell i.1,D.cell i.1];exact i.2 j h⟩;have M:=fu (qq bs os cs kJ w.heap.size _ ds _ y aq x0 (H.bl D) h0 hl F hs);rw[V]at M;have HB:=fu D;have Z:(0:Int)<(ds.length:Int):=C;clear H D Y y i F V x0;go_enter func233,ntmps233;go_wp2;refine Z6 1 ?_;rw[ZZ];go_wp2_with fail;refine gF M λw2 L=>?_;have P:=fu (HB.H L);clear M L;go_wp2;go_ret2;exact⟨rfl,P⟩
theorem wC(v)(r:Rc)(bs os cs)(kJ)(w)(hv:rI w v r.bytes)(y:lK w bs os kJ)(hs:kJ.length<=1000)(ok:r.Ok kJ):ib 246 #[v,dk (some (U bs os)) kJ.length cs] w λe w'=>∃g na nc va vc,e=gG (.tuple #[.agg #[I r.kd,dk (some (U g na)) r.ns.length nc,dk va r.val.length vc],.bool true])/\Bl w w'/\w'.ownsRow w.heap.size 3 1 (dk (some (U g na)) r.ns.length nc) r.ns.length (r.ns.map I)/\w'.ownsRow w.heap.size 5 1 (dk va r.val.length vc) r.val.length (r.val.map B8):=by
 obtain⟨b,o,c,rfl,h1,h2,h3,h4⟩:=hv;have D:gY [r]=r.bytes:=by simp[gY]
 have am:=F8 ok;have an:=Iw r;have V:=(Bl.refl w).alloc uX;have HS:=fu (vS (some (U b o)) b o c r.bytes.length bs os cs [r] kJ (w.alloc uX) (by rw[D];exact jc) h2 C h3 (λ_=>⟨rfl,gM⟩) (λj d hj hd=>by rw[D]at hd;rw[V.cell h1];exact h4 j d hd) ⟨af y.1 V.lt,λj h=>by rw[V.cell y.1,V.cell y.1,V.cell y.1];exact y.2 j h⟩ hs (iG ok));obtain⟨HA,hX,F⟩:=gV V (ao w uX) ok;clear h4 y ok V;go_enter func246,ntmps246;go_wp2_with fail;refine HS.L ?_;rintro e w1⟨k,rv,xs,rfl,k1,k2,k3,k4,Y⟩;have hk:k=1:=by
  apply bk;intro ap;obtain rfl:k=0:=by simp at k1;omega
  have:=k3 aq;rw[sO]at this;simp at this
 subst hk;have e1:List.take 1 [r]=[r]:=rfl;rw[e1]at k4;obtain⟨nv,n1,P⟩:=k4.ns 0 aq;obtain⟨vv,v1,Q⟩:=k4.val 0 aq;have a0:=k4.kd 0 aq;simp only[List.getElem_cons_zero,Nat.mul_zero,bP]at n1 P v1 Q a0;have i:=k4.gZ;obtain⟨gr,cr,aa⟩:∃gr cr,rv=dk (G gr) 1 cr:=by
  obtain⟨_,e'⟩|⟨g,cap,a4,e,_⟩:=i.2
  .simp at e'
  exact⟨g,cap,iG e⟩
 subst aa;obtain⟨gn,cn,ab⟩:∃gn cn,nv=dk (G gn) r.ns.length cn:=by
  obtain⟨_,e'⟩|⟨g,cap,a4,e,_⟩:=P.2
  .have:=F.n0;omega
  exact⟨g,cap,e⟩
 obtain⟨va,vc,a5⟩:=(iC Q).len;rw[ay]at a5;subst ab a5;have d0:=(i.cellAt 0 aq).H a0;have d1:=(i.cellAt 1 aq).H n1;have d2:=(i.cellAt 2 aq).H v1;have a6:gr<w1.heap.size:=(i.lt gr rfl).2;have a1:∀{e:TypeId} {u:Value} {n:Nat} {ys:List Value},w1.ownsRow w.heap.size e 1 u n ys->n=ys.length->Bs w1 u ys:=fun{e u n ys} h hn=>by
  subst hn;obtain⟨e1,e2⟩|⟨g,cap,a4,e1,_⟩:=h.2
  .exact .inl ⟨e1,aW.1 e2⟩
  subst e1;exact .inr ⟨(U g 0),cap,rfl,λj u hj=>by rw[mU,bP,h.cellAt j (gI ((aj.1 hj).1))];exact hj⟩
 have HR:=fu (mT 0 OO 0 [] r.kd _ _ r.ns r.val w1 mC jd C (a1 (gL P (by intro g hg;have:=(P.lt g hg).1;simp at this;omega)) aq) (a1 (gL Q (by intro g hg;have:=(Q.lt g hg).1;simp at this;omega)) aq) F.k0 F.k1 F.n1 F.v1 (λg e=>mX e) (λg e=>mX e) (λg e=>(P.lt g e).2) λg e=>(Q.lt g e).2);obtain⟨ac,a2⟩:=fl (HA.H Y) ((Y.heap aq).H hX);have HN:=fu (gL (base':=w.heap.size) P (by intro g hg;have:=(P.lt g hg).1;simp at this;omega));have HV:=fu (gL (base':=w.heap.size) Q (by intro g hg;have:=(Q.lt g hg).1;simp at this;omega));have ag:(iB r.kd r.ns r.val).length=r.bytes.length:=rfl;clear HS k2 k3 k4 Y n1 P v1 Q a0 i a1 hX HA;go_wp2_with fail;refine HR.L ?_;rintro e w2⟨v',rfl,hG⟩;rw[bP,ag]at hG;obtain⟨ga,gc,rfl⟩:=hG.E;have L:=hG.only.qp λk _ e=>mX e;obtain⟨ar,av,aw⟩:=L.F a6 d0 d1 d2;have al:=af a6 L.lt;have M:=(L.heap (ae.1 a2).1).H a2;obtain⟨y0,y1,y2⟩:=px M 0 1 2 rfl;obtain⟨f0,f1,f2⟩:=Au M 0 1 2;have b0:w.heap.size<w2.heap.size:=(ae.1 M).1;obtain⟨a3,a7⟩:=fl L M;clear HR hG L M d0 d1 d2 a2;go_wp2;have Z:=(((bz.refl (λb=>b=w.heap.size) w2).setCell (U w.heap.size 0) (.inl rfl) (I r.kd)).setCell (U w.heap.size 1) (.inl rfl) (dk (G gn) r.ns.length cn)).setCell (U w.heap.size 2) (.inl rfl) (dk va r.val.length vc);have hB:=(ac.H a3).B Z λn e=>C;have a8:=(iD a3).iJ HN λ_ _ e=>e;have a9:=(iD a3).iJ HV λ_ _ e=>e;have ai:=Z.iJ a8 λb hb e=>gJ a8 a7 au (j4 hb e);have ak:=Z.iJ a9 λb hb e=>gJ a9 a7 au (j4 hb e);exact aG (v:= .tuple #[.agg #[I r.kd,dk (G gn) r.ns.length cn,dk va r.val.length vc],.bool true]) (by simp[results,results246,go_sem,y0,y1,y2]) rfl ⟨gn,0,cn,va,vc,rfl,hB,ai,ak⟩
theorem zb(v)(ds)(bs os cs)(kJ)(w)(P:rI w v ds)(h0:0<ds.length)(hl:ds.length<=1100000000000)(L:∀d∈ds,0<=d/\d<=255)(i:lK w bs os kJ)(hs:kJ.length<=1000)(Q:(kJ.any λs=>pH s.1 s.2.1 s.2.2 ds)=false):ib 246 #[v,dk (some (U bs os)) kJ.length cs] w λe w'=>e=gG (.tuple #[.agg #[I 0,OO,OO],.bool false])/\Bl w w':=by
 have D:=(Bl.refl w).alloc uX;have V:=fu (MT v ds bs os cs kJ _ (P.bl D) h0 hl L ⟨af i.1 D.lt,λj h=>by rw[D.cell i.1,D.cell i.1,D.cell i.1];exact i.2 j h⟩ hs Q);obtain⟨Y,hX⟩:=fl D (ao w uX);clear P L i Q D;go_enter func246,ntmps246;go_wp2_with fail;refine gF V λw2 F=>?_;have y:=(F.heap aq).H hX;obtain⟨y0,y1,y2⟩:=px y 0 1 2 rfl;obtain⟨f0,f1,f2⟩:=Au y 0 1 2;have a0:w.heap.size<w2.heap.size:=(ae.1 y).1;have M:=fu (Y.H F);clear V F hX y Y;go_wp2;have Z:=(((bz.refl (λb=>b=w.heap.size) w2).setCell (U w.heap.size 0) (.inl rfl) (I 0)).setCell (U w.heap.size 1) (.inl rfl) OO).setCell (U w.heap.size 2) (.inl rfl) OO;have hB:=M.B Z λn e=>C;exact aG (v:= .tuple #[.agg #[I 0,OO,OO],.bool false]) (by simp[results,results246,go_sem,y0,y1,y2]) rfl ⟨rfl,hB⟩
def m8:List (Int×Int×Int):=[(1,7,0),(2,7,8),(3,7,0),(4,7,0),(5,7,0),(6,7,255),(7,7,0)]
theorem qm(w):ib 247 #[] w λe w'=>∃y,e=gG (dk (G y) 7 7)/\Bl w w'/\lK w' y 0 m8:=by
 go_enter func247,ntmps247;go_wp2;go_ret;refine⟨_,rfl,jo.alloc _,aq,λj h=>?_⟩;have D:j<7:=h;have i:=ao w (gO #[I 1,I 7,I 0,I 2,I 7,I 8,I 3,I 7,I 0,I 4,I 7,I 0,I 5,I 7,I 0,I 6,I 7,I 255,I 7,I 7,I 0] 322);rw[ax _ _ _ _ _ _ i,ax _ _ _ _ _ _ i,ax _ _ _ _ _ _ i]
 match j,D with
 |0,_=>exact⟨rfl,rfl,rfl⟩
 |1,_=>exact⟨rfl,rfl,rfl⟩
 |2,_=>exact⟨rfl,rfl,rfl⟩
 |3,_=>exact⟨rfl,rfl,rfl⟩
 |4,_=>exact⟨rfl,rfl,rfl⟩
 |5,_=>exact⟨rfl,rfl,rfl⟩
 |6,_=>exact⟨rfl,rfl,rfl⟩
def AT{base o c:Nat}{x0 x1 x2 x3 i j y:Int}(h:w.ownsRow base 3 1 (dk (some (U g o)) 7 c) 7 ([x0,x1,x2,x3,i,j,y].map I)):o=0/\g<w.heap.size/\w.cell? (U g 0)=some (I x0)/\w.cell? (U g 1)=some (I x1)/\w.cell? (U g 2)=some (I x2)/\w.cell? (U g 3)=some (I x3)/\w.cell? (U g 4)=some (I i)/\w.cell? (U g 5)=some (I j)/\w.cell? (U g 6)=some (I y):=by
 obtain⟨e,_⟩|⟨F,cap,D,e,_⟩:=h.2
 .omega
 simp at e;obtain⟨⟨_,rfl,_⟩,_⟩:=e;exact⟨rfl,(h.lt g rfl).2,h.cellAt 0 C,h.cellAt 1 C,h.cellAt 2 C,h.cellAt 3 C,h.cellAt 4 C,h.cellAt 5 C,h.cellAt 6 C⟩
def Ao(h:W.heap[g]?=some (gO #[x0,x1,x2] t (0,0))):W.cell? (U g 0)=some x0/\W.cell? (U g 1)=some x1/\W.cell? (U g 2)=some x2/\g<W.heap.size:=
 ⟨ax W g 0 _ t _ h,ax W g 1 _ t (0,0) h,ax W g 2 _ t _ h,(ae.1 h).1⟩
def qP(h:W.heap[g]?=some (gO #[x0,x1,x2,x3] t (0,0))):W.cell? (U g 0)=some x0/\W.cell? (U g 1)=some x1/\W.cell? (U g 2)=some x2/\W.cell? (U g 3)=some x3/\g<W.heap.size:=
 ⟨ax W g 0 _ t _ h,ax W g 1 _ t (0,0) h,ax W g 2 _ t _ h,ax W g 3 _ t (0,0) h,(ae.1 h).1⟩
def Wv{i j y D:Value}(h:W.heap[g]?=some (gO #[x0,x1,x2,x3,i,j,y,D] t (0,0))):(W.cell? (U g 0)=some x0/\W.cell? (U g 1)=some x1/\W.cell? (U g 2)=some x2/\W.cell? (U g 3)=some x3/\W.cell? (U g 4)=some i/\W.cell? (U g 5)=some j/\W.cell? (U g 6)=some y/\W.cell? (U g 7)=some D)/\(W.frozen? (U g 0)=false/\W.frozen? (U g 1)=false/\W.frozen? (U g 2)=false/\W.frozen? (U g 3)=false/\W.frozen? (U g 4)=false/\W.frozen? (U g 5)=false/\W.frozen? (U g 6)=false/\W.frozen? (U g 7)=false)/\g<W.heap.size:=
 ⟨⟨ax W g 0 _ t _ h,ax W g 1 _ t (0,0) h,ax W g 2 _ t _ h,ax W g 3 _ t (0,0) h,ax W g 4 _ t _ h,ax W g 5 _ t (0,0) h,ax W g 6 _ t _ h,ax W g 7 _ t (0,0) h⟩,⟨aP W g 0 _ t h,aP W g 1 _ t h,aP W g 2 _ t h,aP W g 3 _ t h,aP W g 4 _ t h,aP W g 5 _ t h,aP W g 6 _ t h,aP W g 7 _ t h⟩,(ae.1 h).1⟩
def sB{j y D F H:Value}(h:W.heap[g]?=some (gO #[x0,x1,x2,x3,j,y,D,F,H] t (0,0))):(W.cell? (U g 0)=some x0/\W.cell? (U g 1)=some x1/\W.cell? (U g 2)=some x2/\W.cell? (U g 3)=some x3/\W.cell? (U g 4)=some j/\W.cell? (U g 5)=some y/\W.cell? (U g 6)=some D/\W.cell? (U g 7)=some F/\W.cell? (U g 8)=some H)/\(∀i,W.frozen? (U g i)=false)/\g<W.heap.size:=
 ⟨⟨ax W g 0 _ t _ h,ax W g 1 _ t (0,0) h,ax W g 2 _ t _ h,ax W g 3 _ t (0,0) h,ax W g 4 _ t _ h,ax W g 5 _ t (0,0) h,ax W g 6 _ t _ h,ax W g 7 _ t (0,0) h,ax W g 8 _ t _ h⟩,λi=>aP W g i _ t h,(ae.1 h).1⟩
abbrev EJ(kd ln nr ep pl ck cl ca:Int)(v:Value):Value:= .agg #[I kd,I ln,I nr,I ep,I pl,I ck,I cl,I ca,v]
theorem Gv(ln)(w):Calls prog 248 #[I ln] w λe w'=>e=gG (.bool (decide (0<=ln)&&decide (ln<10)))/\w'=w:=by
 by_cases h:0<=ln
 .have i:decide (0<=ln)=true:=by simpa using h
  go_wp2;go_ret;exact⟨mY h,rfl⟩
 have i:decide (0<=ln)=false:=by simpa using h
 go_enter func248,ntmps248;go_wp2;go_ret;exact⟨aq,rfl⟩
theorem rM(v)(kd ln nr ep pl ck cl ca)(val)(w)(hv:rI w v (iB kd [ln,nr,ep,pl,ck,cl,ca] val))(ac:0<=ln/\ln<10)(ok:Rc.Ok m8 ⟨kd,[ln,nr,ep,pl,ck,cl,ca],val⟩):ib 211 #[v] w λe w'=>∃j y,e=gG (.tuple #[.agg #[I kd,I ln,I nr,I ep,I pl,I ck,I cl,I ca,dk j val.length y],.bool true])/\Bl w w'/\w'.ownsRow w.heap.size 5 1 (dk j val.length y) val.length (val.map B8):=by
 have bA:=(Bl.refl w).alloc (gO Pd 100);obtain⟨hX,HS,HA⟩:=gV (ao w (gO Pd 100)) (qm (w.alloc (gO Pd 100))) bA;obtain⟨Hv,ag⟩:=fl hv ok;clear hv bA ok;go_enter func211,ntmps211;go_wp2_with fail;refine HS.L ?_;rintro e w1⟨bs,rfl,F,a2⟩;obtain⟨HW,a3,L⟩:=gV (wC v ⟨kd,[ln,nr,ep,pl,ck,cl,ca],val⟩ bs 0 7 m8 w1 (Hv.bl (HA.H F)) a2 au ag) (HA.H F) ((F.heap aq).H hX);clear HS F a2 hX HA;go_wp2_with fail;refine HW.L ?_;rintro e w2⟨g,na,nc,j,y,rfl,Q,V,a4⟩;obtain⟨rfl,lg,n0,n1,n2,n3,n4,n5,n6⟩:=AT V;have ng:¬w.heap.size=g:=by have:=(V.lt g rfl).1;have:=(ae.1 L).1;omega
 have a5:=fu (a3.H Q);have Y:=(Q.heap (ae.1 L).1).H L;have lx:=(ae.1 Y).1;obtain⟨a6,ai⟩:=fl a4 a3.lt;have ar:¬w.heap.size=w2.heap.size:=C;clear HW Q V a4 L;obtain⟨W3,a0⟩:=dS (w2.alloc (gO #[I kd,dk (G g) 7 nc,dk j val.length y] 320));have P:=(Bl.refl w2).alloc (gO #[I kd,dk (G g) 7 nc,dk j val.length y] 320);have hR:=ao w2 (gO #[I kd,dk (G g) 7 nc,dk j val.length y] 320);rw[a0]at P hR;have M:=fu ((P.heap lx).H Y);obtain⟨r0,r1,r2,lr⟩:=Ao hR;obtain⟨m0,m1,m2,m3⟩:=P.J lg n0 n1 n2 n3;obtain⟨m4,m5,m6⟩:=P.F lg n4 n5 n6;have a7:=af lg P.lt;obtain⟨ak,a8,a9,av⟩:=ju (a5.H P) ((iD P).iJ a6 λ_ _ e=>e) a0 hR;clear Y a0 P a5 a6 n0 n1 n2 n3 n4 n5 n6 hR;have HL:=fu (Gv ln);have al:(decide (0<=ln)&&decide (ln<10))=true:=mY ac;rw[al]at HL;go_upto_region 2 with fail;rw[a9.o];clear a9;generalize w2.heap.size=gr at*;go_upto_region 5 with(go_at_call 248;refine gF (HL _) λw' aa=>?_;have am:=aa.symm;clear aa;subst am);go_cut[7]from 27 to 38 λx wx=>∃gc,x= O gc/\Hid (wx.heap[gc]?=some (gO (qe ck cl ca j val y) 91 (0,0))/\W3.heap.size<=gc)/\Hid (Bl W3 wx)
 case first=>
  go_region_held3(λW=>W.cell? (U g 4)=some (I ck)/\W.cell? (U g 5)=some (I cl)/\W.cell? (U g 6)=some (I ca)/\W.cell? (U gr 2)=some (lI j val y)) (go_keep) (fail);all_goals(go_wp2_with fail;go_meet)
  all_goals exact⟨_,rfl,⟨ao W3 _,jc⟩,by first|exact(jo.alloc _).drewN _|exact(jo.alloc _).drew|exact jo.alloc _⟩
 case rest=>
  obtain⟨gc,rfl,HC,i⟩:=hcut;obtain⟨k0,k1,k2,k3,aw⟩:=qP HC.1;have a1:=(i.heap (ae.1 M).1).H M;obtain⟨⟨x0,x1,x2,x3,x4,x5,x6,x7,x8⟩,D,lX⟩:=sB a1;have f0:=D 0;have f1:=D 1;have f2:=D 2;have f3:=D 3;have f4:=D 4;have f5:=D 5;have f6:=D 6;have f7:=D 7;have f8:=D 8;obtain⟨p0,p1,p2,p3⟩:=i.J a7 m0 m1 m2 m3;have s0:=(i.cell lr).H r0;have b0:=af a7 i.lt;have b1:=af lr i.lt;have an:=fu a1;have b2:¬w.heap.size=gc:=by have:=HC.2;have:=(ae.1 M).1;omega
  obtain⟨ab,ap⟩:=fl ((iD i).iJ a8 λ_ _ e=>e) (ak.H i);clear D m0 m1 m2 m3 m4 m5 m6 r0 r1 r2 a1 a8 M;go_upto_region 6 with fail;go_region_held3(λW=>W.cell? (U g 0)=some (I ln)/\W.cell? (U g 1)=some (I nr)/\W.cell? (U g 2)=some (I ep)/\W.cell? (U g 3)=some (I pl)/\W.cell? (U gr 0)=some (I kd)/\W.cell? (U gc 0)=some (I ck)/\W.cell? (U gc 1)=some (I cl)/\W.cell? (U gc 2)=some (I ca)/\W.cell? (U gc 3)=some (lI j val y)) (go_keep) (fail);all_goals
   go_wp2;have Z:=(((((((((bz.refl (λb=>b=w.heap.size) wc).setCell (U w.heap.size 0) (.inl rfl) (I kd)).setCell (U w.heap.size 1) (.inl rfl) (I ln)).setCell (U w.heap.size 2) (.inl rfl) (I nr)).setCell (U w.heap.size 3) (.inl rfl) (I ep)).setCell (U w.heap.size 4) (.inl rfl) (I pl)).setCell (U w.heap.size 5) (.inl rfl) (I ck)).setCell (U w.heap.size 6) (.inl rfl) (I cl)).setCell (U w.heap.size 7) (.inl rfl) (I ca)).setCell (U w.heap.size 8) (.inl rfl) (lI j val y);have hB:=ap.B Z λn e=>C;have hV:=Z.iJ ab λb hb e=>gJ ab an au (j4 hb e);refine aG (v:= .tuple #[.agg #[I kd,I ln,I nr,I ep,I pl,I ck,I cl,I ca,dk j val.length y],.bool true]) (by simp[results,results211,go_sem,x0,x1,x2,x3,x4,x5,x6,x7,x8]) rfl ⟨j,y,rfl,hB.drew,gL ((iD jo.drew).iJ hV λ_ _ e=>e) λb hb=>?_⟩;have h1:=(hV.lt b hb).1;have h2:=ai.o;omega
def BE{i j y:Value}(h:W.heap[g]?=some (gO #[x0,x1,x2,x3,i,j,y] t (0,0))):(W.cell? (U g 0)=some x0/\W.cell? (U g 1)=some x1/\W.cell? (U g 2)=some x2/\W.cell? (U g 3)=some x3/\W.cell? (U g 4)=some i/\W.cell? (U g 5)=some j/\W.cell? (U g 6)=some y)/\(W.frozen? (U g 0)=false/\W.frozen? (U g 1)=false/\W.frozen? (U g 2)=false/\W.frozen? (U g 3)=false/\W.frozen? (U g 4)=false/\W.frozen? (U g 5)=false/\W.frozen? (U g 6)=false)/\g<W.heap.size:=
 ⟨⟨ax W g 0 _ t (0,0) h,ax W g 1 _ t (0,0) h,ax W g 2 _ t (0,0) h,ax W g 3 _ t (0,0) h,ax W g 4 _ t (0,0) h,ax W g 5 _ t (0,0) h,ax W g 6 _ t (0,0) h⟩,⟨aP W g 0 _ t h,aP W g 1 _ t h,aP W g 2 _ t h,aP W g 3 _ t h,aP W g 4 _ t h,aP W g 5 _ t h,aP W g 6 _ t h⟩,(ae.1 h).1⟩
def KQ{a b c d:Value}(h:w.heap[g]?=some (gO #[a,b,c,d] t (0,0)))(x0 x1 x2 x3):((((w.setCell (U g 0) x0).setCell (U g 1) x1).setCell (U g 2) x2).setCell (U g 3) x3).heap[g]?=some (gO #[x0,x1,x2,x3] t (0,0)):=
 fy _ g 3 _ t _ (fy _ g 2 _ t _ (fy _ g 1 _ t _ (fy _ g 0 _ t _ h)))
def vT:List (Int×Int×Int):=[(101,7,8)]
theorem JO(w:World):lK (w.alloc (gO #[I 101,I 7,I 8] 322)) w.heap.size 0 vT:=by
 refine⟨aq,λj h=>?_⟩;have i:=ao w (gO #[I 101,I 7,I 8] 322);rw[ax _ _ _ _ _ _ i,ax _ _ _ _ _ _ i,ax _ _ _ _ _ _ i];have y:j<1:=h
 match j,y with
 |0,_=>exact⟨rfl,rfl,rfl⟩
theorem zR(v)(nr wh ep mk ck cl ca)(val)(w)(hv:rI w v (iB 101 [nr,wh,ep,mk,ck,cl,ca] val))(ok:Rc.Ok vT ⟨101,[nr,wh,ep,mk,ck,cl,ca],val⟩):ib 213 #[v] w λe w'=>∃i j,e=gG (.tuple #[I nr,.agg #[I wh,I ep,I mk,I ck,I cl,I ca,dk i val.length j],.bool true])/\Bl w w'/\w'.ownsRow w.heap.size 5 1 (dk i val.length j) val.length (val.map B8):=by
 have bA:=(Bl.refl w).alloc Ga;have hX:=ao w Ga;have bB:=(Bl.refl (w.alloc Ga)).alloc (gO #[I 101,I 7,I 8] 322);have L:=bA.H bB;obtain⟨HW,a2,M⟩:=gV (wC v ⟨101,[nr,wh,ep,mk,ck,cl,ca],val⟩ _ 0 1 vT _ (hv.bl L) (JO _) au ok) L ((bB.heap aq).H hX);have a3:Hid ((w.alloc Ga).heap.size=w.heap.size+1):=by unfold Hid;simp
 rw[a3.o]at HW;clear hv bA hX bB L ok;go_enter func213,ntmps213;go_wp2_with fail;refine HW.L ?_;rintro e w2⟨g,na,nc,i,j,rfl,P,Q,V⟩;obtain⟨rfl,lg,n0,n1,n2,n3,n4,n5,n6⟩:=AT Q;have ng:¬w.heap.size=g:=by have:=(Q.lt g rfl).1;simp at this;omega
 have a4:=fu (a2.H P);have Y:=(P.heap (ae.1 M).1).H M;have lx:=(ae.1 Y).1;have a5:=fu (gL (base':=w.heap.size) V λb hb=>by have:=(V.lt b hb).1;simp at this;omega);have ag:¬w.heap.size=w2.heap.size:=C;clear HW P Q V M a2 a3;obtain⟨W3,a0⟩:=dS (w2.alloc (gO #[I 101,dk (G g) 7 nc,dk i val.length j] 320));have F:=(Bl.refl w2).alloc (gO #[I 101,dk (G g) 7 nc,dk i val.length j] 320);have hR:=ao w2 (gO #[I 101,dk (G g) 7 nc,dk i val.length j] 320);rw[a0]at F hR;have D:=fu ((F.heap lx).H Y);obtain⟨r0,r1,r2,lr⟩:=Ao hR;obtain⟨m0,m1,m2,m3⟩:=F.J lg n0 n1 n2 n3;obtain⟨m4,m5,m6⟩:=F.F lg n4 n5 n6;have a6:=af lg F.lt;obtain⟨aa,a7,a8⟩:=gV (a4.H F) ((iD F).iJ a5 λ_ _ e=>e) a0;clear Y a0 F a4 a5 n0 n1 n2 n3 n4 n5 n6 hR;go_upto_region 5 with fail;rw[a8.o];clear a8;generalize w2.heap.size=gr at*;go_cut[8]from 21 to 32 λx wx=>∃gc,x= O gc/\Hid (wx.heap[gc]?=some (gO (qe ck cl ca i val j) 91 (0,0))/\W3.heap.size<=gc)/\Hid (Bl W3 wx)
 case first=>
  go_region_held3(λW=>W.cell? (U g 4)=some (I ck)/\W.cell? (U g 5)=some (I cl)/\W.cell? (U g 6)=some (I ca)/\W.cell? (U gr 2)=some (lI i val j)) (go_keep) (fail);all_goals(go_wp2_with fail;go_meet)
  all_goals exact⟨_,rfl,⟨ao W3 _,jc⟩,by first|exact(jo.alloc _).drewN _|exact(jo.alloc _).drew|exact jo.alloc _⟩
 case rest=>
  obtain⟨gc,rfl,HC,y⟩:=hcut;obtain⟨k0,k1,k2,k3,ai⟩:=qP HC.1;have a1:=(y.heap (ae.1 D).1).H D;obtain⟨⟨x0,x1,x2,x3,x4,x5,x6⟩,⟨f0,f1,f2,f3,f4,f5,f6⟩,lX⟩:=BE a1;obtain⟨p0,p1,p2,p3⟩:=y.J a6 m0 m1 m2 m3;have ak:=af a6 y.lt;have ab:=fu a1;have al:¬w.heap.size=gc:=by have:=HC.2;have:=(ae.1 D).1;omega
  obtain⟨a9,ac⟩:=fl ((iD y).iJ a7 λ_ _ e=>e) (aa.H y);clear m0 m1 m2 m3 m4 m5 m6 r0 r1 r2 a1 a7 D;go_upto_region 6 with fail;go_region_held3(λW=>W.cell? (U g 0)=some (I nr)/\W.cell? (U g 1)=some (I wh)/\W.cell? (U g 2)=some (I ep)/\W.cell? (U g 3)=some (I mk)/\W.cell? (U gc 0)=some (I ck)/\W.cell? (U gc 1)=some (I cl)/\W.cell? (U gc 2)=some (I ca)/\W.cell? (U gc 3)=some (lI i val j)) (go_keep) (fail);all_goals
   go_wp2;have Z:=((((((((bz.refl (λb=>b=w.heap.size) wc).setCell (U w.heap.size 0) (.inl rfl) (I wh)).setCell (U w.heap.size 1) (.inl rfl) (I ep)).setCell (U w.heap.size 2) (.inl rfl) (I mk)).setCell (U w.heap.size 3) (.inl rfl) (I ck)).setCell (U w.heap.size 4) (.inl rfl) (I cl)).setCell (U w.heap.size 5) (.inl rfl) (I ca)).setCell (U w.heap.size 6) (.inl rfl) (lI i val j));have hB:=ac.B Z λn e=>C;have hV:=Z.iJ a9 λb hb e=>gJ a9 ab au (j4 hb e);exact aG (v:= .tuple #[I nr,.agg #[I wh,I ep,I mk,I ck,I cl,I ca,dk i val.length j],.bool true]) (by simp[results,results213,go_sem,x0,x1,x2,x3,x4,x5,x6]) rfl ⟨i,j,rfl,hB.drew,(iD jo.drew).iJ hV λ_ _ e=>e⟩
def jX(w:World)(p o:Nat):List Value->World
 |[]=>w
 |v::vs=>jX (w.setCell (U p o) v) p (o+1) vs
def vC(l:List Value)(o:Nat):List Value->List Value
 |[]=>l
 |v::vs=>vC (l.set o v) (o+1) vs
theorem jY:∀(i:List Value) (o:Nat) (w:World) (l:List Value),w.heap[p]?=some (gO l.toArray t (0,0))->(jX w p o i).heap[p]?=some (gO (vC l o i).toArray t (0,0))
 |[],_,_,_,h=>h
 |v::i,o,w,l,h=>jY i (o+1) _ _ (by
  have:=fy w p o l.toArray t v h
  rwa[List.setIfInBounds_toArray]at this)
def iU(o)(v)(w:World)(l:List Value)(h:w.heap[p]?=some (gO l.toArray t (0,0))):(w.setCell (U p o) v).heap[p]?=some (gO (l.set o v).toArray t (0,0)):=jY [v] o w l h
theorem sT(v:Value)(w:World)(hw:∀W b,Bl w W->lK W b 0 [(102,5,255)]->ib 246 #[v,dk (G b) ([(102,5,255)]:List (Int×Int×Int)).length 1] W λe w'=>e=gG (.tuple #[.agg #[I 0,OO,OO],.bool false])/\Bl W w'):ib 215 #[v] w λe w'=>e=gG (.tuple #[I 0,I 0,.agg #[I 0,I 0,I 0,OO],.bool false])/\Bl w w':=by
 have bA:=(Bl.refl w).alloc yr;have L:=ao w yr;have Y:=(Bl.refl (w.alloc yr)).alloc (gO #[I 102,I 5,I 255] 322);have y:=bA.H Y;have M:lK ((w.alloc yr).alloc (gO #[I 102,I 5,I 255] 322)) (w.alloc yr).heap.size 0 [(102,5,255)]:=by
  refine⟨aq,λj h=>?_⟩;have L:=ao (w.alloc yr) (gO #[I 102,I 5,I 255] 322);rw[ax _ _ _ _ _ _ L,ax _ _ _ _ _ _ L,ax _ _ _ _ _ _ L];have h':j<1:=h
  match j,h' with
  |0,_=>exact⟨rfl,rfl,rfl⟩
 obtain⟨HW,P,D⟩:=gV (hw _ _ y M) y ((Y.heap aq).H L);have Q:Hid ((w.alloc yr).heap.size=w.heap.size+1):=by unfold Hid;simp
 rw[Q.o]at HW;clear hw bA L Y y M Q;go_enter func215,ntmps215;go_wp2_with fail;refine gF HW λw2 F=>?_;have i:=(F.heap (ae.1 D).1).H D;obtain⟨x0,x1,x2,x3,lX⟩:=qP i;obtain⟨f0,f1,f2,f3⟩:=xj i 0 1 2 3;obtain⟨a0,a1⟩:=fl (P.H F) i;clear HW F i D P;go_wp2;have Z:=((((bz.refl (λb=>b=w.heap.size) w2).setCell (U w.heap.size 0) (.inl rfl) (I 0)).setCell (U w.heap.size 1) (.inl rfl) (I 0)).setCell (U w.heap.size 2) (.inl rfl) (I 0)).setCell (U w.heap.size 3) (.inl rfl) OO;have hB:=a0.B Z λn e=>C;have V:=KQ a1 (I 0) (I 0) (I 0) OO;have bD:=(Bl.refl ((((w2.setCell (U w.heap.size 0) (I 0)).setCell (U w.heap.size 1) (I 0)).setCell (U w.heap.size 2) (I 0)).setCell (U w.heap.size 3) OO)).alloc uX;obtain⟨y0,y1,y2,y3,_⟩:=qP ((bD.heap (ae.1 V).1).H V);exact aG (v:= .tuple #[I 0,I 0,.agg #[I 0,I 0,I 0,OO],.bool false]) (by simp only[results,results215];simp[go_sem,y0,y1,y2,y3]) rfl ⟨rfl,hB.H bD⟩
def ES(v)(ds)(w)(y:rI w v ds)(D:0<ds.length)(F:ds.length<=1100000000000)(j:∀d∈ds,0<=d/\d<=255)(H:ds.getD 0 0≠102):ib 215 #[v] w λe w'=>e=gG (.tuple #[I 0,I 0,.agg #[I 0,I 0,I 0,OO],.bool false])/\Bl w w':=by
 have i:(([(102,5,255)]:List (Int×Int×Int)).any λs=>pH s.1 s.2.1 s.2.2 ds)=false:=by simp only[eM,List.any_nil,Bool.or_false,pH];rw[show(ds.getD 0 0==102)=false from by simpa using H];rfl
 exact sT v w λW b L M=>zb v ds b 0 1 _ W (y.bl L) D F j M au i
theorem rN(v:Value)(w:World)(hw:∀W b,Bl w W->lK W b 0 [(101,7,8)]->ib 246 #[v,dk (G b) ([(101,7,8)]:List (Int×Int×Int)).length 1] W λe w'=>e=gG (.tuple #[.agg #[I 0,OO,OO],.bool false])/\Bl W w'):ib 213 #[v] w λe w'=>e=gG (.tuple #[I 0,.agg #[I 0,I 0,I 0,I 0,I 0,I 0,OO],.bool false])/\Bl w w':=by
 have bA:=(Bl.refl w).alloc Ga;have P:=ao w Ga;have bB:=(Bl.refl (w.alloc Ga)).alloc (gO #[I 101,I 7,I 8] 322);have i:=bA.H bB;have Q:lK ((w.alloc Ga).alloc (gO #[I 101,I 7,I 8] 322)) (w.alloc Ga).heap.size 0 [(101,7,8)]:=by
  refine⟨aq,λj h=>?_⟩;have P:=ao (w.alloc Ga) (gO #[I 101,I 7,I 8] 322);rw[ax _ _ _ _ _ _ P,ax _ _ _ _ _ _ P,ax _ _ _ _ _ _ P];have h':j<1:=h
  match j,h' with
  |0,_=>exact⟨rfl,rfl,rfl⟩
 obtain⟨HW,V,y⟩:=gV (hw _ _ i Q) i ((bB.heap aq).H P);have Y:Hid ((w.alloc Ga).heap.size=w.heap.size+1):=by unfold Hid;simp
 rw[Y.o]at HW;clear hw bA P bB i Q Y;go_enter func213,ntmps213;go_wp2_with fail;refine gF HW λw2 D=>?_;have F:=(D.heap (ae.1 y).1).H y;obtain⟨⟨x0,x1,x2,x3,x4,x5,x6⟩,⟨f0,f1,f2,f3,f4,f5,f6⟩,lX⟩:=BE F;obtain⟨a1,a2⟩:=fl (V.H D) F;clear HW D F y V;go_wp2;have Z:=(((((((bz.refl (λb=>b=w.heap.size) w2).setCell (U w.heap.size 0) (.inl rfl) (I 0)).setCell (U w.heap.size 1) (.inl rfl) (I 0)).setCell (U w.heap.size 2) (.inl rfl) (I 0)).setCell (U w.heap.size 3) (.inl rfl) (I 0)).setCell (U w.heap.size 4) (.inl rfl) (I 0)).setCell (U w.heap.size 5) (.inl rfl) (I 0)).setCell (U w.heap.size 6) (.inl rfl) OO;have hB:=a1.B Z λn e=>C;have L:=jY [I 0,I 0,I 0,I 0,I 0,I 0,OO] 0 w2 [I 0,I 0,I 0,I 0,I 0,I 0,OO] a2;obtain⟨W5,M⟩:=dS (jX w2 w.heap.size 0 [I 0,I 0,I 0,I 0,I 0,I 0,OO]);have a0:Bl w (jX w2 w.heap.size 0 [I 0,I 0,I 0,I 0,I 0,I 0,OO]):=hB;rw[M]at L a0;simp only[jX,bP,Nat.reduceAdd]at M;rw[M];have bD:=(Bl.refl W5).alloc uX;obtain⟨⟨y0,y1,y2,y3,y4,y5,y6⟩,_,_⟩:=BE ((bD.heap (ae.1 L).1).H L);exact aG (v:= .tuple #[I 0,.agg #[I 0,I 0,I 0,I 0,I 0,I 0,OO],.bool false]) (by simp only[results,results213];simp[go_sem,y0,y1,y2,y3,y4,y5,y6]) rfl ⟨rfl,a0.H bD⟩
def Cu(v)(ds)(w)(y:rI w v ds)(D:0<ds.length)(F:ds.length<=1100000000000)(j:∀d∈ds,0<=d/\d<=255)(H:ds.getD 0 0≠101):ib 213 #[v] w λe w'=>e=gG (.tuple #[I 0,.agg #[I 0,I 0,I 0,I 0,I 0,I 0,OO],.bool false])/\Bl w w':=by
 have i:(([(101,7,8)]:List (Int×Int×Int)).any λs=>pH s.1 s.2.1 s.2.2 ds)=false:=by simp only[eM,List.any_nil,Bool.or_false,pH];rw[show(ds.getD 0 0==101)=false from by simpa using H];rfl
 exact rN v w λW b L M=>zb v ds b 0 1 _ W (y.bl L) D F j M au i
def NH{base o c:Nat}{x0 x1 x2 x3 i:Int}(h:w.ownsRow base 3 1 (dk (some (U g o)) 5 c) 5 ([x0,x1,x2,x3,i].map I)):o=0/\g<w.heap.size/\w.cell? (U g 0)=some (I x0)/\w.cell? (U g 1)=some (I x1)/\w.cell? (U g 2)=some (I x2)/\w.cell? (U g 3)=some (I x3)/\w.cell? (U g 4)=some (I i):=by
 obtain⟨e,_⟩|⟨y,cap,j,e,_⟩:=h.2
 .simp at e
 simp only[bO,aJ,Z0]at e;obtain⟨⟨_,rfl,_⟩,_⟩:=e;exact⟨rfl,(h.lt g rfl).2,h.cellAt 0 C,h.cellAt 1 C,h.cellAt 2 C,h.cellAt 3 C,h.cellAt 4 C⟩
def vZ:List (Int×Int×Int):=[(102,5,255)]
theorem KT(w:World):lK (w.alloc (gO #[I 102,I 5,I 255] 322)) w.heap.size 0 vZ:=by
 refine⟨aq,λj h=>?_⟩;have i:=ao w (gO #[I 102,I 5,I 255] 322);rw[ax _ _ _ _ _ _ i,ax _ _ _ _ _ _ i,ax _ _ _ _ _ _ i];have y:j<1:=h
 match j,y with
 |0,_=>exact⟨rfl,rfl,rfl⟩
theorem CB(v)(nr lt wh pr ba)(val)(w)(hv:rI w v (iB 102 [nr,lt,wh,pr,ba] val))(ok:Rc.Ok vZ ⟨102,[nr,lt,wh,pr,ba],val⟩):ib 215 #[v] w λe w'=>∃i j,e=gG (.tuple #[I nr,I lt,.agg #[I wh,I pr,I ba,dk i val.length j],.bool true])/\Bl w w'/\w'.ownsRow w.heap.size 5 1 (dk i val.length j) val.length (val.map B8):=by
 have bA:=(Bl.refl w).alloc yr;have hX:=ao w yr;have bB:=(Bl.refl (w.alloc yr)).alloc (gO #[I 102,I 5,I 255] 322);have F:=bA.H bB;obtain⟨HW,a0,L⟩:=gV (wC v ⟨102,[nr,lt,wh,pr,ba],val⟩ _ 0 1 vZ _ (hv.bl F) (KT _) au ok) F ((bB.heap aq).H hX);have a1:Hid ((w.alloc yr).heap.size=w.heap.size+1):=by unfold Hid;simp
 rw[a1.o]at HW;clear hv bA hX bB F ok;go_enter func215,ntmps215;go_wp2_with fail;refine HW.L ?_;rintro e w2⟨g,na,nc,i,j,rfl,M,P,Q⟩;obtain⟨rfl,lg,n0,n1,n2,n3,n4⟩:=NH P;have ng:¬w.heap.size=g:=by have:=(P.lt g rfl).1;simp at this;omega
 have a2:=fu (a0.H M);have V:=(M.heap (ae.1 L).1).H L;have lx:=(ae.1 V).1;have a3:=fu (gL (base':=w.heap.size) Q λb hb=>by have:=(Q.lt b hb).1;simp at this;omega);have a8:¬w.heap.size=w2.heap.size:=C;clear HW M P Q L a0 a1;obtain⟨W3,Y⟩:=dS (w2.alloc (gO #[I 102,dk (G g) 5 nc,dk i val.length j] 320));have D:=(Bl.refl w2).alloc (gO #[I 102,dk (G g) 5 nc,dk i val.length j] 320);have hR:=ao w2 (gO #[I 102,dk (G g) 5 nc,dk i val.length j] 320);rw[Y]at D hR;have y:=(D.heap lx).H V;obtain⟨r0,r1,r2,lr⟩:=Ao hR;obtain⟨x0,x1,x2,x3,lX⟩:=qP y;obtain⟨f0,f1,f2,f3⟩:=xj y 0 1 2 3;obtain⟨m0,m1,m2⟩:=D.F lg n0 n1 n2;obtain⟨m3,m4⟩:=D.E lg n3 n4;have a9:=af lg D.lt;obtain⟨a6,a4,a7,a5⟩:=ju (a2.H D) ((iD D).iJ a3 λ_ _ e=>e) y Y;clear V Y D a2 a3 n0 n1 n2 n3 n4 hR y;go_upto_region 5 with fail;rw[a5.o];clear a5;generalize w2.heap.size=gr at*;go_region_held3(λW=>W.cell? (U g 0)=some (I nr)/\W.cell? (U g 1)=some (I lt)/\W.cell? (U g 2)=some (I wh)/\W.cell? (U g 3)=some (I pr)/\W.cell? (U g 4)=some (I ba)/\W.cell? (U gr 2)=some (lI i val j)) (go_keep) (fail);all_goals
  go_wp2;have Z:=((((bz.refl (λb=>b=w.heap.size) W3).setCell (U w.heap.size 0) (.inl rfl) (I wh)).setCell (U w.heap.size 1) (.inl rfl) (I pr)).setCell (U w.heap.size 2) (.inl rfl) (I ba)).setCell (U w.heap.size 3) (.inl rfl) (lI i val j);have hB:=a6.B Z λn e=>C;have hV:=Z.iJ a4 λb hb e=>gJ a4 a7 au (j4 hb e);exact aG (v:= .tuple #[I nr,I lt,.agg (qe wh pr ba i val j),.bool true]) (by simp[results,results215,go_sem,x0,x1,x2,x3]) rfl ⟨i,j,rfl,hB.drew,(iD jo.drew).iJ hV λ_ _ e=>e⟩
def BO(w)(xs:List Int)(f)(g)(h:w.heap[g]?=some (gO (xs.map I).toArray 3 f)):Bs w (dk (G g) xs.length xs.length) (xs.map I):=by refine .inr ⟨(U g 0),xs.length,by rw[ay],λj u i=>?_⟩;rw[mU,bP,ax w g j _ 3 f h];simp_all
theorem wm(kd ln nr ep pl ck cl ca)(va)(vc)(val)(w)(h0:0<=kd)(h1:kd<=255)(L:Bs w (dk va val.length vc) (val.map B8))(M:∀b,(dk va val.length vc).ownBlock=some b->b<w.heap.size)(F:val.length<=255):ib 245 #[.agg #[I kd,I ln,I nr,I ep,I pl,I ck,I cl,I ca,dk va val.length vc]] w λe w'=>∃ba P,e=gG (dk ba (iB kd [ln,nr,ep,pl,ck,cl,ca] val).length P)/\Bl w w'/\w'.ownsRow w.heap.size 5 1 (dk ba (iB kd [ln,nr,ep,pl,ck,cl,ca] val).length P) (iB kd [ln,nr,ep,pl,ck,cl,ca] val).length ((iB kd [ln,nr,ep,pl,ck,cl,ca] val).map B8):=by
 have i:=(((Bl.refl w).alloc (gO #[I kd,I ln,I nr,I ep,I pl,I ck,I cl,I ca,dk va val.length vc] 100)).alloc (gO (qe ck cl ca va val vc) 91)).alloc (gO #[I ln,I nr,I ep,I pl,I ck,I cl,I ca] 3);have H:(_:World).heap[_]?=_:=ao ((w.alloc (gO #[I kd,I ln,I nr,I ep,I pl,I ck,I cl,I ca,dk va val.length vc] 100)).alloc (gO (qe ck cl ca va val vc) 91)) (gO #[I ln,I nr,I ep,I pl,I ck,I cl,I ca] 3);have j:((w.alloc (gO #[I kd,I ln,I nr,I ep,I pl,I ck,I cl,I ca,dk va val.length vc] 100)).alloc (gO (qe ck cl ca va val vc) 91)).heap.size=w.heap.size+1+1:=aq;rw[j]at H;have Q:=fu (mT w.heap.size OO 0 [] kd (dk (G (w.heap.size+1+1)) 7 7) (lI va val vc) [ln,nr,ep,pl,ck,cl,ca] val _ mC i.lt C (BO _ [ln,nr,ep,pl,ck,cl,ca] (0,0) _ H) (L.bl i) C C aq F (λg e=>mX e) (λg e=>mX e) (λg e=>by simp[Value.ownBlock]at e;simp;omega) λg e=>af (M g e) i.lt);have y:=fu i;clear L M i H j;go_enter func245,ntmps245;go_wp2_with fail;refine Q.L ?_;rintro e w1⟨v',rfl,D⟩;rw[bP,dz]at D;obtain⟨ga,V,rfl⟩:=D.E;obtain⟨Y,Z⟩:=fl (y.H (D.only.qp λk _ e=>mX e)) D.gZ;clear Q D y;go_wp2;go_ret;exact⟨ga,V,rfl,Y,Z⟩
theorem zB(nr wh ep mk ck cl ca)(va)(vc)(val)(w)(L:Bs w (dk va val.length vc) (val.map B8))(M:∀b,(dk va val.length vc).ownBlock=some b->b<w.heap.size)(F:val.length<=255):ib 338 #[I nr,.agg #[I wh,I ep,I mk,I ck,I cl,I ca,dk va val.length vc]] w λe w'=>∃ba P,e=gG (dk ba (iB 101 [nr,wh,ep,mk,ck,cl,ca] val).length P)/\Bl w w'/\w'.ownsRow w.heap.size 5 1 (dk ba (iB 101 [nr,wh,ep,mk,ck,cl,ca] val).length P) (iB 101 [nr,wh,ep,mk,ck,cl,ca] val).length ((iB 101 [nr,wh,ep,mk,ck,cl,ca] val).map B8):=by
 have i:=(((Bl.refl w).alloc (gO #[I wh,I ep,I mk,I ck,I cl,I ca,dk va val.length vc] 215)).alloc (gO (qe ck cl ca va val vc) 91)).alloc (gO #[I nr,I wh,I ep,I mk,I ck,I cl,I ca] 3);have H:(_:World).heap[_]?=_:=ao ((w.alloc (gO #[I wh,I ep,I mk,I ck,I cl,I ca,dk va val.length vc] 215)).alloc (gO (qe ck cl ca va val vc) 91)) (gO #[I nr,I wh,I ep,I mk,I ck,I cl,I ca] 3);have j:((w.alloc (gO #[I wh,I ep,I mk,I ck,I cl,I ca,dk va val.length vc] 215)).alloc (gO (qe ck cl ca va val vc) 91)).heap.size=w.heap.size+1+1:=aq;rw[j]at H;have Q:=fu (mT w.heap.size OO 0 [] 101 (dk (G (w.heap.size+1+1)) 7 7) (lI va val vc) [nr,wh,ep,mk,ck,cl,ca] val _ mC i.lt C (BO _ [nr,wh,ep,mk,ck,cl,ca] (0,0) _ H) (L.bl i) C C aq F (λg e=>mX e) (λg e=>mX e) (λg e=>by simp[Value.ownBlock]at e;simp;omega) λg e=>af (M g e) i.lt);have y:=fu i;clear L M i H j;go_enter func338,ntmps338;go_wp2_with fail;refine Q.L ?_;rintro e w1⟨v',rfl,D⟩;rw[bP,dz]at D;obtain⟨ga,V,rfl⟩:=D.E;obtain⟨Y,Z⟩:=fl (y.H (D.only.qp λk _ e=>mX e)) D.gZ;clear Q D y;go_wp2;go_ret;exact⟨ga,V,rfl,Y,Z⟩
theorem Af(nr lt wh pr ba)(va)(vc)(val)(w)(L:Bs w (dk va val.length vc) (val.map B8))(M:∀b,(dk va val.length vc).ownBlock=some b->b<w.heap.size)(F:val.length<=255):ib 344 #[I nr,I lt,.agg #[I wh,I pr,I ba,dk va val.length vc]] w λe w'=>∃P Q,e=gG (dk P (iB 102 [nr,lt,wh,pr,ba] val).length Q)/\Bl w w'/\w'.ownsRow w.heap.size 5 1 (dk P (iB 102 [nr,lt,wh,pr,ba] val).length Q) (iB 102 [nr,lt,wh,pr,ba] val).length ((iB 102 [nr,lt,wh,pr,ba] val).map B8):=by
 have i:=((Bl.refl w).alloc (gO (qe wh pr ba va val vc) 222)).alloc (gO #[I nr,I lt,I wh,I pr,I ba] 3);have H:(_:World).heap[_]?=_:=ao ((w.alloc (gO (qe wh pr ba va val vc) 222))) (gO #[I nr,I lt,I wh,I pr,I ba] 3);have j:((w.alloc (gO (qe wh pr ba va val vc) 222))).heap.size=w.heap.size+1:=aq;rw[j]at H;have V:=fu (mT w.heap.size OO 0 [] 102 (dk (G (w.heap.size+1)) 5 5) (lI va val vc) [nr,lt,wh,pr,ba] val _ mC i.lt C (BO _ [nr,lt,wh,pr,ba] (0,0) _ H) (L.bl i) C C aq F (λg e=>mX e) (λg e=>mX e) (λg e=>by simp[Value.ownBlock]at e;simp;omega) λg e=>af (M g e) i.lt);have y:=fu i;clear L M i H j;go_enter func344,ntmps344;go_wp2_with fail;refine V.L ?_;rintro e w1⟨v',rfl,D⟩;rw[bP,dz]at D;obtain⟨ga,Y,rfl⟩:=D.E;obtain⟨Z,HO⟩:=fl (y.H (D.only.qp λk _ e=>mX e)) D.gZ;clear V D y;go_wp2;go_ret;exact⟨ga,Y,rfl,Z,HO⟩
def vh(f:Nat)(args:Array Value)(w:World)(aY:Nat->Nat)(tg p:Nat)(a b c d ch:Int)(rs:List Rc)(S:Nat->St)(R:An×St):Prop:=
 Calls prog f args w λen w'=>∃va vc rs' S' bp,en=gG (R.1.val (.slice va R.1.ct.val.length vc))/\w'.ownsRow w.heap.size 5 1 (.slice va R.1.ct.val.length vc) R.1.ct.val.length (R.1.ct.val.map B8)/\(∀g,(Value.slice va R.1.ct.val.length vc).ownBlock=some g->bp g=1)/\(∀g,g<w.heap.size->bp g=aY g)/\pF rs S rs' S'/\S' rs'.length=R.2/\(gY rs').length<=(gY rs).length+60/\Kt w' bp tg p a b c d ch rs' S'/\bz (λg=>aY g=tg) w w'
def Lo{w3:World}{j:List Rc}{R:An×St}{F:Nat}(M:tg≠3)(H:Bl w W)(a0:W.heap.size=w.heap.size+1+1+1)(hX:w2.heap[w.heap.size+1+1]?=some (gO cs 215 (0,0)))(L:w2.ownsRow W.heap.size 5 1 (dk xa R.1.ct.val.length F) R.1.ct.val.length (R.1.ct.val.map B8))(hM:pF rs S j S')(hE:S' j.length=R.2)(P:(gY j).length<=(gY rs).length+60)(Q:Kt w2 (sP (gN aY w.heap.size 3) W.heap.size tg (dk xa R.1.ct.val.length F)) tg p a b c d ch j S')(D:bz (λg=>gN aY w.heap.size 3 g=tg) W w2)(Z:bz (λb=>b=w.heap.size+1+1) w2 w3):∃V Y j S' bp,(gG (R.1.val (dk xa R.1.ct.val.length F)):Ending)=gG (R.1.val (dk V R.1.ct.val.length Y))/\w3.ownsRow w.heap.size 5 1 (dk V R.1.ct.val.length Y) R.1.ct.val.length (R.1.ct.val.map B8)/\(∀g,(dk V R.1.ct.val.length Y).ownBlock=some g->bp g=1)/\(∀g,g<w.heap.size->bp g=aY g)/\pF rs S j S'/\S' j.length=R.2/\(gY j).length<=(gY rs).length+60/\Kt w3 bp tg p a b c d ch j S'/\bz (λg=>aY g=tg) w w3:=by
 have s2:=D.size;refine⟨xa,F,j,S',_,rfl,gL (Z.iJ L λb hb e=>gJ L hX au (j4 hb e)) λg y=>?_,λg y=>Dz _ _ _ _ _ (L.lt g y).1 y,λg y=>by rw[mK _ _ _ _ _ C];exact fz _ _ _ _ y,hM,hE,P,Q.only Z (λg _ e=>?_) gK,?_⟩
 .have h1:=(L.lt g y).1;omega
 .rw[e,mK _ _ _ _ _ C,ig _ _ _ _ C];exact Ne.symm M
 have s3:=Z.size;refine⟨Z.os.H (D.os.H H.os),Z.tape.H (D.tape.H H.tape),Z.output.H (D.output.H H.output),C,λi hi hn=>?_⟩;rw[Z.block i C C,D.block i C λe=>hn (by rwa[fz _ _ _ _ hi]at e),H.heap hi]
theorem xO(Q:tg≠3)(kd ln nr e x ck cl ca)(va)(vc)(ys:List Int)(R){F N:Nat}(hF:(F=334/\N=178/\A=#[.pointer (some ⟨p,0,none⟩),.int .i64 e])\/(F=335/\N=175/\A=#[.pointer (some ⟨p,0,none⟩),.int .i64 e,.int .i64 x,.agg #[.int .i64 ck,.int .i64 cl,.int .i64 ca,dk va ys.length vc]])\/(F=336/\N=171/\A=#[.pointer (some ⟨p,0,none⟩),.int .i64 e,.int .i64 x])\/(F=337/\N=177/\A=#[.pointer (some ⟨p,0,none⟩),.int .i64 e,.int .i64 x]))(hK:∀W,Bl w W->AD N A W (gN aY w.heap.size 3) tg p a b c d ch rs S R):vh F #[.agg #[.pointer (some ⟨p,0,none⟩)],.agg #[.int .i64 kd,.int .i64 ln,.int .i64 nr,.int .i64 e,.int .i64 x,.int .i64 ck,.int .i64 cl,.int .i64 ca,dk va ys.length vc]] w aY tg p a b c d ch rs S R:=by
 have b3:Bl w (((w.alloc (gO #[.pointer (some ⟨p,0,none⟩)] 233)).alloc (zL kd ln nr e x ck cl ca va ys vc)).alloc (gO kX 215)):=(((Bl.refl w).alloc _).alloc _).alloc _;obtain⟨W,L⟩:∃W,W=((w.alloc (gO #[.pointer (some ⟨p,0,none⟩)] 233)).alloc (zL kd ln nr e x ck cl ca va ys vc)).alloc (gO kX 215):=⟨_,rfl⟩;have a0:W.heap.size=w.heap.size+1+1+1:=nI L;have hX:W.heap[w.heap.size+1+1]?=some (gO kX 215 (0,0)):=by rw[L];have:=ao ((w.alloc (gO #[.pointer (some ⟨p,0,none⟩)] 233)).alloc (zL kd ln nr e x ck cl ca va ys vc)) (gO kX 215);have hz:((w.alloc (gO #[.pointer (some ⟨p,0,none⟩)] 233)).alloc (zL kd ln nr e x ck cl ca va ys vc)).heap.size=w.heap.size+1+1:=aq;rwa[hz]at this
 rw[<-L]at b3;have V:=fu (hK W b3);unfold AD at V;obtain⟨HX,HB,HW⟩:=gV hX b3 L;rw[L]at V;clear hX b3 hK L;unfold vh;unfold kX at V;obtain⟨rfl,rfl,rfl⟩|⟨rfl,rfl,rfl⟩|⟨rfl,rfl,rfl⟩|⟨rfl,rfl,rfl⟩:=hF;all_goals
  first|go_enter func334,ntmps334|go_enter func335,ntmps335|go_enter func336,ntmps336|go_enter func337,ntmps337
  go_wp2_with fail;refine V.L ?_;rintro en w2⟨v,a2,S',rfl,M,hM,hE,j,i,P⟩;have y:=HW.o;unfold kX at y;rw[<-y]at M i P;obtain⟨xa,xc,rfl⟩:=DB M;have D:w2.heap[w.heap.size+1+1]?=some (gO #[.int .i64 0,.int .i64 0,.int .i64 0,.int .i64 0,.int .i64 0,.int .i64 0,dk none 0 0] 215 (0,0)):=(P.block _ C (by rw[ig _ _ _ _ C];exact Ne.symm Q)).H HX;obtain⟨⟨n0,n1,n2,n3,n4,n5,n6⟩,⟨f0,f1,f2,f3,f4,f5,f6⟩,lN⟩:=BE D;obtain⟨HP,a1⟩:=fl (And.intro M (And.intro hM (And.intro hE (And.intro j (And.intro i P))))) D;clear V M hM hE j i P D y;unfold An.val jr;go_wp2;obtain⟨M,hM,hE,j,i,P⟩:=HP.o;have Z:=((((((((bz.refl (λb=>b=w.heap.size+1+1) w2).setCell ⟨w.heap.size+1+1,0,none⟩ (.inl rfl) (.int .i64 R.1.wh)).setCell ⟨w.heap.size+1+1,1,none⟩ (.inl rfl) (.int .i64 R.1.ep)).setCell ⟨w.heap.size+1+1,2,none⟩ (.inl rfl) (.int .i64 R.1.mark)).setCell ⟨w.heap.size+1+1,3,none⟩ (.inl rfl) (.int .i64 R.1.ct.kd)).setCell ⟨w.heap.size+1+1,4,none⟩ (.inl rfl) (.int .i64 R.1.ct.cl)).setCell ⟨w.heap.size+1+1,5,none⟩ (.inl rfl) (.int .i64 R.1.ct.ca)).setCell ⟨w.heap.size+1+1,6,none⟩ (.inl rfl) (dk xa R.1.ct.val.length xc));have Y:=Lo (tg:=tg) Q HB a0 a1 M hM hE j i P Z;exact aG (v:= .agg #[.int .i64 R.1.wh,.int .i64 R.1.ep,.int .i64 R.1.mark,.int .i64 R.1.ct.kd,.int .i64 R.1.ct.cl,.int .i64 R.1.ct.ca,dk xa R.1.ct.val.length xc]) (by simp[results,results334,results335,results336,results337,go_sem,n0,n1,n2,n3,n4,n5,n6]) rfl Y
def Lc(h:Kt w aY tg p a b c d ch rs S)(i:tg≠3)(kd ln nr e x ck cl ca)(va)(vc)(ys:List Int)(j:(Lit.int .i64 e).wf=true)(y:(gY rs).length<=1000000000000):vh 334 #[.agg #[O p],.agg #[I kd,I ln,I nr,I e,I x,I ck,I cl,I ca,dk va ys.length vc]] w aY tg p a b c d ch rs S (tM (S rs.length) e):=
 xO i kd ln nr e x ck cl ca va vc ys _ (.inl ⟨rfl,rfl,rfl⟩) λ_ D=>RA (h.only (iD D) (λ_ _ e=>e.elim) λ_ F=>fz _ _ _ _ F) e j y
def Ln(h:Kt w aY tg p a b c d ch rs S)(i:tg≠3)(kd ln nr e x ck cl ca)(va)(vc)(ys:List Int)(j:(Lit.int .i64 e).wf=true)(y:(gY rs).length<=1000000000000):vh 336 #[.agg #[O p],.agg #[I kd,I ln,I nr,I e,I x,I ck,I cl,I ca,dk va ys.length vc]] w aY tg p a b c d ch rs S (xq a b c d ch (S rs.length) e x):=
 xO i kd ln nr e x ck cl ca va vc ys _ (.inr (.inr (.inl ⟨rfl,rfl,rfl⟩))) λ_ D=>Ru (h.only (iD D) (λ_ _ e=>e.elim) λ_ F=>fz _ _ _ _ F) e x j y
def LJ(h:Kt w aY tg p a b c d ch rs S)(i:tg≠3)(kd ln nr e x ck cl ca)(va)(vc)(ys:List Int)(j:(Lit.int .i64 e).wf=true)(y:(Lit.int .i64 x).wf=true)(D:(gY rs).length<=1000000000000):vh 337 #[.agg #[O p],.agg #[I kd,I ln,I nr,I e,I x,I ck,I cl,I ca,dk va ys.length vc]] w aY tg p a b c d ch rs S (tK (S rs.length) e x):=
 xO i kd ln nr e x ck cl ca va vc ys _ (.inr (.inr (.inr ⟨rfl,rfl,rfl⟩))) λ_ F=>PW (h.only (iD F) (λ_ _ e=>e.elim) λ_ H=>fz _ _ _ _ H) e x j y D
def Gt(h:Kt w aY tg p a b c d ch rs S)(y:tg≠3)(kd ln nr e x ck cl ca)(va)(vc)(ys)(D:(Lit.int .i64 e).wf=true)(F:(Lit.int .i64 x).wf=true)(H:(Lit.int .i64 ck).wf=true)(L:(Lit.int .i64 cl).wf=true)(M:(Lit.int .i64 ca).wf=true)(V:Bs w (dk va ys.length vc) (ys.map B8))(i:∀g,(dk va ys.length vc).ownBlock=some g->g<w.heap.size/\aY g≠tg)(P:mA ys)(Y:qd ck ys.length=true)(Z:(gY rs).length<=1000000000000):vh 335 #[.agg #[O p],.agg #[I kd,I ln,I nr,I e,I x,I ck,I cl,I ca,dk va ys.length vc]] w aY tg p a b c d ch rs S (r9 a b c d ch (S rs.length) e x ck cl ca ys):=
 xO y kd ln nr e x ck cl ca va vc ys _ (.inr (.inl ⟨rfl,rfl,rfl⟩)) λ_ Q=>MW (h.only (iD Q) (λ_ _ e=>e.elim) λ_ j=>fz _ _ _ _ j) e x ck cl ca va vc ys D F H L M Z (V.bl Q) (λg j=>⟨af (i g j).1 Q.lt,by rw[fz _ _ _ _ (i g j).1];exact(i g j).2⟩) P Y
def Ql(w):(Instr.makeMap 400 none).run prog w=.ok (.map (some w.heap.size)) (w.alloc (.map #[] 0)):=rfl
def AR(W:World)(o o'):({(W.alloc o)with heap:=(W.alloc o).heap.setIfInBounds W.heap.size o'}:World)=W.alloc o':=by
 show({(W.alloc o)with heap:=(W.heap.push o).setIfInBounds W.heap.size o'}:World)=W.alloc o';have:(W.heap.push o).setIfInBounds W.heap.size o'=W.heap.push o':=by
  apply Array.ext
  .simp
  intro i j y;by_cases h:i=W.heap.size
  .simp_all
  simp at j;rw[Array.getElem_setIfInBounds_ne (iG j) (Ne.symm h),gv C,gv C]
 rw[this];rfl
def Cq(W:World)(g)(es)(n)(k)(f)(j:g=W.heap.size)(y:Instr.findNow (.int .i64) (.int .i64 k) es.toList 0=some none):(Instr.mapUpdate 400 (.map (some g)) (.int .i64 k) f).run prog (W.alloc (.map es n))=.ok () (W.alloc (.map (es.push ⟨.int .i64 k,f,n⟩) (n+1))):=by
 subst j;have i:(W.alloc (.map es n)).heap[W.heap.size]?=some (.map es n):=ao W _;have D:=eW (P:=prog) (w:=W.alloc (.map es n)) (k:= .int .i64 k) underlying3 sj false 9999;simp only[Instr.mapUpdate,Sem.run_bind,Z4 underlying400,Result.andThen,aI i,D,(fa (w:=W.alloc (.map es n)) underlying3 y)];rw[Z7 _ i,AR]
def Rl:Array MapEntry:=#[⟨I 1,(Value.func (Fn.func 334) #[] #[]),0⟩,⟨I 2,(Value.func (Fn.func 335) #[] #[]),1⟩,⟨I 3,(Value.func (Fn.func 336) #[] #[]),2⟩,⟨I 4,(Value.func (Fn.func 337) #[] #[]),3⟩]
def yc(w)(g)(k)(i)(f)(j:w.heap[g]?=some (.map Rl 4))(y:Instr.findNow (.int .i64) (.int .i64 k) Rl.toList 0=some (some (i,f))):(Instr.lookup 400 (.map (some g)) (.int .i64 k) true).run prog w=.ok (.tuple #[f,.bool true]) w:=by
 have D:=fa (w:=w) underlying3 y;have F:=eW (P:=prog) (w:=w) (k:= .int .i64 k) underlying3 sj Rl.isEmpty 9999;simp[Instr.lookup,Sem.run_bind,aI j,F,D]
def zK{base:Nat}{u:Value}(h:w.ownsRow base 5 1 u n (ys.map B8)):Bs w u (ys.map B8):=by
 have D:=h.1;obtain⟨i,H⟩|⟨g,cap,F,i,_⟩:=h.2
 .exact .inl ⟨i,aW.1 C⟩
 subst i;exact .inr ⟨(U g 0),cap,by congr 1;simpa using D.symm,λj u y=>by rw[mU,bP,h.cellAt j (gI ((aj.1 y).1))];exact y⟩
def RS{Y w3:World}{D:Int}{j:List Rc}{R:An×St}{Z:Nat}(V:Bl w W)(a2:W.heap.size=w.heap.size+1+1+1)(P:∀g,g<Y.heap.size->bp g=gN aY w.heap.size 3 g)(hM:pF rs S j S')(hE:S' j.length=R.2)(a0:(gY j).length<=(gY rs).length+60)(a1:Kt w2 bp tg p a b c d ch j S')(Q:bz (λg=>gN aY w.heap.size 3 g=tg) Y w2)(M:Bl w2 w3)(ho:w3.ownsRow w2.heap.size 5 1 (dk ba (iB 101 [D,R.1.wh,R.1.ep,R.1.mark,R.1.ct.kd,R.1.ct.cl,R.1.ct.ca] R.1.ct.val).length Z) (iB 101 [D,R.1.wh,R.1.ep,R.1.mark,R.1.ct.kd,R.1.ct.cl,R.1.ct.ca] R.1.ct.val).length ((iB 101 [D,R.1.wh,R.1.ep,R.1.mark,R.1.ct.kd,R.1.ct.cl,R.1.ct.ca] R.1.ct.val).map B8))(y:Bl W Y):∃F H j S' bp,(gG (.tuple #[dk ba (iB 101 [D,R.1.wh,R.1.ep,R.1.mark,R.1.ct.kd,R.1.ct.cl,R.1.ct.ca] R.1.ct.val).length Z,.bool true]):Ending)=gG (.tuple #[dk F (iB 101 [D,R.1.wh,R.1.ep,R.1.mark,R.1.ct.kd,R.1.ct.cl,R.1.ct.ca] R.1.ct.val).length H,.bool true])/\w3.ownsRow w.heap.size 5 1 (dk F (iB 101 [D,R.1.wh,R.1.ep,R.1.mark,R.1.ct.kd,R.1.ct.cl,R.1.ct.ca] R.1.ct.val).length H) (iB 101 [D,R.1.wh,R.1.ep,R.1.mark,R.1.ct.kd,R.1.ct.cl,R.1.ct.ca] R.1.ct.val).length ((iB 101 [D,R.1.wh,R.1.ep,R.1.mark,R.1.ct.kd,R.1.ct.cl,R.1.ct.ca] R.1.ct.val).map B8)/\(∀g,(dk F (iB 101 [D,R.1.wh,R.1.ep,R.1.mark,R.1.ct.kd,R.1.ct.cl,R.1.ct.ca] R.1.ct.val).length H).ownBlock=some g->bp g=4)/\(∀g,g<w.heap.size->bp g=aY g)/\pF rs S j S'/\S' j.length=R.2/\(gY j).length<=(gY rs).length+60/\Kt w3 bp tg p a b c d ch j S'/\bz (λg=>aY g=tg) w w3:=by
 have s1:=y.lt;have s2:=Q.size;have s3:=M.lt;refine⟨ba,Z,j,S',gN bp w2.heap.size 4,rfl,gL ho λg L=>?_,λg L=>ig _ _ _ _ (ho.lt g L).1,λg L=>?_,hM,hE,a0,a1.only (iD M) (λ_ _ e=>e.elim) λg L=>fz _ _ _ _ L,?_⟩
 .have h1:=(ho.lt g L).1;omega
 .rw[fz _ _ _ _ C,P g C,fz _ _ _ _ L]
 refine⟨M.os.H (Q.os.H (y.os.H V.os)),M.tape.H (Q.tape.H (y.tape.H V.tape)),M.output.H (Q.output.H (y.output.H V.output)),C,λi hi hn=>?_⟩;rw[M.heap C,Q.block i C λe=>hn (by rwa[fz _ _ _ _ hi]at e),y.heap C,V.heap hi]
def uM(a b c d ch:Int)(s:St)(kd e x ck cl ca:Int)(ys:List Int):An×St:=
 if kd=1 then tM s e else if kd=2 then r9 a b c d ch s e x ck cl ca ys else if kd=3 then xq a b c d ch s e x else tK s e x
def LV(h:Kt w aY tg p a b c d ch rs S)(i:tg≠3)(kd ln nr e x ck cl ca)(F:kd=1\/kd=2\/kd=3\/kd=4)(va)(vc)(ys)(j:(Lit.int .i64 e).wf=true)(y:(Lit.int .i64 x).wf=true)(H:(Lit.int .i64 ck).wf=true)(L:(Lit.int .i64 cl).wf=true)(M:(Lit.int .i64 ca).wf=true)(V:Bs w (dk va ys.length vc) (ys.map B8))(P:∀g,(dk va ys.length vc).ownBlock=some g->g<w.heap.size/\aY g≠tg)(Q:mA ys)(Y:kd=2->qd ck ys.length=true)(D:(gY rs).length<=1000000000000):vh (333+kd.toNat) #[.agg #[O p],.agg #[I kd,I ln,I nr,I e,I x,I ck,I cl,I ca,dk va ys.length vc]] w aY tg p a b c d ch rs S (uM a b c d ch (S rs.length) kd e x ck cl ca ys):=by
 obtain rfl|rfl|rfl|rfl:=F
 .exact Lc h i 1 ln nr e x ck cl ca va vc ys j D
 .exact Gt h i 2 ln nr e x ck cl ca va vc ys j y H L M V P Q (Y rfl) D
 .exact Ln h i 3 ln nr e x ck cl ca va vc ys j D
 exact LJ h i 4 ln nr e x ck cl ca va vc ys j y D
theorem Gb(h:Kt w aY tg p a b c d ch rs S)(htg:tg≠3)(kd ln nr e x ck cl ca)(hkd:kd=1\/kd=2\/kd=3\/kd=4)(va)(vc)(ys)(hwf:(Lit.int .i64 e).wf=true)(hxf:(Lit.int .i64 x).wf=true)(hkf:(Lit.int .i64 ck).wf=true)(hcf:(Lit.int .i64 cl).wf=true)(haf:(Lit.int .i64 ca).wf=true)(hv:Bs w (dk va ys.length vc) (ys.map B8))(hvb:∀g,(dk va ys.length vc).ownBlock=some g->g<w.heap.size/\aY g≠tg)(hys:mA ys)(hc:kd=2->qd ck ys.length=true)(hl:(gY rs).length<=1000000000000)(R)(hR:R=uM a b c d ch (S rs.length) kd e x ck cl ca ys)(hRl:R.1.ct.val.length<=255):ib 333 #[.agg #[O p],.agg #[I kd,I ln,I nr,I e,I x,I ck,I cl,I ca,dk va ys.length vc]] w λen w'=>∃ba bc rs' S' bp,en=gG (.tuple #[dk ba (iB 101 [nr,R.1.wh,R.1.ep,R.1.mark,R.1.ct.kd,R.1.ct.cl,R.1.ct.ca] R.1.ct.val).length bc,.bool true])/\w'.ownsRow w.heap.size 5 1 (dk ba (iB 101 [nr,R.1.wh,R.1.ep,R.1.mark,R.1.ct.kd,R.1.ct.cl,R.1.ct.ca] R.1.ct.val).length bc) (iB 101 [nr,R.1.wh,R.1.ep,R.1.mark,R.1.ct.kd,R.1.ct.cl,R.1.ct.ca] R.1.ct.val).length ((iB 101 [nr,R.1.wh,R.1.ep,R.1.mark,R.1.ct.kd,R.1.ct.cl,R.1.ct.ca] R.1.ct.val).map B8)/\(∀g,(dk ba (iB 101 [nr,R.1.wh,R.1.ep,R.1.mark,R.1.ct.kd,R.1.ct.cl,R.1.ct.ca] R.1.ct.val).length bc).ownBlock=some g->bp g=4)/\(∀g,g<w.heap.size->bp g=aY g)/\pF rs S rs' S'/\S' rs'.length=R.2/\(gY rs').length<=(gY rs).length+60/\Kt w' bp tg p a b c d ch rs' S'/\bz (λg=>aY g=tg) w w':=by
 have hmk:=Ql;have q1:=Cq (TL w p kd ln nr e x ck cl ca va ys vc) (w.heap.size+1+1) #[] 0 1 (Value.func (Fn.func 334) #[] #[]) aq rfl;have q2:=Cq (TL w p kd ln nr e x ck cl ca va ys vc) (w.heap.size+1+1) #[⟨I 1,(Value.func (Fn.func 334) #[] #[]),0⟩] 1 2 (Value.func (Fn.func 335) #[] #[]) aq rfl;have q3:=Cq (TL w p kd ln nr e x ck cl ca va ys vc) (w.heap.size+1+1) #[⟨I 1,(Value.func (Fn.func 334) #[] #[]),0⟩,⟨I 2,(Value.func (Fn.func 335) #[] #[]),1⟩] 2 3 (Value.func (Fn.func 336) #[] #[]) aq rfl;have q4:=Cq (TL w p kd ln nr e x ck cl ca va ys vc) (w.heap.size+1+1) #[⟨I 1,(Value.func (Fn.func 334) #[] #[]),0⟩,⟨I 2,(Value.func (Fn.func 335) #[] #[]),1⟩,⟨I 3,(Value.func (Fn.func 336) #[] #[]),2⟩] 3 4 (Value.func (Fn.func 337) #[] #[]) aq rfl;simp only[List.push_toArray,dV,dz,Nat.reduceAdd]at q1 q2 q3 q4;obtain⟨W,hW⟩:∃W,W=(TL w p kd ln nr e x ck cl ca va ys vc).alloc (.map Rl 4):=⟨_,rfl⟩;have b3:Bl w W:=by rw[hW];exact((jo.alloc _).alloc _).alloc _
 have hs3:W.heap.size=w.heap.size+1+1+1:=nI hW;have hu0:W.heap[w.heap.size]?=some (gO #[O p] 233 (0,0)):=by rw[hW,fJ _ _ _ gM,fJ _ _ _ aq];exact ao w _
 have hq:W.heap[w.heap.size+1]?=some (gO #[I kd,I ln,I nr,I e,I x,I ck,I cl,I ca,dk va ys.length vc] 100 (0,0)):=by rw[hW,fJ _ _ _ aq];have:=ao (w.alloc (gO #[O p] 233)) (gO #[I kd,I ln,I nr,I e,I x,I ck,I cl,I ca,dk va ys.length vc] 100);have hz:(w.alloc (gO #[O p] 233)).heap.size=w.heap.size+1:=aq;rwa[hz]at this
 have u0:W.cell? (U w.heap.size 0)=some (O p):=ax W _ 0 _ 233 (0,0) hu0;obtain⟨g0,g1,g2,g3⟩:=nN hq 0 1 2 3 rfl;obtain⟨g4,g5,g6⟩:=px hq 4 5 6 rfl;obtain⟨g7,g8⟩:=rO hq 7 8 rfl;have lu:w.heap.size<W.heap.size:=C;have lq:w.heap.size+1<W.heap.size:=C;have HU:Hid (∀W',Bl W W'->vh (333+kd.toNat) #[.agg #[O p],.agg #[I kd,I ln,I nr,I e,I x,I ck,I cl,I ca,dk va ys.length vc]] W' (gN aY w.heap.size 3) tg p a b c d ch rs S R):=λW' hW'=>by have hbb:=b3.H hW';rw[hR];exact LV (h.only (iD hbb) (λ_ _ e=>e.elim) λg hg=>fz _ _ _ _ hg) htg kd ln nr e x ck cl ca hkd va vc ys hwf hxf hkf hcf haf (hv.bl hbb) (λg hg=>⟨af (hvb g hg).1 hbb.lt,by rw[fz _ _ _ _ (hvb g hg).1];exact(hvb g hg).2⟩) hys hc hl
 have hm3:W.heap[w.heap.size+1+1]?=some (.map Rl 4):=by rw[hW];have:=ao (TL w p kd ln nr e x ck cl ca va ys vc) (.map Rl 4);have hz:(TL w p kd ln nr e x ck cl ca va ys vc).heap.size=w.heap.size+1+1:=aq;rwa[hz]at this
 have ql:(Instr.lookup 400 (.map (some (w.heap.size+1+1))) (I kd) true).run prog W=.ok (.tuple #[.func (Fn.func (333+kd.toNat)) #[] #[],.bool true]) W:=by
  obtain rfl|rfl|rfl|rfl:=hkd
  .exact yc W _ 1 0 _ hm3 rfl
  .exact yc W _ 2 1 _ hm3 rfl
  .exact yc W _ 3 2 _ hm3 rfl
  exact yc W _ 4 3 _ hm3 rfl
 have HW:=fu hW;unfold Rl at HW;obtain⟨HB,HQ⟩:=fl b3 (And.intro hu0 hq);have hWt:=HW.o;clear hW hR b3 h hv hvb hys hc hm3 hu0 hq;rw[hWt]at ql;clear hWt;unfold vh at HU;obtain⟨F,hF⟩:=dS (333+kd.toNat);rw[hF]at HU ql;have hFF:Hid (F=334\/F=335\/F=336\/F=337):=lQ;clear hF hkd;have hWk:=HW.o;go_enter func333,ntmps333;go_upto_region 5 with fail;rw[<-hWk];clear hWk ql q1 q2 q3 q4 hmk;obtain rfl|rfl|rfl|rfl:=hFF.o;all_goals
  go_region_held3(λW=>W.cell? (U w.heap.size 0)=some (O p)/\W.cell? (U (w.heap.size+1) 0)=some (I kd)/\W.cell? (U (w.heap.size+1) 1)=some (I ln)/\W.cell? (U (w.heap.size+1) 2)=some (I nr)/\W.cell? (U (w.heap.size+1) 3)=some (I e)/\W.cell? (U (w.heap.size+1) 4)=some (I x)/\W.cell? (U (w.heap.size+1) 5)=some (I ck)/\W.cell? (U (w.heap.size+1) 6)=some (I cl)/\W.cell? (U (w.heap.size+1) 7)=some (I ca)/\W.cell? (U (w.heap.size+1) 8)=some (lI va ys vc)) (go_keep)
   (first|((first|go_at_call 334|go_at_call 335|go_at_call 336|go_at_call 337);refine(HU _ ?hb).L ?_;(case hb=>exact iZ);rintro en w2⟨xa,xc,rs',S',bp,rfl,ho,ht1,hold,hM,hE,hsz,hkt,oQ⟩;have e1:=(oQ.block w.heap.size lu (by rw[ig _ _ _ _ jc];exact Ne.symm htg)).H HQ.1;have e2:=(oQ.block (w.heap.size+1) lq (by rw[ig _ _ _ _ pK];exact Ne.symm htg)).H HQ.2;have l1:=(ae.1 e1).1;have l2:=(ae.1 e2).1;have zu:=ax w2 _ 0 _ 233 (0,0) e1;simp at zu;have z0:=ax w2 _ 0 _ 100 (0,0) e2;simp at z0;have z1:=ax w2 _ 1 _ 100 (0,0) e2;simp at z1;have z2:=ax w2 _ 2 _ 100 (0,0) e2;simp at z2;have z3:=ax w2 _ 3 _ 100 (0,0) e2;simp at z3;have z4:=ax w2 _ 4 _ 100 (0,0) e2;simp at z4;have z5:=ax w2 _ 5 _ 100 (0,0) e2;simp at z5;have z6:=ax w2 _ 6 _ 100 (0,0) e2;simp at z6;have z7:=ax w2 _ 7 _ 100 (0,0) e2;simp at z7;have z8:=ax w2 _ 8 _ 100 (0,0) e2;simp at z8;have HRB:Hid (∀W2,Bl w2 W2->_):=λW2 h2=>zB nr R.1.wh R.1.ep R.1.mark R.1.ct.kd R.1.ct.cl R.1.ct.ca xa xc R.1.ct.val W2 ((zK ho).bl h2) (λg hg=>af (ho.lt g hg).2 h2.lt) hRl;have HP:=QA hold hM hE hsz hkt oQ;clear ho ht1 hold hM hE hsz hkt oQ e1 e2;unfold An.val jr)|(go_at_call 338;refine(HRB _ ?hb).L ?_;(case hb=>exact iZ);rintro en w3⟨ba,bc,rfl,hb3,ho3⟩;have hB3:Bl w2 w3:=Bl.H iZ hb3;have yu:=(hB3.cell l1).H zu;obtain⟨y0,y1,y2,y3⟩:=hB3.J l2 z0 z1 z2 z3;obtain⟨y4,y5,y6⟩:=hB3.F l2 z4 z5 z6;obtain⟨y7,y8⟩:=hB3.E l2 z7 z8;have HQ3:=mF hB3 ho3;clear hb3 hB3 ho3))
  all_goals
   go_wp2;go_ret2;exact RS HB hs3 HP.1 HP.2.1 HP.2.2.1 HP.2.2.2.1 HP.2.2.2.2.1 HP.2.2.2.2.2 HQ3.1 HQ3.2 iZ
abbrev ak(a b:Int):Value:= .agg #[I a,I b]
def SD(w)(d)(a c):(Op.equalIn (d+1) 3 (I a) (I c)).run prog w=.ok (a==c) w:=rfl
def Uo(w)(a b):(part 3 #[I a,I b] 0).run prog w=.ok (I a) w:=rfl
def T8(w)(a b):(part 3 #[I a,I b] 1).run prog w=.ok (I b) w:=rfl
def sE(w)(em)(a b):(Instr.checkKey em 10000 294 (ak a b)).run prog w=.ok () w:=rfl
def T6(w)(a b c d):(Op.equal 294 (ak a b) (ak c d)).run prog w=.ok (a==c&&b==d) w:=by
 have i:=SD w 9998 a c;have j:=SD w 9998 b d;show(Op.equalIn (9998+1+1) 294 (ak a b) (ak c d)).run prog w=_;unfold Op.equalIn;simp only[Nat.reduceAdd]at i j
 cases y:(a==c)<;>cases D:(b==d)<;>rw[y]at i<;>rw[D]at j<;>simp[Sem.run_bind,Z4 underlying294,Result.andThen,Uo,T8,i,j]
structure Qv where
 cl:Int
 ln:Int
 v:Value
 bo:Nat
def Qv.B(e:Qv):MapEntry:=⟨ak e.cl e.ln,e.v,e.bo⟩
def kh(l:List Qv):Array MapEntry:=(l.map Qv.B).toArray
def vY(a b:Int):List Qv->Nat->Option (Nat×Value)
 |[],_=>none
 |e::es,i=>if a=e.cl/\b=e.ln then some (i,e.v)else vY a b es (i+1)
theorem Iz(w)(a b):∀(l:List Qv) (i:Nat),(Instr.findAsking 294 (ak a b) (l.map Qv.B) i).run prog w=.ok (vY a b l i) w
 |[],i=>by simp[Instr.findAsking,vY]
 |e::D,i=>by
  have h:=Iz w a b D (i+1);have y:=T6 w a b e.cl e.ln;simp only[bj,Instr.findAsking,Sem.run_bind,vY];simp only[Qv.B]at y|-;rw[y];by_cases j:a=e.cl/\b=e.ln
  .simp[Result.andThen,j]
  have F:(a==e.cl&&b==e.ln)=false:=by simpa using j
  rw[F,az j];exact h
theorem vH(w)(a b)(l):(Instr.findKey 294 (ak a b) (kh l).toList).run prog w=.ok (vY a b l 0) w:=by
 unfold Instr.findKey
 cases l with
 |nil=>simp[kh,Instr.findNow,vY]
 |cons e i=>have h:=Iz w a b (e::i) 0;simp;exact h
theorem vN:∀{l:List Qv} {i:Nat},(∀e∈l,¬(a=e.cl/\b=e.ln))->vY a b l i=none
 |[],_,_=>rfl
 |e::y,i,h=>by unfold vY;rw[az (h e aN)];exact vN λx j=>h x (aX _ j)
theorem tf:∀{l1 l2:List Qv} {e:Qv} {i:Nat},(∀x∈l1,¬(a=x.cl/\b=x.ln))->a=e.cl->b=e.ln->vY a b (l1++e::l2) i=some (i+l1.length,e.v)
 |[],l2,e,i,_,j,D=>by show vY a b (e::l2) i=_;unfold vY;rw[aE ⟨j,D⟩];rfl
 |x::xs,l2,e,i,h,j,D=>by show vY a b (x::(xs++e::l2)) i=_;unfold vY;rw[az (h x aN),tf (λy F=>h y (aX _ F)) j D];simp;omega
section
variable{l l1 l2:List Qv}{e:Qv}
def C2(j:w.heap[gm]?=some (.map (kh l) clk))(h:∀e∈l,¬(a=e.cl/\b=e.ln)):(Instr.lookup 120 (.map (some gm)) (ak a b) true).run prog w=.ok (.tuple #[.agg #[I 0,OO],.bool false]) w:=by have i:=vH w a b l;rw[vN h]at i;simp[Instr.lookup,aI j,sE,i]
def rA(j:w.heap[gm]?=some (.map (kh (l1++e::l2)) clk))(h:∀x∈l1,¬(a=x.cl/\b=x.ln))(y:a=e.cl)(D:b=e.ln)(ok):(Instr.lookup 120 (.map (some gm)) (ak a b) ok).run prog w=.ok (if ok then .tuple #[e.v,.bool true]else e.v) w:=by
 have i:=vH w a b (l1++e::l2);rw[tf h y D]at i
 cases ok<;>simp[Instr.lookup,aI j,sE,i]
def FV(i:w.heap[gm]?=some (.map (kh l) clk))(h:∀e∈l,¬(a=e.cl/\b=e.ln)):(Instr.mapUpdate 120 (.map (some gm)) (ak a b) v).run prog w=.ok () (setBlock w gm (.map (kh (l++[⟨a,b,v,clk⟩])) (clk+1))):=by
 have j:=vH w a b l;rw[vN h]at j;have y:(kh l).push ⟨ak a b,v,clk⟩=kh (l++[⟨a,b,v,clk⟩]):=by simp[kh,Qv.B]
 simp[Instr.mapUpdate,aI i,sE,j,Z7 _ i,y,setBlock]
end
theorem Ja{α:Type}(f):∀(l1:List α) (x:α) (l2:List α),(l1++x::l2).modify l1.length f=l1++f x::l2
 |[],x,l2=>rfl
 |y::l1,x,l2=>by show y::(l1++x::l2).modify l1.length f=_;rw[Ja f l1 x l2];rfl
def Ng(a b)(w):(Instr.keyThatStays (ak a b) (ak a b)).run prog w=.ok (ak a b) w:=by
 have h:Instr.sameBits 10000 (ak a b) (ak a b)=true:=by simp[Instr.sameBits]
 unfold Instr.keyThatStays;simp_all
section
variable{l l1 l2:List Qv}{e:Qv}
def GK(i:w.heap[gm]?=some (.map (kh (l1++e::l2)) clk))(h:∀x∈l1,¬(e.cl=x.cl/\e.ln=x.ln)):(Instr.mapUpdate 120 (.map (some gm)) (ak e.cl e.ln) v).run prog w=.ok () (setBlock w gm (.map (kh (l1++{e with v:=v}::l2)) clk)):=by
 have j:=vH w e.cl e.ln (l1++e::l2);rw[tf h rfl rfl,bP]at j;have y:((kh (l1++e::l2))[l1.length]?).map (·.key)=some (ak e.cl e.ln):=by simp[kh,Qv.B]
 have D:(kh (l1++e::l2)).modify l1.length (λx=>{x with key:=ak e.cl e.ln,val:=v})=kh (l1++{e with v:=v}::l2):=by unfold kh;rw[List.modify_toArray,aZ,bj,aZ,bj];have:=Ja (λx:MapEntry=>{x with key:=ak e.cl e.ln,val:=v}) (l1.map Qv.B) e.B (l2.map Qv.B);rw[ay]at this;rw[this];rfl
 simp only[Instr.mapUpdate,Sem.run_bind,Z4 underlying120,Result.andThen,aI i,sE,j];rw[y];simp only[eN,Ng,Z7 _ i,D];rfl
def DZ(ty)(j:w.heap[gm]?=some (.map (kh (e::l2)) clk)):(Builtin.delete_ #[120,294] ty #[.map (some gm),ak e.cl e.ln]).run prog w=.ok (.tuple #[]) (setBlock w gm (.map (kh l2) clk)):=by
 have i:=vH w e.cl e.ln ([]++e::l2);rw[tf aq rfl rfl]at i;simp at i;have y:(kh (e::l2)).eraseIdxIfInBounds 0=kh l2:=by simp[kh,Array.eraseIdxIfInBounds]
 simp[Builtin.delete_,Sem.run_bind,Z4 underlying120,Result.andThen,aI j,sE,i,Z7 _ j,y,setBlock]
end
end Go.Proofs.YtbghhbpacijmmaaGreat
