import Derived.Shelf.SlMaps.Clone
import Derived.Shelf.SlMaps.DeleteFunc
import Derived.Lib.BytesEntry
import Derived.Test.YtbghhbpacijmmaaGreatL05
open Go.Proofs.Tryz
namespace Go.Proofs.YtbghhbpacijmmaaGreat
set_option maxRecDepth 99999
set_option maxHeartbeats 0
set_option linter.defProp false
open Go.RowKit Go.Maps Go.Shelf Go.Sort
attribute [local go_sem ↓] Go.wp_at_zero Go.wp_at_succ
open Go.ChangeMaps (setBlock)
variable {cP fz qb:Nat->Nat} {zz:List (Int×Vo)} {v:Value} {l:List Ae} {R:List (List Int)} {ms cs:List Value} {w' w1:World} {sn:Array Nat} {iC g n gm p k:Nat} {us d xs ys r rr zs:List Int} {P:Ae->Bool} {e:TypeId} {b q:Int×List Int} {x u:Int} {X X':Cx} {V V':CV} {c c':jn} {cv cv':lE} {es:Array MapEntry} {l1 l2:List Vo} {S:Nat->Prop} {f:Value->Vo}
def No(l:List jn):List Int:=(l.filter λc=>c.kind==5).map λc=>c.unit
def RN(l:List jn)(j)(h:j<l.length):No (l.take (j+1))=No (l.take j)++if l[j].kind==5 then [l[j].unit]else []:=by unfold No;rw[aM h,cz,aZ];simp only[cT];split<;>rfl
def KE(l):(No l).length<=l.length:=by unfold No;rw[ay];exact bF _ _
def qX{w:World}{b1 y:Nat}{xs:List Value}(h:w.ownsRow y e k v n xs)(A:b1<=y):w.ownsRow b1 e k v n xs:=
 ⟨h.1,h.2.imp (λe=>e) λ⟨g,c,j,e,l,r⟩=>⟨g,c,j,e,aF A l,r⟩⟩
section
variable{w:World}{t:Nat}
theorem zL(h:jy w cP t p qb X V)(hr:X.e.length<=1000000000)(h8:X.a.length<=8):iU 152 #[ptr p] w λen w'=>∃v,en=gU v/\w'.ownsRow w.heap.size 3 1 v X.gT.length (X.gT.map I)/\Bl w w':=by
 obtain⟨i3,ji,a4,a5,a6⟩:=fx Tryz.tJ;obtain⟨HS,H⟩:=gO (AU h hr h8) h;clear h;go_enter func152,ntmps152;go_wp2_with(go_at_call 192;refine HS.L ?_;rintro e Y⟨v,rfl,ho,Z⟩;obtain⟨a,cap,rfl⟩:=jk ho;obtain⟨HO,HB⟩:=gO ho Z;clear HS Z ho);go_loopw[3,9](λv i wr=>∃j:Nat,j<=X.a.length/\i=I j/\Hid (wr.ownsRow Y.heap.size 3 1 v (No (X.a.take j)).length ((No (X.a.take j)).map I))/\Hid (Bl Y wr)) λ_ i _=>X.a.length-(Go.RowKit.intOf i).toNat
 case atStart=>exact⟨0,jR,rfl,m7,jZ⟩
 obtain⟨j,hj,rfl,M,F⟩:=hrel;by_cases jt:j<X.a.length
 .have ai:(j:Int)<(X.a.length:Int):=C;have hB:=HB.H F;obtain⟨g,ak,a0⟩:=qS HO C;simp at a0;obtain⟨rfl,rfl⟩:=a0;have L:=HO.cellAt j C;rw[aK,ah jt]at L;have a1:=(HO.lt g rfl).2;have k1:=(F.cell a1).H L;simp only[bG]at k1;have al:=af a1 F.lt;obtain⟨dv,hk⟩:=(H.bl hB (fz:=cP) ib).r.f X.a[j] (aL jt);obtain⟨e0,e4⟩:=hk.R 0 4 rfl;have lq:=hk.lt;have a7:=KE (X.a.take j);rw[bH]at a7;have HT:=gN (RN X.a j jt);have a8:Hid ((No (X.a.take j)).length+1<=maxLen):=nZ;have a9:Hid (((No (X.a.take j)).length+1)*8<=140737488355328):=nC;generalize X.a[j]=d at*;generalize qb d.gL=q at*;clear hB L hk;by_cases a2:d.kind=5
  .have y:=HT.o;rw[a2]at y e0;have aa:=gN y;clear y HT;go_wp2_with(at_builtin;refine fm _ rfl _ _ 24 rfl Y.heap.size 3 i3 (I 0) 1 8 underlying24 ji a4 a5 a6 rfl bT u3 (No (X.a.take j)).length _ rfl (M.alloc _) (U wr.heap.size 0) 1 1 [I d.unit] rfl rfl (ZV _ _ _) tx bT a8 a9 (by have:=F.lt;simp;omega) (wr.heap.size+1) bz ?_);intro g' a3 w3 T Q ab am;have ac:Hid (Bl Y w3):=(F.alloc _).A (gI.A Q) λk e=>(M.lt k e.symm).1;have W:Hid (w3.ownsRow Y.heap.size 3 1 (gK (G g') ((No (X.a.take j)).length+1) a3) (No (X.a.take (j+1))).length ((No (X.a.take (j+1))).map I)):=by unfold Hid;rw[aa.o];simpa using T
   clear T Q ab;go_wp2;go_roundw
   case rel=>exact⟨j+1,C,bz,W,ac⟩
   exact iD
  have ad:(d.kind==5)=false:=by simpa using a2
  have y:=HT.o;rw[ad]at y;simp at y;rw[<-y]at M;have W:=M;clear y HT;go_wp2;go_roundw
  case rel=>exact⟨j+1,C,bz,W,F⟩
  exact iD
 have an:¬((j:Int)<(X.a.length:Int)):=C;have ag:j=X.a.length:=C;subst ag;rw[bZ]at M;go_wp2;go_ret;exact⟨_,rfl,qX M HB.lt,HB.H F⟩
def QM(X:Cx):X.iJ=decide (0<(X.gT.length:Int)):=by
 unfold Cx.iJ
 cases X.gT<;>simp
theorem mS(h:jy w cP t p qb X V)(y:X.e.length<=1000000000)(A:X.a.length<=8):iU 91 #[ptr p] w λF w'=>F=gU (.bool X.iJ)/\Bl w w':=by
 have H:=gN (zL h y A);rw[QM];clear h;go_enter func91,ntmps91;go_wp2_with(refine H.L ?_;rintro e M⟨v,rfl,L,j⟩;obtain⟨a,cap,rfl⟩:=jk L);go_ret;exact⟨bz,(gN j).o⟩
end
def Ek(v)(zs:List Int)(x)(w)(h:Sl w v (zs.map I))(y:zs.length<=1000):iU 153 #[v,I x] w λe w'=>e=gU (.bool (decide (x∈zs)))/\w'=w:=by
 obtain⟨a,c,rfl,A⟩|⟨b,o,c,rfl,T,W⟩:=h
 .have:zs=[]:=by simpa using A
  subst this;exact(CC w a c x).L λe w'⟨F,H⟩=>⟨om F,H⟩
 rw[ay];refine CX w b o c zs x y λj d M=>?_;have Q:=(aj.1 M).1;simp_all
def G6(w:World)(v:Value)(xss:List (List Int)):Prop:=
 ∃ms,Sl w v ms/\ms.length=xss.length/\∀i (h:i<ms.length) (h':i<xss.length),Sl w ms[i] (xss[i].map I)
def G6.bl{w:World}{xss:List (List Int)}(h:G6 w v xss)(j:Bl w w'):G6 w' v xss:=by obtain⟨ms,y,A,F⟩:=h;exact⟨ms,y.bl j,A,λi h H=>(F i h H).bl j⟩
def G6.empty{w:World}(h:G6 w v []):∃a c,v=gK a 0 c:=by obtain⟨ms,j,y,A⟩:=h;have:ms=[]:=aW.1 y;subst this;exact j.empty
def G6.some{w:World}{y:List (List Int)}(h:G6 w v y)(Q:0<y.length):∃b o c,v=gK (some (U b o)) y.length c/\b<w.heap.size/\∀j,(h:j<y.length)->∃m,w.cell? (U b (o+j))=some m/\Sl w m (y[j].map I):=by
 obtain⟨ms,A,F,H⟩:=h;obtain⟨T,W,rfl,Y⟩|⟨b,o,c,rfl,L,M⟩:=A
 .simp_all
 exact⟨b,o,c,mT F,L,λj Z=>⟨ms[j],M j C,H j _ _⟩⟩
def ru(L:List (List Int))(x:Int):Bool:=L.any λc=>decide (x∈c)
def rA(L:List (List Int))(x:Int):Bool:=L.any λc=>decide (x∈c)&&decide (c.length=1)
def FC(L:List (List Int))(x)(k)(h:k<L.length):ru (L.take (k+1)) x=(ru (L.take k) x||decide (x∈L[k])):=by unfold ru;rw[aM h,fB];simp
def FA(L:List (List Int))(x)(k)(h:k<L.length):rA (L.take (k+1)) x=(rA (L.take k) x||(decide (x∈L[k])&&decide (L[k].length=1))):=by unfold rA;rw[aM h,fB];simp
def pC(L:List (List Int))(x:Int):Int:=if ru L x=false then 3 else if rA L x=true then 4 else 0
theorem wB(v)(L)(x)(w)(M:G6 w v L)(hn:L.length<=1000)(hs:∀c∈L,c.length<=1000):iU 217 #[v,I x] w λe w'=>e=gU (I (pC L x))/\w'=w:=by
 by_cases h0:L.length=0
 .have Q:L=[]:=aW.1 h0;subst Q;obtain⟨a,c,rfl⟩:=M.empty;go_enter func217,ntmps217;go_wp2;refine Z6 1 ?_;rw[ZZ];go_wp2;go_ret;exact⟨rfl,rfl⟩
 obtain⟨b,o,c,rfl,hb,hc⟩:=M.some C;clear M;go_enter func217,ntmps217;go_wp2;go_loop[5,6,12] (λs l i=>∃k:Nat,k<=L.length/\i=I k/\s=.bool (ru (L.take k) x)/\l=.bool (rA (L.take k) x)) λ_ _ i=>L.length-(Go.RowKit.intOf i).toNat
 case atStart=>exact⟨0,jR,rfl,rfl,rfl⟩
 obtain⟨k,hk,rfl,rfl,rfl⟩:=hrel;by_cases H:k<L.length
 .obtain⟨m,hm,j⟩:=hc k H;have Q:=hs _ (aL H);have H1:=FC L x k H;have H2:=FA L x k H;obtain⟨s',y⟩:=gG (ru (L.take (k+1)) x);obtain⟨l',A⟩:=gG (rA (L.take (k+1)) x);rw[y]at H1;rw[A]at H2;have HS:Hid (ru (L.take (k+1)) x=s'):=y;have HL:Hid (rA (L.take (k+1)) x=l'):=A;clear y A;obtain⟨a,c',F⟩:=j.len;simp only[ay]at F;have T:Hid (Sl w m (L[k].map I)):=j;generalize W:L[k]=ch at*;clear W hc j hs;subst F;generalize ru (L.take k) x=Y at*;generalize rA (L.take k) x=Z at*;have hd:((ch.length:Int)==1)=decide (ch.length=1):=by
   by_cases h:ch.length=1
   .simp[h]
   simp[h];omega
  generalize decide (ch.length=1)=q1 at*;go_wp2_with fail;refine(Ek _ ch x _ T Q).L ?_;generalize decide (x∈ch)=q0 at*;rintro e w'⟨rfl,rfl⟩;subst H1 H2
  cases Y<;>cases Z<;>cases q0<;>cases q1;all_goals
   go_wp2;go_round
   case rel=>exact⟨k+1,C,iq,by rw[HS.o];rfl,by rw[HL.o];rfl⟩
   exact iD
 have ht:L.take k=L:=bI C;rw[ht];have hl:Hid (pC L x=if ru L x=false then 3 else if rA L x=true then 4 else 0):=rfl;generalize ru L x=Y at*;generalize rA L x=Z at*
 cases Y<;>cases Z;all_goals
  go_wp2;go_ret;refine⟨?_,rfl⟩;rw[hl.o];rfl
def Tryz.Ju:(prog.info? 24).map (λi=>(i.zero,i.size,i.bytes))=some (some OO,1,24):=rfl
structure mJ(base:Nat)(w:World)(g n:Nat)(ms:List Value)(R:List (List Int)):Prop where
 ij:w.ownsRow base 24 1 (.slice (G g) n n) n ms
 len:R.length=n
 row:∀i (h:i<ms.length) (h':i<R.length),w.ownsRow base 3 1 ms[i] R[i].length (R[i].map I)
 ny:∀i j (hi:i<ms.length) (hj:j<ms.length) b,i≠j->ms[i].ownBlock=some b->ms[j].ownBlock≠some b
def mJ.ze{base:Nat}{w:World}(h:mJ base w g n ms R):ms.length=n:=by have:=h.ij.1;omega
def mJ.XM{base:Nat}{w:World}(h:mJ base w g n ms R):G6 w (gK (G g) n n) R:=
 ⟨ms,jD h.ij,by rw[h.ze,h.len],λi y j=>jD (h.row i y j)⟩
def mJ.only{base:Nat}{w:World}(h:mJ base w g n ms R)(F:gI S w w')(H:∀b,base<=b->b<w.heap.size->¬S b):mJ base w' g n ms R:=
 ⟨F.jH h.ij λb y=>H b (h.ij.lt b y).1 (h.ij.lt b y).2,h.len,λi A j=>F.jH (h.row i A j) λb y=>H b ((h.row i A j).lt b y).1 ((h.row i A j).lt b y).2,h.ny⟩
def mJ.bl{base:Nat}{w:World}(h:mJ base w g n ms R)(j:Bl w w'):mJ base w' g n ms R:=
 h.only (gI.D j) λ_ _ _ e=>e
def mJ.push{base:Nat}{w:World}(h:mJ base w g n ms R)(hk:k<n)(H:k<ms.length)(a2:k<R.length){L c:Nat}(hg:w.grownBy w1 ms[k].ownBlock)(hv:ms[k].ownBlock=some L\/w.heap.size<=L)(ho:w1.ownsRow base 3 1 (gK (G L) (R[k].length+1) c) (R[k].length+1) (R[k].map I++[I x])):mJ base (w1.setCell (U g k) (gK (G L) (R[k].length+1) c)) g n (ms.set k (gK (G L) (R[k].length+1) c)) (R.set k (R[k]++[x])):=by
 have F:=gI.A hg;have A:w1.ownsRow base 24 1 (gK (G g) n n) n ms:=F.jH h.ij λb y e=>lH h.ij (h.row k H a2) bT b y e.symm;obtain⟨a3,a4⟩:=A.stored k (gK (G L) (R[k].length+1) c);have W:=gI.A a4;have Z:∀b,(gK (G L) (R[k].length+1) c).ownBlock=some b->¬some b=some g:=by intro b y e;exact lH ho A bT b y (by simp[Value.ownBlock];simpa using e.symm)
 refine⟨a3,by simpa using h.len,λi hi a0=>?_,λi j hi hj b Y y=>?_⟩
 .simp only[bK]at hi a0;by_cases M:i=k
  .subst M;simp only[cA];have:=W.jH ho λb y=>Z b y;simpa using this
  rw[cC C,cC C];have hr:=h.row i hi a0;have a1:=F.jH hr λb y e=>h.ny i k hi H b M y e.symm;exact W.jH a1 λb y e=>lH a1 A bT b y (by simp[Value.ownBlock];simpa using e.symm)
 have Q:i<ms.length:=by simpa using hi
 have T:j<ms.length:=je hj;by_cases M:i=k
 .subst M;rw[cA]at y;rw[cC C];simp[Value.ownBlock]at y;subst y;intro e;obtain hv|hv:=hv
  .exact h.ny i j H T L Y hv e
  have:=(h.row j T (by rw[h.len,<-h.ze];exact T)).lt _ e;omega
 rw[cC C]at y;by_cases a5:j=k
 .subst a5;rw[cA];intro e;simp[Value.ownBlock]at e;subst e;obtain hv|hv:=hv
  .exact h.ny i j Q H L Y y hv
  have:=(h.row i Q (by rw[h.len,<-h.ze];exact Q)).lt _ y;omega
 rw[cC C];exact h.ny i j Q T b Y y
def rY(x u:Int):Bool:=decide (x=-1)||decide (u≠x)
def rm(x:Int)(c:List Int):List Int:=c.filter (rY x)
def qm(x:Int)(L:List (List Int))(k:Nat):List (List Int):=L.mapIdx λi c=>if i<k then rm x c else []
def Pa(h:rY x u=true):(x==-1)=true\/((x==-1)=false/\(u !=x)=true):=by simp[rY]at h|-;omega
def TN(h:rY x u=false):(x==-1)=false/\(u !=x)=false:=by simp[rY]at h|-;omega
def O7(x)(L)(k):(qm x L k).length=L.length:=by simp[qm]
def NU(x)(L):qm x L 0=List.replicate L.length []:=by
 apply eP
 .simp[qm]
 intro i h j;simp[qm]
def OA(x)(L):qm x L L.length=L.map (rm x):=by
 apply eP
 .simp[qm]
 intro i j h;simp at h;simp[qm,h]
def IW(x)(L)(k):(qm x L k).set k (rm x [])=qm x L k:=by
 apply eP
 .simp
 intro i h j;rw[List.getElem_set];split
 .rename_i e;subst e;simp[qm,rm]
 rfl
def M6(x)(L)(k)(h:k<L.length):(qm x L k).set k (rm x L[k])=qm x L (k+1):=by
 apply eP
 .simp[qm]
 intro i j y;rw[List.getElem_set];split
 .rename_i e;subst e;simp[qm]
 rename_i e;simp only[qm,List.getElem_mapIdx];by_cases l:i<k
 .rw[aE l,aE C]
 rw[az l,az C]
def EV(x)(c:List Int)(k)(h:k<c.length)(j:rY x c[k]=true):rm x (c.take (k+1))=rm x (c.take k)++[c[k]]:=by unfold rm;rw[aM h,cz];simp[j]
def Jx(x)(c:List Int)(k)(h:k<c.length)(j:rY x c[k]=false):rm x (c.take (k+1))=rm x (c.take k):=by unfold rm;rw[aM h,cz];simp[j]
def Ww(x)(c:List Int)(k):(rm x (c.take k)).length<=k:=aF (bF _ _) ik
def mJ.Eu{base:Nat}{w:World}(h:w.ownsRow base 24 1 (gK (G g) n n) n (List.replicate n OO)):mJ base w g n (List.replicate n OO) (List.replicate n []):=
 ⟨h,bz,λi y A=>by simpa using m7,λi j y H b _ F=>pV F⟩
def mJ.DM{w wr:World}(h:mJ w.heap.size wr g n ms R)(W:Bl w wr)(hk:k<n)(F:k<ms.length)(H:k<R.length){mk:Value}(Y:ms[k]=mk)(Z:R[k]=rr){L c:Nat}{o:Obj}(hg:(wr.alloc o).grownBy w1 mk.ownBlock)(hv:mk.ownBlock=some L\/L=wr.heap.size+1)(ho:w1.ownsRow w.heap.size 3 1 (gK (G L) (rr.length+1) c) (rr.length+1) (rr.map I++[I x])):w1.cell? (U g k)=some mk/\w1.frozen? (U g k)=false/\mJ w.heap.size (w1.setCell (U g k) (gK (G L) (rr.length+1) c)) g n (ms.set k (gK (G L) (rr.length+1) c)) (R.set k (rr++[x]))/\Bl w (w1.setCell (U g k) (gK (G L) (rr.length+1) c)):=by
 subst Y Z;have T:mJ w.heap.size (wr.alloc o) g n ms R:=h.bl (jZ.alloc _);have j:=gI.A hg;have y:w1.ownsRow w.heap.size 24 1 (gK (G g) n n) n ms:=j.jH T.ij λb M e=>lH T.ij (T.row k F H) bT b M e.symm;have jt:=h.ij.lt g rfl;have Q:∀b,ms[k].ownBlock=some b->w.heap.size<=b:=λb M=>((h.row k F H).lt b M).1;refine⟨?_,y.frozenAt k,T.push hk F H hg (hv.imp id λe=>ik) ho,?_⟩
 .rw[y.cellAt k C,ah F]
 have b1:Bl w w1:=(W.alloc o).A j λb M=>Q b M.symm;exact ZY b1 jt.1 _
theorem FK(v)(L)(x)(w)(hv:G6 w v L)(hn:L.length<=1000)(hs:∀c∈L,c.length<=1000):iU 218 #[v,I x] w λe w'=>∃g ms,e=gU (gK (G g) L.length L.length)/\Bl w w'/\mJ w.heap.size w' g L.length ms (L.map (rm x)):=by
 obtain⟨a4,hi,A,ab,ar⟩:=fx Tryz.Ju;obtain⟨i3,ji,au,av,aw⟩:=fx Tryz.tJ;by_cases h0:L.length=0
 .have hz:L=[]:=aW.1 h0;subst hz;obtain⟨a,c,rfl⟩:=hv.empty;go_enter func218,ntmps218;go_wp2_with(at_make;refine wpList_make_full _ rfl _ _ 89 rfl w.heap.size 24 a4 _ 1 underlying89 hi A ab _ _ _ _ 0 rfl rfl bz bz C (by unfold maxLen;omega) bz ?_);intro w1 M y;go_wp2;refine Z6 1 ?_;rw[ZZ];go_wp2;go_ret;have h:Bl w w1:=(gI.A y).u9 bz;exact⟨_,_,rfl,h,mJ.Eu (by simpa [toList_madeCells_one]using M)⟩
 obtain⟨b,o,c,rfl,hb,hc⟩:=hv.some C;clear hv;have a5:Hid (a4.bytes*L.length<=281474976710656):=by rw[ar];unfold Hid;omega
 have F:Hid (L.length<=maxLen):=nZ;go_enter func218,ntmps218;go_wp2_with(at_make;refine wpList_make_full _ rfl _ _ 89 rfl w.heap.size 24 a4 _ 1 underlying89 hi A ab _ _ _ _ L.length rfl rfl rfl rfl a5 F bz ?_);intro w1 M y;have h:Bl w w1:=(gI.A y).u9 bz;have R0:mJ w.heap.size w1 w.heap.size L.length _ _:=mJ.Eu (by simpa [toList_madeCells_one]using M);clear M y;go_wp2;go_loopw[15](λi wr=>∃(k:Nat) (ms:List Value),k<=L.length/\i=I k/\Bl w wr/\mJ w.heap.size wr w.heap.size L.length ms (qm x L k)) λi _=>L.length-(Go.RowKit.intOf i).toNat
 case atStart=>exact⟨0,_,jR,rfl,h,by rw[NU];exact R0⟩
 clear h R0;obtain⟨k,ms,hk,rfl,h,R⟩:=hrel;by_cases jt:k<L.length
 .obtain⟨m,hm,F⟩:=hc k jt;have hz:=hs _ (aL jt);have a6:=(h.cell hb).H hm;have HL:Hid ((qm x L k).set k (rm x L[k])=qm x L (k+1)):=M6 x L k jt;have aY:Hid ((qm x L k).length=L.length):=O7 x L k;have R:mJ w.heap.size wr w.heap.size L.length ms ((qm x L k).set k (rm x (L[k].take 0))):=by rw[eE,IW];exact R
  obtain⟨a,c',ac⟩:=F.len;simp only[ay]at ac;have ad:Hid (Sl w m (L[k].map I)):=F;generalize L[k]=ch at*;clear hm F hs hc;subst ac;go_wp2;go_loopw[22](λi wx=>∃(j:Nat) (ms:List Value),j<=ch.length/\i=I j/\Bl w wx/\mJ w.heap.size wx w.heap.size L.length ms ((qm x L k).set k (rm x (ch.take j)))) λi _=>ch.length-(Go.RowKit.intOf i).toNat
  case atStart=>exact⟨0,_,jR,rfl,h,R⟩
  clear R h a6;obtain⟨j,ms,hj,rfl,h,R⟩:=hrel;by_cases Q:j<ch.length
  .cases T:rY x ch[j]
   .have b0:=TN T;have a1:Hid (rm x (ch.take (j+1))=rm x (ch.take j)):=Jx x ch j Q T;obtain⟨ag,b2⟩:=b0;clear T;obtain⟨a9,c9,b3,A⟩|⟨b1,o1,c1,Y,a7,W⟩:=ad.o
    .simp at A;simp[A]at Q
    have a2:=(h.cell a7).H (W j (je Q));simp only[dC]at a2;simp only[bO]at Y;obtain⟨rfl,a8,rfl⟩:=Y;clear a8;clear W;have HR:Hid (mJ w.heap.size wr w.heap.size L.length ms ((qm x L k).set k (rm x (ch.take (j+1))))):=jf a1.o R;clear R;go_wp2;go_roundw
    case rel=>exact⟨j+1,ms,C,iq,h,HR⟩
    exact iD
   obtain⟨a9,c9,b3,A⟩|⟨b1,o1,c1,Y,a7,W⟩:=ad.o
   .simp at A;simp[A]at Q
   have a2:=(h.cell a7).H (W j (je Q));simp only[dC]at a2;simp only[bO]at Y;obtain⟨rfl,a8,rfl⟩:=Y;clear a8;clear W;have aa:k<ms.length:=by rw[R.ze];exact jt
   have ai:k<(qm x L k).length:=jf aY.o jt;have ak:=R.ij.cellAt k C;rw[ah aa]at ak;have Z:=R.row k aa (je ai);simp only[cA]at Z;generalize al:ms[k]=mk at*;have am:=(show Hid (ms[k]=mk)from al);clear al;have HR:Hid (mJ w.heap.size wr w.heap.size L.length ms ((qm x L k).set k (rm x (ch.take j)))):=R;have a3:Hid (wr.ownsRow w.heap.size 3 1 mk (rm x (ch.take j)).length ((rm x (ch.take j)).map I)):=Z;have b8:=Ww x ch j;clear R Z;generalize an:rm x (ch.take j)=rr at*;have ap:=(show Hid (rm x (ch.take j)=rr)from an);clear an;have b9:=h.lt;have a1:Hid (rm x (ch.take (j+1))=rr++[ch[j]]):=by rw[<-ap.o];exact EV x ch j Q T
   have a5:Hid ((rr.length+1)*8<=140737488355328):=nC;have F:Hid (rr.length+1<=maxLen):=nZ;have b4:=Pa T;clear T;obtain ag|⟨ag,b2⟩:=b4;all_goals
    go_wp2_with(at_builtin;refine fm _ rfl _ _ 24 rfl w.heap.size 3 i3 (I 0) 1 8 underlying24 ji au av aw rfl bT mk rr.length _ rfl (a3.alloc _) (U wr.heap.size 0) 1 1 [I ch[j]] rfl rfl (ZV _ _ _) tx bT F a5 ik (wr.heap.size+1) bz ?_);intro g' cap w1 a0 y aq ba;have HP:=HR.DM h jt aa (je ai) am bz y aq a0;obtain⟨W,bb,R1,b1⟩:=HP;rw[fk,<-a1.o]at R1;have b5:=(show Hid _ from R1);have b6:=(show Hid _ from b1);clear a0 y aq HR a3 R1 b1 a1 am ap ak a2;go_wp2;go_roundw
    case rel=>exact⟨j+1,_,C,iq,b6,b5⟩
    exact iD
  have R2:mJ w.heap.size wr w.heap.size L.length ms (qm x L (k+1)):=by have:=R;rwa[bI C,HL.o]at this
  clear R;go_wp2;go_roundw
  case rel=>exact⟨k+1,ms,C,iq,h,R2⟩
  exact iD
 have b7:k=L.length:=C;subst b7;rw[OA]at R;go_wp2;go_ret;exact⟨_,_,rfl,h,R⟩
def YB:Keyed prog 3:=int_keyed underlying3
def UR(w):(zeroValue 346).run prog w=.ok (.agg #[]) w:=rfl
def Sd(zs:List Int):DataW Unit:=setOf (.agg []) (zs.map (Lit.int .i64))
def WI:Sd []=.map []:=rfl
def T7(zs)(x):Sd (zs++[x])=(Sd zs).put (.int .i64 x) (.agg []):=by unfold Sd;rw[aZ,List.map_singleton,setOf_snoc]
theorem Lf(x):∀l:List Int,l.any ((λy:Lit=>y.sameKey (.int .i64 x))∘Lit.int .i64)=decide (x∈l)
 |[]=>rfl
 |a::r=>by
  rw[eM,Lf x r];show(decide (IntKind.i64=IntKind.i64/\a=x)||decide (x∈r))=_;by_cases e:a=x
  .subst e;simp
  have e':¬x=a:=λh=>e h.symm;simp_all
def Ws(zs)(x):Maps.has (Sd zs) (.int .i64 x)=decide (x∈zs):=by unfold Sd;rw[has_setOf _ _ _ λy h=>by obtain⟨_,_,rfl⟩:=aD.1 h;trivial,fY];exact Lf x _
structure si(w:World)(p b:Nat)(zs:List Int):Prop where
 ij:w.ownsMap prog 3 (unitElem (H:=Unit)) b zs.length (Sd zs)
 var:w.cell? (U p 0)=some (.map (some b))
 lt:p<w.heap.size
 ltb:b<w.heap.size
def tz(zs:List Int):Prop:=∀z∈zs,(Lit.int .i64 z).wf=true
def si.bl{w:World}{b:Nat}(h:si w p b zs)(j:Bl w w'):si w' p b zs:=⟨(h.ij.kept (row:=none) ⟨j.os,j.tape,j.output,j.size,λk y _=>j.block k y⟩ bz),(j.cell h.lt).H h.var,af h.lt j.lt,af h.ltb j.lt⟩
theorem wk(u)(p b)(zs)(w)(h:si w p b zs)(y:(Lit.int .i64 u).wf=true):iU 255 #[.int .i64 u,.pointer (some ⟨p,0,none⟩)] w λe w'=>e=gU (.bool (decide (u∈zs)))/\Bl w w':=by
 have A:=h.var;have j:keyOf prog 3 (.int .i64 u)=some (.int .i64 u):=keyOf_int_mk underlying3 y;have F:=Ws zs u;go_enter func255,ntmps255;go_wp2_with(at_lookup;refine wpList_lookup_own_unit _ rfl _ _ 345 rfl 3 346 YB underlying345 (UR _) b zs.length _ rfl h.ij _ _ rfl j ?_);go_ret;exact⟨rfl,jZ.alloc _⟩
theorem Bx(v)(us)(p b)(zs)(w)(hv:Sl w v (us.map I))(h:si w p b zs)(hu:tz us)(hs:us.length<=1000):iU 283 #[v,.func (.func 255) #[] #[O p]] w λe w'=>∃n:Int,e=gU (I n)/\(0<=n↔∃u∈us,u∈zs)/\Bl w w':=by
 by_cases h0:us.length=0
 .have W:us=[]:=aW.1 h0;subst W;obtain⟨a,c,rfl⟩:=hv.empty;go_enter func283,ntmps283;go_wp2;refine Z6 1 ?_;rw[ZZ];go_wp2;go_ret;exact⟨_,rfl,bz,jZ⟩
 obtain⟨a9,c9,rfl,W⟩|⟨b1,o,c,rfl,hb,hc⟩:=hv
 .simp at W;simp[W]at h0
 simp only[ay]at hc|-;have Hs:Hid (si w p b zs):=h;clear h;go_enter func283,ntmps283;go_wp2;go_loopw[8](λi wr=>∃k:Nat,k<=us.length/\i=I k/\Bl w wr/\∀u∈us.take k,¬u∈zs) λi _=>us.length-(Go.RowKit.intOf i).toNat
 case atStart=>exact⟨0,jR,rfl,jZ,bz⟩
 obtain⟨k,hk,rfl,j,M⟩:=hrel;by_cases Z:k<us.length
 .have Q:=(j.cell hb).H (hc k Z);simp only[dC]at Q;have Y:=hu _ (aL Z);have T:Hid (∀u∈us.take k,¬u∈zs):=M;have a1:Hid (tz us):=hu;clear hc M hu;have Hm:Hid (us[k]∈us):=aL Z;have Ht:Hid (us.take (k+1)=us.take k++[us[k]]):=aM Z;generalize us[k]=u at*;by_cases A:u∈zs
  .have hd:decide (u∈zs)=true:=by simpa using A
   clear A;go_wp2_with fail;refine(wk u p b zs _ (Hs.bl j) Y).L ?_;rw[hd];rintro e w'⟨rfl,F⟩;go_wp2;go_ret;exact⟨_,rfl,iff_of_true C ⟨u,Hm,je hd⟩,j.H F⟩
  have hd:decide (u∈zs)=false:=by simpa using A
  have a0:Hid (¬u∈zs):=A;clear A;go_wp2_with fail;refine(wk u p b zs _ (Hs.bl j) Y).L ?_;rw[hd];rintro e w'⟨rfl,F⟩;go_wp2;go_roundw
  case rel=>
   refine⟨k+1,C,iq,j.H F,?_⟩;rw[Ht.o];intro y hy;obtain hy|hy:=aT.1 hy
   .exact T y hy
   simp at hy;subst hy;exact a0
  case measure=>exact iD
 have T:Hid (∀u∈us.take k,¬u∈zs):=M;clear M;go_wp2;go_ret;refine⟨_,rfl,iff_of_false C ?_,j⟩;rintro⟨y,hy,W⟩;refine T y ?_ W;rw[bI C];exact hy
theorem sH(v)(us)(p b)(zs)(w)(A:Sl w v (us.map I))(h:si w p b zs)(F:tz us)(H:us.length<=1000):iU 256 #[v,.func (.func 255) #[] #[O p]] w λe w'=>e=gU (.bool (us.any λu=>decide (u∈zs)))/\Bl w w':=by
 go_enter func256,ntmps256;go_wp2_with fail;refine(Bx v us p b zs _ A h F H).L ?_;rintro e w'⟨n,rfl,y,j⟩;have M:Hid (0<=n↔∃u∈us,u∈zs):=y;clear y;go_wp2;go_ret;refine⟨mn ?_,j⟩;rw[dr];simpa using M.o
def G6.len{w:World}{L:List (List Int)}(h:G6 w v L):∃a c,v=gK a L.length c:=by obtain⟨ms,j,y,_⟩:=h;obtain⟨a,c,rfl⟩:=j.len;simp_all
def xg(n)(w):(Instr.makeMap 345 (some (I n))).run prog w=.ok (.map (some w.heap.size)) (w.alloc (.map #[] 0)):=rfl
theorem A9(v u)(L)(zs)(w)(hv:G6 w v L)(hu:Sl w u (zs.map (Value.int .i64)))(hn:L.length<=1000)(hs:∀c∈L,c.length<=1000/\tz c)(hz:zs.length<=1000)(hw:tz zs):iU 219 #[v,u] w λe w'=>e=gU (.bool (L.all λc=>c.any λu=>decide (u∈zs)))/\Bl w w':=by
 have b3:=xg;obtain⟨a1,c1,a7⟩:=hu.len;simp only[ay]at a7;obtain⟨a2,c2,a0⟩:=hv.len;subst a7 a0;have Hu:Hid (Sl w (mP a1 zs c1) (zs.map (Value.int .i64))):=hu;have Hv:Hid (G6 w (mP a2 L c2) L):=hv;have Hw:Hid (tz zs):=hw;have HL:Hid (∀c∈L,c.length<=1000/\tz c):=hs;clear hu hv hw hs;go_enter func219,ntmps219;go_wp2;go_loopw[16](λi wr=>∃k:Nat,k<=zs.length/\i=.int .i64 k/\Bl w wr/\si wr (w.heap.size+1) w.heap.size (zs.take k)) λi _=>zs.length-(Go.RowKit.intOf i).toNat
 case atStart=>refine⟨0,jR,rfl,(jZ.alloc _).alloc _,?_⟩;rw[eE];refine⟨?_,bz,bz,ik⟩;rw[WI];exact(World.ownsMap_made _ _ _ _).alloc _
 case round=>
  obtain⟨k,hk,rfl,j,Z⟩:=hrel;by_cases jt:k<zs.length
  .obtain⟨a9,c9,b4,a8⟩|⟨b1,o1,b5,a0,aq,aa⟩:=Hu.o
   .simp at a8;simp[a8]at jt
   have ab:=(j.cell aq).H (aa k (je jt));simp only[dC]at ab;simp only[bO]at a0;obtain⟨rfl,a6,rfl⟩:=a0;clear a6 aa;have ar:=Hw _ (aL jt);have ac:keyOf prog 3 (.int .i64 zs[k])=some (.int .i64 zs[k]):=keyOf_int_mk underlying3 ar;have b0:=Z.var;have a3:=Z.ij;have au:Hid ((zs.take k).length<maxLen):=by unfold Hid maxLen;simp;omega
   have b6:=j.lt;have T:Hid (si wr (w.heap.size+1) w.heap.size (zs.take k)):=Z;have Ht:Hid (zs.take (k+1)=zs.take k++[zs[k]]):=aM jt;clear Z;generalize zs[k]=x at*;generalize av:zs.take k=ys at*;clear av;have W:Hid (wr.ownsMap prog 3 (unitElem (H:=Unit)) w.heap.size ys.length (Sd ys)):=a3;clear a3;go_wp2_with(at_mapUpdate;refine wpList_mapUpdate_own _ rfl _ _ _ 345 rfl 3 346 YB underlying345 (unitElem (H:=Unit)) w.heap.size ys.length _ rfl W au _ _ _ rfl rfl ac _ [] unitElem_mk ?_);intro w1 Y h;have ad:Hid (Bl w w1):=j.A (gI.A h) (λn hn=>by cases hn;exact jr);have aw:Hid (si w1 (w.heap.size+1) w.heap.size (zs.take (k+1))):=by have h1:=T.lt;have h2:=T.ltb;refine⟨?_,((gI.A h).cell h1 bz).H T.var,af h1 h.size,af h2 h.size⟩;rw[Ht.o,T7,aO];exact Y
   clear Y h W T Ht j;go_wp2;go_roundw
   case rel=>exact⟨k+1,C,iq,ad,aw⟩
   exact iD
  have ht:zs.take k=zs:=bI C;rw[ht]at Z;have T:Hid (si wr (w.heap.size+1) w.heap.size zs):=Z;have Hb:Hid (Bl w wr):=j;clear Z j ht;go_wp2;rename_i wx;go_loopw[27](λi wr=>∃k:Nat,k<=L.length/\i=.int .i64 k/\Bl w wr/\si wr (w.heap.size+1) w.heap.size zs/\((L.take k).all λc=>c.any λu=>decide (u∈zs))=true) λi _=>L.length-(Go.RowKit.intOf i).toNat
  case atStart=>exact⟨0,jR,rfl,Hb,T,bz⟩
  clear T Hb;obtain⟨m,hm,rfl,j,Z,a4⟩:=hrel;have T:Hid (si wr (w.heap.size+1) w.heap.size zs):=Z;have a5:Hid (((L.take m).all λc=>c.any λu=>decide (u∈zs))=true):=a4;clear Z a4;by_cases A:m<L.length
  .obtain⟨b2,o2,b7,ag,aY,ai⟩:=Hv.some C;obtain⟨mv,ak,al⟩:=ai m A;have ab:=(j.cell aY).H ak;simp only[bO]at ag;obtain⟨rfl,a6,rfl⟩:=ag;clear a6 ai ak;have am:=HL _ (aL A);have an:Hid (Sl wr mv (L[m].map (Value.int .i64))):=al.bl j;have F:=(show Hid _ from am);have Ht:Hid (L.take (m+1)=L.take m++[L[m]]):=aM A;have ap:Hid (L[m]∈L):=aL A;clear am al;generalize L[m]=ch at*
   cases M:(ch.any λu=>decide (u∈zs))
   .have y:=(show Hid _ from M);clear M;go_wp2_with fail;refine(sH mv ch _ _ zs _ an T F.2 F.1).L ?_;rw[y.o];rintro e w'⟨rfl,Q⟩;go_wp2;go_ret;refine⟨mn ?_,j.H Q⟩
    symm
    rw[List.all_eq_false];exact⟨ch,ap,om y.o⟩
   have y:=(show Hid _ from M);clear M;go_wp2_with fail;refine(sH mv ch _ _ zs _ an T F.2 F.1).L ?_;rw[y.o];rintro e w'⟨rfl,Q⟩;go_wp2;go_roundw
   case rel=>refine⟨m+1,C,iq,j.H Q,T.bl Q,?_⟩;rw[Ht.o,List.all_append,a5.o,List.all_cons,y.o];rfl
   case measure=>exact iD
  go_wp2;go_ret;refine⟨mn ?_,j⟩;have:=a5.o;rw[bI C]at this;exact this.symm
def qP(L:List (List Int))(zs:List Int):Bool:=L.all λc=>c.any λu=>decide (u∈zs)
def wV(L:List (List Int))(x:Int)(zs:List Int):Int:=
 if x≠-1/\pC L x≠0 then pC L x else if qP (L.map (rm x)) zs=true then 0 else 5
def Er(L:List (List Int))(x:Int)(zs:List Int):List (List Int):=if wV L x zs=0 then L.map (rm x)else []
def Zn(base:Nat)(w:World)(r:Value)(R:List (List Int)):Prop:=
 (r= OO/\R=[])\/∃g n ms,r=.slice (G g) n n/\mJ base w g n ms R
def YI{c:List Int}(h:tz c)(x):tz (rm x c):=λz j=>h z (aU.1 j).1
def XX(x)(c):(rm x c).length<=c.length:=bF _ _
theorem Im(v u)(L)(x)(zs)(w)(hv:G6 w v L)(hu:Sl w u (zs.map I))(Y:L.length<=1000)(hs:∀c∈L,c.length<=1000/\tz c)(hz:zs.length<=1000)(hw:tz zs):iU 164 #[v,I x,u] w λe w'=>∃r,e=gU (.tuple #[r,I (wV L x zs)])/\Bl w w'/\Zn w.heap.size w' r (Er L x zs):=by
 have T:∀c∈L,c.length<=1000:=λc hc=>(hs c hc).1;by_cases H:x≠-1/\pC L x≠0
 .have hx:(x !=-1)=true:=by simpa using H.1
  have y:wV L x zs=pC L x:=by simp[wV,H]
  have Z:Er L x zs=[]:=by simp[Er,y,H.2]
  have hl:(pC L x !=0)=true:=je H.2;rw[y,Z];clear H y Z;generalize hq:pC L x=q at*;have Hq:=(show Hid _ from hq);clear hq;go_enter func164,ntmps164;go_wp2_with fail;refine(wB v L x _ hv Y T).L ?_;rw[Hq.o];rintro e w'⟨rfl,rfl⟩;go_wp2;go_ret2;exact⟨_,rfl,jZ,.inl ⟨rfl,rfl⟩⟩
 .have y:wV L x zs=if qP (L.map (rm x)) zs=true then 0 else 5:=by simp only[wV,az H]
  have M:∀w1,Bl w w1->iU 218 #[v,I x] w1 λe w'=>∃g ms,e=gU (gK (G g) L.length L.length)/\Bl w1 w'/\mJ w1.heap.size w' g L.length ms (L.map (rm x)):=λw1 hb=>FK v L x w1 (hv.bl hb) Y T;have a0:=(show Hid _ from M);have W:=(show Hid _ from y);clear M y;have a1:(L.map (rm x)).length<=1000:=je Y;have a4:Hid (∀c∈L.map (rm x),c.length<=1000/\tz c):=by intro c hc;obtain⟨d,hd,rfl⟩:=aD.1 hc;exact⟨aF (XX x d) (hs d hd).1,YI (hs d hd).2 x⟩
  cases j:qP (L.map (rm x)) zs
  case' false=>
   have Q:Hid (((L.map (rm x)).all λc=>c.any λu=>decide (u∈zs))=false):=j;have A:Hid (wV L x zs=5/\Er L x zs=[]):=by
    have h5:wV L x zs=5:=by rw[W.o,j];simp
    exact⟨h5,by simp[Er,h5]⟩
  case' true=>
   have Q:Hid (((L.map (rm x)).all λc=>c.any λu=>decide (u∈zs))=true):=j;have A:Hid (wV L x zs=0/\Er L x zs=L.map (rm x)):=by
    have h5:wV L x zs=0:=by rw[W.o,j];simp
    exact⟨h5,by simp[Er,h5]⟩
  all_goals
   clear j W a1;by_cases F:x=-1
   case' pos=>have hx:(x !=-1)=false:=mZ F;clear F H;go_enter func164,ntmps164;go_wp2_with fail
   case' neg=>
    have hx:(x !=-1)=true:=mZ F;have Hl:Hid (pC L x=0):=by unfold Hid;by_cases h:pC L x=0;exact h;exact absurd ⟨F,h⟩ H
    clear F H;go_enter func164,ntmps164;go_wp2_with fail;refine(wB v L x _ hv Y T).L ?_;rw[Hl.o];rintro e w'⟨rfl,rfl⟩;go_wp2_with fail
   all_goals
    refine(a0 _ jZ).L ?_;rintro e w1⟨g,ms,rfl,a2,R1⟩;have HR:=(show Hid _ from R1);clear R1;go_wp2_with fail;refine(A9 _ u _ zs _ HR.XM (hu.bl a2) (je Y) a4 hz hw).L ?_;rw[Q.o];rintro e w2⟨rfl,a3⟩;go_wp2;go_ret2;exact⟨_,by rw[A.1];rfl,a2.H a3,by rw[A.2];first|exact .inl ⟨rfl,rfl⟩|exact .inr ⟨_,_,_,rfl,HR.bl a3⟩⟩
theorem th(us:List Int)(u:Int):∀d,jd (us++[u]) d=match(jd us d).2 with
 |[]=>((jd us d).1,[])
 |x::r=>if x=u then((jd us d).1++[u],r)else((jd us d).1,x::r):=by
 induction us with
 |nil=>
  intro d
  cases d with
  |nil=>rfl
  |cons x r=>simp[jd]
 |cons v us j=>
  intro d
  cases d with
  |nil=>exact j []
  |cons x r=>
   simp only[dV,jd];by_cases h:x=v
   .rw[aE h,aE h,j];generalize jd us r=z;obtain⟨F,A⟩:=z
    cases A with
    |nil=>rfl
    |cons y A=>simp only;split<;>rfl
   simp_all
def Ex(h:(jd us d).2=[]):jd (us++[u]) d=((jd us d).1,[]):=by rw[th,h]
def FF(h:(jd us d).2=u::r):jd (us++[u]) d=((jd us d).1++[u],r):=by rw[th,h];simp
def DL(h:(jd us d).2=x::r)(j:x≠u):jd (us++[u]) d=((jd us d).1,x::r):=by rw[th,h];simp[j]
theorem qM:∀(us d:List Int),(jd us d).2=d.drop (jd us d).1.length/\(jd us d).1.length<=d.length/\(jd us d).1.length<=us.length
 |[],d=>by simp[jd]
 |u::us,[]=>by have:=qM us [];simp only[jd];simp_all
 |u::us,x::d=>by
  simp only[jd];by_cases h:x=u
  .rw[aE h];have:=qM us d;simp_all
  rw[az h];have:=qM us (x::d);exact⟨this.1,this.2.1,aF this.2.2 bz⟩
def Dt(b o c:Nat)(d:List Int)(v:Value)(m:Nat):Prop:=
 m<=d.length/\∃ad,v=.slice ad (d.length-m) (c-m)/\(m<d.length->ad=some (U b (o+m)))
def Rd.dt{w:World}{t:Nat}(h:Rd w cP t 5 v (d.map B8)):∃b o c,Dt b o c d v 0/\d.length<=c/\c<=maxLen/\(0<d.length->b<w.heap.size/\∀j x,d[j]?=some x->w.cell? (U b (o+j))=some (B8 x)):=by
 obtain⟨rfl,h⟩|⟨b,o,c,y,f,A,M,F,H,L,Q⟩:=h
 .have:d=[]:=by simpa using h
  subst this;exact⟨0,0,0,⟨jR,none,rfl,λh=>mR h⟩,jR,jR,λh=>mR h⟩
 rw[ay]at A H;refine⟨b,o,c,⟨jR,_,A,λ_=>rfl⟩,H,L,λ_=>⟨(ae.1 F).1,λj x T=>?_⟩⟩;rw[ax w b _ y 5 f F];simp_all
def GU(L:List (List Int))(d)(k)(h:k<L.length):within (L.drop k) d=if(jd L[k] d).1=[]then none else(within (L.drop (k+1)) (jd L[k] d).2).map ((jd L[k] d).1::·):=by rw[cm h];rfl
def yA(base:Nat)(w:World)(n:Nat)(e:Ending):Option (List (List Int))->Prop
 |none=>e=.returned (.tuple #[OO,.bool false])
 |some R=>∃g ms,e=.returned (.tuple #[.slice (G g) n n,.bool true])/\mJ base w g n ms R
theorem Bo(v)(L)(dv)(d)(w)(hv:G6 w v L){t:Nat}(hd:Rd w cP t 5 dv (d.map B8))(hB:nX d)(h0:0<L.length)(hn:L.length<=1000)(hs:∀c∈L,c.length<=1000):iU 295 #[v,dv] w λe w'=>yA w.heap.size w' L.length e (within L d)/\Bl w w':=by
 obtain⟨b4,hi,aa,bv,bw⟩:=fx Tryz.Ju;obtain⟨i3,ji,bx,bA,bB⟩:=fx Tryz.tJ;obtain⟨b,o,c,rfl,hb,hc⟩:=hv.some h0;obtain⟨bd,od,cd,⟨_,ad,rfl,mC⟩,cq,cr,a5⟩:=hd.dt;obtain⟨Y,hY⟩:=gG (within L d);rw[hY];obtain⟨HY,Hd,bC,bD⟩:=kN hY a5 hB mC;clear hv hd hY a5 hB mC;have ar:Hid (b4.bytes*L.length<=281474976710656):=by rw[bw];unfold Hid;omega
 have au:Hid (L.length<=maxLen):=nZ;go_enter func295,ntmps295;go_wp2_with(at_make;refine wpList_make_full _ rfl _ _ 89 rfl w.heap.size 24 b4 _ 1 underlying89 hi aa bv _ _ _ _ L.length rfl rfl rfl rfl ar au bz ?_);intro w1 al F;have b5:Bl w w1:=(gI.A F).u9 bz;have R0:mJ w.heap.size w1 w.heap.size L.length _ _:=mJ.Eu (by simpa [toList_madeCells_one]using al);obtain⟨b6,b7⟩:=gO R0 b5;clear al F b5 R0;go_wp2;go_loopw[1,16](λx i wr=>∃(k m:Nat) (rows:List (List Int)) (ms:List Value),k<=L.length/\i=I k/\rows.length=k/\Hid (Dt bd od cd d x m)/\Hid (Y=(within (L.drop k) (d.drop m)).map (rows++·))/\Hid (Bl w wr)/\Hid (mJ w.heap.size wr w.heap.size L.length ms (rows++List.replicate (L.length-k) []))) λ_ i _=>L.length-(Go.RowKit.intOf i).toNat
 case atStart=>exact⟨0,0,[],_,jR,rfl,rfl,⟨jR,ad,rfl,bD⟩,by show Y=_;rw[<-HY.o];simp,b7,b6⟩
 clear b6 b7;obtain⟨k,m,rows,ms,hk,rfl,b8,HD,HE,Z,Q⟩:=hrel;obtain⟨hm,bE,rfl,am⟩:=HD.o;have b9:=gN am;clear HD am;by_cases jt:k<L.length
 .obtain⟨mv,ba,av⟩:=hc k jt;have hz:=hs _ (aL jt);have aw:=(Z.cell hb).H ba;have hE:=HE.o;rw[GU L _ k jt]at hE;have HE:=gN hE;clear hE;obtain⟨a9,c9,an⟩:=av.len;simp only[ay]at an;have bR:=gN av;generalize L[k]=ch at*;subst an;clear ba av hs hc;have cg:(k:Int)<(L.length:Int):=C;go_wp2;go_loopw[1,23](λx i wx=>∃(j A:Nat) (ms:List Value),j<=ch.length/\i=I j/\Hid (Dt bd od cd d x A)/\Hid ((jd (ch.take j) (d.drop m)).2=d.drop A)/\Hid (Bl w wx)/\Hid (mJ w.heap.size wx w.heap.size L.length ms ((rows++List.replicate (L.length-k) []).set k (jd (ch.take j) (d.drop m)).1))) λ_ i _=>ch.length-(Go.RowKit.intOf i).toNat
  case atStart=>
   refine⟨0,m,ms,jR,rfl,⟨hm,bE,rfl,b9⟩,rfl,Z,?_⟩;have e1:(rows++List.replicate (L.length-k) []).set k (jd (ch.take 0) (d.drop m)).1=rows++List.replicate (L.length-k) []:=by show List.set _ k []=_;rw[eA _ _ C,b8,dR,show L.length-k=(L.length-k-1)+1 by omega,gB];rfl
   rw[e1];exact Q
  case round=>
   clear Z Q aw;obtain⟨j,A,ms,hj,rfl,bb,HW,Z,Q⟩:=hrel;obtain⟨aY,ct,rfl,ap⟩:=bb.o;have a2:=gN ap;clear bb ap;by_cases b0:j<ch.length
   .have cx:(j:Int)<(ch.length:Int):=C;obtain⟨a8,c8,cS,aa⟩|⟨b1,o1,c1,bc,be,b2⟩:=bR.o
    .simp at aa;simp[aa]at b0
    have bg:=(Z.cell be).H (b2 j (je b0));simp only[dC]at bg;simp only[bO]at bc;obtain⟨rfl,bV,rfl⟩:=bc;clear bV b2;have a3:=aM b0;have a0:=(qM (ch.take j) (d.drop m)).2.2;rw[bH]at a0;have cV:=af be Z.lt;by_cases T:A<d.length
    .have ab:=cm T;have hr:(jd (ch.take j) (d.drop m)).2=d[A]::d.drop (A+1):=kz HW.o ab;obtain⟨bi,a5⟩:=Hd C;have hx:=a5 A d[A] (ah T);have bW:=bC d[A] (aL T);have bl:=(Z.cell bi).H hx;have bm:=a2 T;subst bm;have ci:=af bi Z.lt;have bn:(0:Int)<((d.length-A:Nat):Int):=C;simp only[B8]at bl;have bX:IntKind.i64.wrap d[A]=d[A]:=Z3 _ C;clear hx a5;by_cases he:d[A]=ch[j]
     .have W:Hid (jd (ch.take (j+1)) (d.drop m)=((jd (ch.take j) (d.drop m)).1++[ch[j]],d.drop (A+1))):=by unfold Hid;rw[a3];exact FF (j9 he hr)
      have c0:(rows++List.replicate (L.length-k) ([]:List Int)).length=L.length:=ik;have a4:k<ms.length:=by rw[Q.ze];exact jt
      have ac:k<(rows++List.replicate (L.length-k) ([]:List Int)).length:=C;have ag:=Q.ij.cellAt k C;rw[ah a4]at ag;have M:=Q.row k a4 (je ac);simp only[cA]at M;generalize ai:ms[k]=mk at*;have bo:=gN ai;clear ai a3 hr ab;have aq:=gN M;have c2:=Q.ij.lt w.heap.size rfl;generalize bp:(jd (ch.take j) (d.drop m)).1=rr at*;have d0:=gN bp;clear bp M;have ar:Hid ((rr.length+1)*8<=140737488355328):=nC;have au:Hid (rr.length+1<=maxLen):=nZ;have ck:=Z.lt;rw[he]at bl bX bW;have cl:((1:Nat):Int)<=((cd-A:Nat):Int):=C;have cn:(1:Int)<=((d.length-A:Nat):Int):=C;clear he;generalize ch[j]=y at*;go_wp2_with(at_builtin;refine fm _ rfl _ _ 24 rfl w.heap.size 3 i3 (I 0) 1 8 underlying24 ji bx bA bB rfl bT mk rr.length _ rfl (aq.alloc _) (U wr.heap.size 0) 1 1 [I y] rfl rfl (ZV _ _ _) tx bT au ar ik (wr.heap.size+1) bz ?_);intro g' cap w1 a6 F bq co;have HP:=Q.DM Z jt a4 (je ac) bo bz F bq a6;obtain⟨b2,d1,R1,b1⟩:=HP;rw[fk]at R1;obtain⟨c3,c4⟩:=gO R1 b1;clear a6 F bq Q aq R1 b1 bo ag bg;go_wp2;refine⟨⟨j+1,A+1,_,C,bz,⟨C,_,by rw[fs,fs],λh=>by rw[az C,cG]⟩,by rw[W.o];rfl,c4,jf W.o c3⟩,iD⟩
     have W:Hid (jd (ch.take (j+1)) (d.drop m)=((jd (ch.take j) (d.drop m)).1,d[A]::d.drop (A+1))):=by unfold Hid;rw[a3];exact DL hr he
     have c5:=gN ab;clear a3 hr ab a0;generalize ch[j]=y at*;generalize d[A]=x at*;have d2:(x==y)=false:=je he;go_wp2;go_roundw
     case rel=>exact⟨j+1,A,ms,C,iq,⟨aY,_,rfl,a2⟩,by rw[W.o];exact c5.symm,Z,jf W.o Q⟩
     exact iD
    have c6:¬(0:Int)<((d.length-A:Nat):Int):=C;have hr:(jd (ch.take j) (d.drop m)).2=[]:=by rw[HW.o];exact eo C
    have W:Hid (jd (ch.take (j+1)) (d.drop m)=((jd (ch.take j) (d.drop m)).1,[])):=by unfold Hid;rw[a3];exact Ex hr
    have Hr:=gN hr;clear a3 hr a0;go_wp2;go_roundw
    case rel=>exact⟨j+1,A,ms,C,iq,⟨aY,_,rfl,a2⟩,by rw[W.o,<-HW.o,Hr.o];rfl,Z,jf W.o Q⟩
    exact iD
   have c7:j=ch.length:=C;subst c7;have ca:¬(ch.length:Int)<(ch.length:Int):=C;rw[bZ]at HW Q;have c0:(rows++List.replicate (L.length-k) ([]:List Int)).length=L.length:=ik;have a4:k<ms.length:=by rw[Q.ze];exact jt
   have ac:k<(rows++List.replicate (L.length-k) ([]:List Int)).length:=C;have ag:=Q.ij.cellAt k C;rw[ah a4]at ag;have M:=Q.row k a4 (je ac);simp only[cA]at M;have c2:=Q.ij.lt w.heap.size rfl;generalize ai:ms[k]=mk at*;obtain⟨ma,mc,rfl⟩:=jk M;clear M ai;have a1:=HE.o;rw[HW.o]at a1;generalize (jd ch (d.drop m)).1=rr at*;by_cases ak:rr=[]
   .rw[aE ak]at a1;have cb:=gN a1;subst ak;clear HE a1 HW;go_wp2;go_ret2;rw[cb.o];exact⟨rfl,Z⟩
   rw[az ak]at a1;have bs:¬((rr.length:Nat):Int)=0:=by intro e;exact ak (aW.1 C)
   have cp:(((rr.length:Nat):Int)==0)=false:=je bs;have cc:Hid (Y=(within (L.drop (k+1)) (d.drop A)).map ((rows++[rr])++·)):=by
    unfold Hid;rw[a1]
    cases within (L.drop (k+1)) (d.drop A)<;>simp
   have ce:Hid (mJ w.heap.size wr w.heap.size L.length ms ((rows++[rr])++List.replicate (L.length-(k+1)) [])):=by
    have e1:(rows++List.replicate (L.length-k) []).set k rr=(rows++[rr])++List.replicate (L.length-(k+1)) []:=by rw[eA _ _ C,b8,dR,show L.length-k=(L.length-(k+1))+1 by omega,gB];simp
    unfold Hid;rw[<-e1];exact Q
   clear HE a1 HW Q;go_wp2;go_roundw
   case rel=>exact⟨k+1,A,rows++[rr],ms,C,iq,ik,⟨aY,_,rfl,a2⟩,cc,Z,ce⟩
   exact iD
 have cf:k=L.length:=C;subst cf;have ca:¬(L.length:Int)<(L.length:Int):=C;have hE:=HE.o;rw[eQ]at hE;rw[dR,List.replicate_zero,cF]at Q;by_cases T:m<d.length
 .have bn:(0:Int)<((d.length-m:Nat):Int):=C;have a7:Y=none:=by rw[hE];unfold within;rw[az (by intro e;have:=Z5 List.length e;simp at this;omega)];rfl
  have b3:=gN a7;clear hE HE a7;go_wp2;go_ret2;rw[b3.o];exact⟨rfl,Z⟩
 have c6:¬(0:Int)<((d.length-m:Nat):Int):=C;have a7:Y=some rows:=by rw[hE];unfold within;rw[aE (eo C)];simp
 have b3:=gN a7;clear hE HE a7;go_wp2;go_ret2;rw[b3.o];exact⟨⟨_,_,rfl,Q⟩,Z⟩
def L7(w):Calls prog 265 #[OO,I 0] w λe w'=>e=gU OO/\w'=w:=by go_wp2;go_ret;simp_all
def I8(w):Calls prog 235 #[OO] w λe w'=>e=gU OO/\w'=w:=by have j:=gN L7;go_wp2;refine Z6 1 ?_;rw[ZZ];go_wp2_with(go_at_call 265;refine gS (j _) λw' h=>?_;have y:=h.symm;clear h;subst y);refine Z6 1 ?_;rw[ZZ];go_wp2;go_ret;exact⟨rfl,rfl⟩
theorem all_nil(w):iU 191 #[OO] w λe w'=>e=gU OO/\w'=w:=by go_enter func191,ntmps191;go_wp2_with(refine gS ((gN I8).o _) λw' h=>?_;have j:=h.symm;clear h;subst j);go_ret;exact⟨rfl,rfl⟩
theorem NM(w):iU 304 #[OO] w λe w'=>e=gU OO/\w'=w:=by go_enter func304,ntmps304;go_wp2_with(refine gS ((gN all_nil).o _) λw' h=>?_;have j:=h.symm;clear h;subst j);refine Z6 1 ?_;rw[ZZ];go_wp2;go_ret;exact⟨rfl,rfl⟩
theorem MG{w:World}{tc:Nat}{lay:List (List Int)}(h:qh w cP tc v lay)(n1:1<=lay.length)(n3:lay.length<=3)(T:∀ch∈lay,1<=ch.length/\ch.length<=3)(hB:nX (kB lay)):iU 304 #[v] w λe w'=>∃a c,e=gU (gK a (kB lay).length c)/\w'.ownsRow w.heap.size 5 1 (gK a (kB lay).length c) (kB lay).length ((kB lay).map B8)/\Bl w w':=by
 obtain⟨i5,ji,a1,a2,a3⟩:=fx Tryz.Dl;have HA:=gN (Eb h n1 n3 T);have ab:(kB lay).length<=9:=by have:=IQ (lay:=lay) (λch hc=>(T ch hc).2) lay.length;unfold tk at this;rw[bZ]at this;show lay.flatten.length<=9;omega
 obtain⟨g0,ak,ac,f0,rfl,_⟩:=h;clear T;generalize kB lay=us at*;have a4:=gN hB;clear hB;go_enter func304,ntmps304;go_wp2_with(go_at_call 191;refine HA.L ?_;rintro e W⟨g,cap,rfl,ho,Y⟩;obtain⟨HO,HB⟩:=gO ho Y;clear HA ho Y);go_loopw[3,9](λv i wr=>∃j:Nat,j<=us.length/\i=I j/\Hid (wr.ownsRow W.heap.size 5 1 v j ((us.take j).map B8))/\Hid (Bl W wr)) λ_ i _=>us.length-(Go.RowKit.intOf i).toNat
 case atStart=>exact⟨0,jR,rfl,m7,jZ⟩
 obtain⟨j,hj,rfl,F,L⟩:=hrel;by_cases jt:j<us.length
 .have ad:(j:Int)<(us.length:Int):=C;have y:=HO.cellAt j C;rw[aK,ah jt]at y;have Z:=(HO.lt g rfl).2;have k1:=(L.cell Z).H y;simp only[bG]at k1;have ag:=af Z L.lt;have al:=a4 us[j] (aL jt);have am:IntKind.u8.wrap us[j]=us[j]:=IntWalk.u8_in _ C;have HT:=gN (u7 us B8 j jt);have a5:Hid (j+1<=maxLen):=nZ;have a6:Hid ((j+1)*1<=140737488355328):=nC;generalize us[j]=x at*;clear y;go_wp2_with(at_builtin;refine fm _ rfl _ _ 40 rfl W.heap.size 5 i5 (.int .u8 0) 1 1 underlying40 ji a1 a2 a3 rfl bT u3 j _ rfl (F.alloc _) (U wr.heap.size 0) 1 1 [.int .u8 x] rfl rfl (ZV _ _ _) tx bT a5 a6 (by have:=L.lt;simp;omega) (wr.heap.size+1) bz ?_);intro g' a0 w3 Q M a7 ai;have a8:Hid (Bl W w3):=(L.alloc _).A (gI.A M) λk e=>(F.lt k e.symm).1;have a9:Hid (w3.ownsRow W.heap.size 5 1 (gK (G g') (j+1) a0) (j+1) ((us.take (j+1)).map B8)):=by unfold Hid;rw[HT.o];simpa [fS,B8]using Q
  clear Q M a7;go_wp2;go_roundw
  case rel=>exact⟨j+1,C,bz,a9,a8⟩
  exact iD
 have an:¬((j:Int)<(us.length:Int)):=C;have aa:j=us.length:=C;subst aa;rw[bZ]at F;obtain⟨a,c,rfl⟩:=jk F;go_wp2;go_ret;exact⟨a,c,rfl,qX F HB.lt,HB.H L⟩
def mJ.lay{base:Nat}{w:World}(h:mJ base w g n ms R){t:Nat}(L:∀b,base<=b->cP b=t):qh w cP t (gK (G g) n n) R:=by
 have W:=h.ze;obtain⟨e,_⟩|⟨g',cap,j,e,Y,M,h1,Z,h3,h4⟩:=h.ij.2
 .simp at e
 simp at e;obtain⟨rfl,rfl⟩:=e;refine⟨g,j,n,(0,0),by rw[h.len],by rw[h.len];exact jr,Z,L g Y,M,λk ch A=>?_⟩;have y:=(aj.1 A).1;have Q:=h.len;have T:=h.ij.cellAt k C;rw[ax w g k j 24 (0,0) M]at T;refine⟨ms[k]' C,by rw[T,ah C],?_⟩;have F:=h.row k C y;have e1:R[k]=ch:=by rw[ah y]at A;simpa using A
 rw[e1]at F;exact Rd.qW F λb H=>L b (F.lt b H).1
def Rd.sl{w:World}{t:Nat}(h:Rd w cP t e v cs):Sl w v cs:=by
 obtain⟨rfl,rfl⟩|⟨b,o,c,y,f,rfl,L,A,M,Q,F⟩:=h
 .exact .inl ⟨none,0,rfl,rfl⟩
 exact .inr ⟨b,o,c,rfl,(ae.1 A).1,λj H=>by rw[ax w b _ y e f A];exact F j _ (ah H)⟩
def qh.XM{w:World}{t:Nat}{lay:List (List Int)}(h:qh w cP t v lay):G6 w v lay:=by
 obtain⟨g,y,cap,f,rfl,h1,h2,h3,M,Q⟩:=h;have T:lay.length<=y.size:=by
  by_cases h0:lay.length=0
  .omega
  obtain⟨x,A,_⟩:=Q (lay.length-1) lay[lay.length-1] (ah C);have:=(ae.1 A).1;omega
 have F:(y.toList.take lay.length).length=lay.length:=by rw[bH];simp;omega
 have H:∀i (h:i<(y.toList.take lay.length).length),y[i]?=some (y.toList.take lay.length)[i]:=λi h=>by rw[dM,Array.getElem_toList];exact dW C
 refine⟨y.toList.take lay.length,.inr ⟨g,0,cap,mT F,(ae.1 M).1,λj W=>?_⟩,F,λi Y L=>?_⟩
 .rw[ax w g _ y 24 f M,bP];exact H j W
 obtain⟨x,A,Z⟩:=Q i lay[i] (ah L);rw[H i Y]at A;simp only[aJ]at A;rw[A];exact Z.sl
def Tryz.JI:Go.Shelf.Ren:=⟨fun|5=>293|7=>312|n=>n,fun|23=>104|25=>3|3=>222|4=>4|20=>20|n=>n,fun|n=>n⟩
def Tryz.RK:Go.Proofs.SlLaysW.n5 prog Tryz.JI:={
 mixed:=by kernel_rfl
 f5:=⟨Tryz.f293.name,by decide,func293.trans (congrArg some (by kernel_rfl))⟩
 f7:=func312.trans (congrArg some (by kernel_rfl))
 t4:=underlying4
 a4:=Tryz.isAgg4
 z4:=Tryz.sizeOf4
 v4:=Tryz.zeroValue4
 t20:=underlying20
 a20:=Tryz.isAgg20
 z20:=Tryz.sizeOf20
 v20:=Tryz.zeroValue20
 t23:=underlying104
 a23:=Tryz.isAgg104
 z23:=Tryz.sizeOf104
 v23:=Tryz.zeroValue104}
def Tryz.xA:Go.Shelf.Ren:=⟨fun|7=>316|10=>317|n=>n,fun|23=>101|26=>3|3=>215|28=>326|0=>0|27=>325|33=>131|4=>4|n=>n,fun|n=>n⟩
def Tryz.QZ:Go.Proofs.SlLaysZI.n7 prog Tryz.xA:={
 mixed:=by kernel_rfl
 f7:=⟨Tryz.f316.name,by decide,func316.trans (congrArg some (by kernel_rfl))⟩
 f10:=⟨Tryz.f317.name,by decide,func317.trans (congrArg some (by kernel_rfl))⟩
 t0:=underlying0
 a0:=Tryz.isAgg0
 z0:=Tryz.sizeOf0
 v0:=Tryz.zeroValue0
 t4:=underlying4
 a4:=Tryz.isAgg4
 z4:=Tryz.sizeOf4
 v4:=Tryz.zeroValue4
 t23:=underlying101
 a23:=Tryz.isAgg101
 z23:=Tryz.sizeOf101
 v23:=Tryz.zeroValue101
 t26:=underlying3
 a26:=Tryz.isAgg3
 z26:=Tryz.sizeOf3
 v26:=Tryz.zeroValue3
 t27:=underlying325
 a27:=Tryz.isAgg325
 z27:=Tryz.sizeOf325
 v27:=Tryz.zeroValue325
 t28:=underlying326
 a28:=Tryz.isAgg326
 z28:=Tryz.sizeOf326
 v28:=Tryz.zeroValue326
 t33:=underlying131
 a33:=Tryz.isAgg131
 z33:=Tryz.sizeOf131
 v33:=Tryz.zeroValue131}
def Tryz.Ef:Go.Shelf.Ren:=⟨fun|8=>266|11=>286|n=>n,fun|26=>3|28=>326|24=>24|0=>0|33=>131|4=>4|n=>n,fun|n=>n⟩
def Tryz.Fz:Go.Proofs.SlLaysZI.n8 prog Tryz.Ef:={
 mixed:=by kernel_rfl
 f8:=⟨Tryz.f266.name,by decide,func266.trans (congrArg some (by kernel_rfl))⟩
 f11:=⟨Tryz.f286.name,by decide,func286.trans (congrArg some (by kernel_rfl))⟩
 t0:=underlying0
 a0:=Tryz.isAgg0
 z0:=Tryz.sizeOf0
 v0:=Tryz.zeroValue0
 t24:=underlying24
 a24:=Tryz.isAgg24
 z24:=Tryz.sizeOf24
 v24:=Tryz.zeroValue24
 t26:=underlying3
 a26:=Tryz.isAgg3
 z26:=Tryz.sizeOf3
 v26:=Tryz.zeroValue3
 t28:=underlying326
 a28:=Tryz.isAgg326
 z28:=Tryz.sizeOf326
 v28:=Tryz.zeroValue326
 i26:=by kernel_rfl}
def Nu(mb)(W):iU 316 #[.map mb] W λe w'=>e=gU (.func (.func 317) #[] #[O W.heap.size])/\w'=W.alloc (ig #[.map mb] 101):=
 callsIn_wide.1 (AnyZI.keys_in Tryz.QZ Fence.wide 5 trivial rfl mb W)
def GR{w:World}{g0 t:Nat}{zz:List (Int×An)}(h:oS w cP g0 t v zz)(hk:∀z∈zz,0<=z.1/\z.1<=1000000000000000)(hl:zz.length<=1000)(g)(T:g<w.heap.size)(W:w.cell? (U g 0)=some v):iU 266 #[.func (.func 317) #[] #[O g]] w λe w'=>∃(v:Value) (us:List Int),e=gU v/\w'.ownsRow w.heap.size 3 1 v us.length (us.map I)/\us.Perm (zz.map (·.1))/\Bl w w':=by
 obtain⟨rfl,rfl⟩|⟨gm,iC,l,rfl,_,h⟩:=h
 .have j:=AnyZI.keys_gives_nil (ρ:=Tryz.xA) {Tryz.QZ with} Fence.wide 3 trivial rfl g w T W;have H:=AnyZI.collect_in Tryz.Fz Fence.wide 5 trivial trivial rfl C 317 #[O g] trivial (enters_of func317 iu rfl) _ _ bT bT _ j;change CallsIn _ _ prog 266 _ _ _ at H;refine(callsIn_wide.1 H).L ?_;rintro e w'⟨v,Q,rfl,rfl,y,M,A⟩;exact⟨v,[],rfl,y,fK _,A⟩
 have F:l.map (·.k)=zz.map (·.1):=by
  refine bJ λi=>?_;rw[aK,aK];have hl:=h.len;by_cases Y:i<l.length
  .have:=h.kY i l[i] zz[i] (ah Y) (ah C);rw[ah Y,ah C];exact Z5 some this.1
  rw[cB C,cB C];rfl
 have Z:=h.len;obtain⟨D,h1,h2,h3⟩:=Is h.mp h.bo h.nd (by rw[F];exact h.ky) (λe he=>by
  have:e.k∈zz.map (·.1):=by rw[<-F];exact aD.2 ⟨e,he,rfl⟩
  obtain⟨z,hz,e1⟩:=aD.1 this
  rw[<-e1];exact hk z hz) C
 have j:SeqGives Fence.wide 3 prog 317 #[O g] encZ (λQ=>Q.Perm (intKeys D)) (Maps.size D) w:=
  AnyZI.keys_gives (ρ:=Tryz.xA) {Tryz.QZ with} Fence.wide _ trivial rfl C g gm l.length D _ T W h1
 have H:=AnyZI.collect_in Tryz.Fz Fence.wide 5 trivial trivial rfl C 317 #[O g] trivial (enters_of func317 iu rfl) _ _ (aF h3 (aF (show l.length<=1000 by omega) bT)) C _ j;change CallsIn _ _ prog 266 _ _ _ at H;refine(callsIn_wide.1 H).L ?_;rintro e w'⟨v,Q,rfl,hS,y,M,A⟩;exact⟨v,Q,rfl,y,by rw[<-F];exact hS.H h2,A⟩
section
variable{w:World}{t:Nat}
structure A6(X:Cx):Prop where
 ids:∀z∈X.mv.a.D,0<=z.1/\z.1<=255
 len:X.mv.a.D.length<=100
theorem tS(h:jy w cP t p qb X V)(Q:A6 X):iU 314 #[ptr p] w λe w'=>∃(a:Option Addr) (n:Nat) (us:List Int),e=gU (gK a us.length n)/\w'.ownsRow w.heap.size 3 1 (gK a us.length n) us.length (us.map I)/\us.Perm X.jh/\Bl w w':=by
 have Y:=gN Nu;have y:=(Bl.refl w).alloc (ig #[V.sl.av] 101);have T:=h.bl y (fz:=cP) ib;have A:=gN (GR T.r.sl.D (λz Z=>by have:=Q.ids z Z;omega) (gM Q.len) w.heap.size bz (ax _ w.heap.size 0 _ 101 (0,0) (ao w _)));have F:=h.cellAt 40 rfl;have lp:=h.A;obtain⟨mb,H⟩:∃mb,V.sl.av=.map mb:=by
  obtain⟨e,_⟩|⟨gm,_,_,e,_⟩:=h.r.sl.D
  .exact⟨_,e⟩
  exact⟨_,e⟩
 rw[H]at F A y;have BA:=gN y;clear h T y;go_enter func314,ntmps314;go_wp2_with(first|(go_at_call 316;refine(Y _ _).L ?_;rintro e w'⟨rfl,rfl⟩)|(go_at_call 266;refine A.L ?_;rintro e w2⟨v,us,rfl,M,W,j⟩;obtain⟨a,cap,rfl⟩:=jk M;obtain⟨HO,HP,HB⟩:=iI M W (BA.H j);clear A j M W));go_ret;exact⟨a,cap,us,rfl,qX HO bz,HP,HB⟩
end
theorem Af:∀x:List Int,xx x x=false
 |[]=>rfl
 |x::xs=>by simp[xx,Af xs]
theorem CZ:∀{x y z:List Int},xx x y=true->xx y z=true->xx x z=true
 |_,[],_,h,_=>by simp[xx]at h
 |_,_::_,[],_,h=>by simp[xx]at h
 |[],_::_,_::_,_,_=>rfl
 |x::xs,y::ys,z::zs,h,k=>by
  simp only[xx]at h k|-;split at h<;>split at k
  .rw[aE C]
  .split at k
   .simp at k
   rw[aE C]
  .split at h
   .simp at h
   rw[aE C]
  split at h
  .simp at h
  split at k
  .simp at k
  rw[az C,az C];exact CZ h k
theorem Cz:∀{x y:List Int},xx x y=false->xx y x=false->x=y
 |[],[],_,_=>rfl
 |[],_::_,h,_=>by simp[xx]at h
 |_::_,[],_,h=>by simp[xx]at h
 |x::xs,y::ys,h,k=>by
  simp only[xx]at h k;split at h
  .simp at h
  rename_i j;rw[az j]at k;split at k
  .simp at k
  rename_i A;rw[az A]at h;have e:x=y:=C;rw[e,Cz h k]
def OV(p q:Int×List Int):Prop:=p.1<q.1\/(p.1=q.1/\xx p.2 q.2=true)
def Dm{p r:Int×List Int}(h:OV p q)(k:OV q r):OV p r:=by
 obtain h|⟨A,j⟩:=h<;>obtain k|⟨F,y⟩:=k
 .exact .inl C
 .exact .inl C
 .exact .inl C
 exact .inr ⟨C,CZ j y⟩
def CB{p:Int×List Int}(h:¬OV p q)(k:¬OV q p):p=q:=by
 have e:p.1=q.1:=by have F:¬p.1<q.1:=λe=>h (.inl e);have H:¬q.1<p.1:=λe=>k (.inl e);omega
 have y:xx p.2 q.2=false:=by
  cases j:xx p.2 q.2
  .rfl
  exact absurd (.inr ⟨e,j⟩) h
 have A:xx q.2 p.2=false:=by
  cases j:xx q.2 p.2
  .rfl
  exact absurd (.inr ⟨e.symm,j⟩) k
 exact Prod.ext e (Cz y A)
def AH{v:Vo}(h:OV b (v.ba,v.val)):pR b v=(v.ba,v.val):=by unfold pR;obtain h|⟨j,y⟩:=h;all_goals simp_all
def Dr{v:Vo}(h:¬OV b (v.ba,v.val)):pR b v=b:=by
 unfold pR;rw[az];intro e;simp at e;obtain e|⟨j,y⟩:=e
 .exact h (.inl e)
 exact h (.inr ⟨j.symm,y⟩)
def zm(b:Int×List Int)(l:List Vo):Int×List Int:=l.foldl pR b
def zW(l):jC l=zm (0,[]) (l.map (·.2)):=by unfold jC zm;rw[List.foldl_map]
theorem Dx(l):∀b,(zm b l=b\/∃v∈l,zm b l=(v.ba,v.val))/\¬OV (zm b l) b/\∀v∈l,¬OV (zm b l) (v.ba,v.val):=by
 induction l with
 |nil=>exact λb=>⟨.inl rfl,λh=>by
  obtain h|⟨_,h⟩:=h
  .exact absurd h (Int.lt_irrefl _)
  .have h:xx b.2 b.2=true:=h
   rw[Af]at h;simp at h,λv M=>mR M⟩
 |cons v l Q=>
  intro b;obtain⟨j,y,L⟩:=Q (pR b v);have e:zm b (v::l)=zm (pR b v) l:=rfl;rw[e];generalize T:zm (pR b v) l=m at*;by_cases A:OV b (v.ba,v.val)
  .rw[AH A]at j y;refine⟨.inr ?_,λF=>y (Dm F A),λu hu=>?_⟩
   .simp_all
   obtain rfl|hu:=bh.1 hu
   .exact y
   exact L u hu
  rw[Dr A]at j y;refine⟨?_,y,λu hu=>?_⟩
  .obtain j|⟨u,hu,j⟩:=j
   .exact .inl j
   exact .inr ⟨u,aX _ hu,j⟩
  obtain rfl|hu:=bh.1 hu
  .intro F;by_cases H:OV b m
   .exact A (Dm H F)
   rw[CB y H]at F;exact A F
  exact L u hu
def Ge(h:l1.Perm l2)(b):zm b l1=zm b l2:=by
 obtain⟨j,H,A⟩:=Dx l1 b;obtain⟨b1,L,F⟩:=Dx l2 b;refine CB ?_ ?_
 .obtain b1|⟨v,y,b1⟩:=b1
  .simp_all
  rw[b1];exact A v (h.mem_iff.2 y)
 obtain j|⟨v,y,j⟩:=j
 .simp_all
 rw[j];exact F v (h.mem_iff.1 y)
def Q4(b)(v)(l):zm b (v::l)=pR (zm b l) v:=by have e:zm b (v::l)=zm b _:=Ge (gk (l₁:=[v])) b;rw[e];unfold zm;simp_all
def qL{α:Type}[oN α](w:World)(cP:Nat->Nat)(t:Nat)(v:Value)(zz:List (Int×α)):Prop:=
 (v=.map none/\zz=[])\/∃gm iC l,v=.map (some gm)/\Mm w gm iC l zz (oN.ev w cP t)
def oS.t{α:Type}[oN α]{w:World}{t:Nat}{zz:List (Int×α)}(h:oS w cP g t v zz):qL w cP t v zz:=by
 obtain h|⟨gm,iC,l,j,_,y⟩:=h
 .exact .inl h
 exact .inr ⟨gm,iC,l,j,y⟩
def Mm.bl{α:Type}[oN α]{w:World}{t:Nat}{zz:List (Int×α)}(h:Mm w gm iC l zz (oN.ev w cP t))(j:Bl w w'):Mm w' gm iC l zz (oN.ev w' cP t):=
 ⟨(j.heap (ae.1 h.mp).1).H h.mp,h.len,λi e z y A=>⟨(h.kY i e z y A).1,oN.only (h.kY i e z y A).2 (jY j) (λ_ _ e=>e.elim) λ_ _ e=>e⟩,h.bo,h.nd,h.ky⟩
def qL.bl{α:Type}[oN α]{w:World}{t:Nat}{zz:List (Int×α)}(h:qL w cP t v zz)(j:Bl w w'):qL w' cP t v zz:=by
 obtain h|⟨gm,iC,l,y,A⟩:=h
 .exact .inl h
 exact .inr ⟨gm,iC,l,y,A.bl j⟩
def Rd.uniq{w:World}{t:Nat}{ds:List Value}(h:Rd w cP t e v cs)(k:Rd w cP t e v ds):cs=ds:=by
 obtain⟨A,rfl⟩|⟨b,o,c,Q,f,A,h2,T,h4,h5,W⟩:=h<;>obtain⟨y,rfl⟩|⟨b',o',c',H,f',y,k2,F,k4,k5,Y⟩:=k
 .rfl
 .rw[A]at y;simp at y
 .rw[A]at y;simp at y
 rw[A]at y;simp at y;obtain⟨⟨rfl,rfl⟩,hl,_⟩:=y;rw[T]at F;simp at F;obtain⟨rfl,_⟩:=F;refine bJ λj=>?_;by_cases L:j<cs.length
 .have Z:=W j cs[j] (ah L);have M:=Y j ds[j] (ah C);rw[Z]at M;rw[ah L,ah C];exact M
 rw[cB C,cB C]
def IJ(h:xs.map B8=ys.map B8):xs=ys:=List.map_inj_right (λx y e=>by simpa [B8]using e)|>.1 h
def SD{w:World}{t:Nat}{A B:Vo}(h:oN.ev w cP t A v)(k:oN.ev w cP t B v):A=B:=by
 obtain⟨s,y,F⟩:=h;obtain⟨s',j,H⟩:=k;rw[y]at j;simp at j;obtain⟨L,M,Q,rfl⟩:=j;have:=IJ (F.uniq H)
 cases A;simp_all
def D6(w)(cP)(t):∃f:Value->Vo,∀v A,oN.ev w cP t A v->f v=A:=by
 classical
 exact⟨λv=>if h:∃A:Vo,oN.ev w cP t A v then h.choose else⟨0,0,0,[]⟩,λv A j=>by
  simp only[dif_pos (⟨A,j⟩:∃A:Vo,oN.ev w cP t A v)]
  exact SD (Exists.choose_spec (⟨A,j⟩:∃A:Vo,oN.ev w cP t A v)) j⟩
def Mm.ZI{w:World}{t:Nat}(h:Mm w gm iC l zz (oN.ev w cP t))(y:∀v A,oN.ev w cP t A v->f v=A):(ie l).toList.map (λx=>f x.val)=zz.map (·.2):=by
 have F:(ie l).toList=l.map Ae.A:=by simp[ie]
 rw[F,br];refine bJ λi=>?_;rw[aK,aK];have H:=h.len;by_cases j:i<l.length
 .have:=h.kY i l[i] zz[i] (ah j) (ah C);rw[ah j,ah C];show some (f l[i].v)=some zz[i].2;rw[y _ _ this.2]
 simp_all
def Mm.Zv{w:World}{t:Nat}(h:Mm w gm iC l zz (oN.ev w cP t)):∀x∈(ie l).toList,∃A:Vo,A∈zz.map (·.2)/\oN.ev w cP t A x.val:=λx y=>by obtain⟨e,F,rfl⟩:=my y;obtain⟨i,H,rfl⟩:=aV.1 F;have L:=h.len;have j:i<zz.length:=C;exact⟨zz[i].2,aD.2 ⟨_,aL j,rfl⟩,(h.kY i l[i] zz[i] (ah H) (ah j)).2⟩
theorem PV:∀{xs ys:List Int},nX xs->nX ys->(0<Lib.compareBytes (Lib.bytesOf xs) (Lib.bytesOf ys)↔xx ys xs=true)
 |[],[],_,_=>by simp[Lib.bytesOf,Lib.compareBytes,xx]
 |[],_::_,_,_=>by simp[Lib.bytesOf,Lib.compareBytes,xx]
 |_::_,[],_,_=>by simp[Lib.bytesOf,Lib.compareBytes,xx]
 |x::xs,y::ys,F,H=>by
  have Y:=F x aN;have Z:=H y aN;have L:=PV (xs:=xs) (ys:=ys) (λd A=>F d (aX _ A)) λd A=>H d (aX _ A);have M:(x.toNat.toUInt8<y.toNat.toUInt8)↔x<y:=by rw[UInt8.lt_iff_toNat_lt];simp;omega
  have Q:(y.toNat.toUInt8<x.toNat.toUInt8)↔y<x:=by rw[UInt8.lt_iff_toNat_lt];simp;omega
  have T:Lib.bytesOf (x::xs)=x.toNat.toUInt8::Lib.bytesOf xs:=rfl;have W:Lib.bytesOf (y::ys)=y.toNat.toUInt8::Lib.bytesOf ys:=rfl;rw[T,W];simp only[Lib.compareBytes,xx,M,Q];by_cases h:x<y
  .rw[aE h,az C,aE h];simp
  rw[az h];by_cases j:y<x
  .rw[aE j,aE j];simp
  rw[az j,az j,az h];exact L
def Df{w:World}{t:Nat}(h:Rd w cP t 5 v (xs.map B8)):(Extern.Bytes.bytesOf v).run prog w=.ok ⟨(Lib.bytesOf xs).toArray⟩ w:=by
 obtain⟨rfl,e⟩|⟨a,c,rfl,y⟩:=h.bs
 .have:xs=[]:=by simpa using e
  subst this;rfl
 have:=Lib.run_loadBytesX (P:=prog) w xs a .empty λj x A=>y j _ (by rw[aK,A];rfl);rw[ay];show(Extern.Bytes.loadBytes a xs.length .empty).run prog w=_;simp_all
theorem E2{w:World}{t:Nat}{u:Value}(h:Rd w cP t 5 u (xs.map B8))(k:Rd w cP t 5 v (ys.map B8))(y:nX xs)(A:nX ys):iU 297 #[u,v] w λF w'=>∃r:Int,F=gU (I r)/\(0<r↔xx ys xs=true)/\w'=w:=by
 have j:(Extern.BytealgCompare.compare #[u,v]).run prog w=.ok (I (Lib.compareBytes (Lib.bytesOf xs) (Lib.bytesOf ys))) w:=by change Sem.run prog (do pure (Go.goInt (Extern.BytealgCompare.cmp (<-Extern.Bytes.bytesOf u) (<-Extern.Bytes.bytesOf v)))) w=_;simp only[Sem.run_bind,Df h,Df k,Result.andThen,Lib.cmp_eq];rfl
 have H:=gN (PV y A);obtain⟨a,c,rfl⟩:=h.D;obtain⟨b,d,rfl⟩:=k.D;clear h k;simp only[ay]at j|-;go_enter func297,ntmps297;go_wp2;rw[run_callFunc_extern func313 iu iu iu (e:=Extern.BytealgCompare.compare) iu,j];simp only[Result.andThen];rw[Oper.upon_value];go_wp2;go_ret;exact⟨_,rfl,H,rfl⟩
abbrev zV:Array Value:=#[I 0,I 0,I 0,OO]
def It.Au{w:World}{r:Nat}{j:List MapEntry}(h:It w r gm es iC j):(w.iterSeen r).size=j.length:=by
 have:w.iterSeen r=(j.map (·.born)).reverse.toArray:=by unfold World.iterSeen;rw[h.it]
 simp_all
def Y9(w:World)(cP:Nat->Nat)(t gm iC r0:Nat)(es:Array MapEntry)(f:Value->Vo)(wr:World):Prop:=∃(done:List MapEntry) (x0 x1:Int) (s:Value),Hid (wr.heap[w.heap.size+1]?=some (.cells #[I x0,I x1,I (zm (0,[]) (done.map λx=>f x.val)).1,s] 222 (0,0)))/\Hid (Rd w cP t 5 s ((zm (0,[]) (done.map λx=>f x.val)).2.map B8))/\Hid (wr.heap[w.heap.size]?=some (.cells zV 222 (0,0)))/\Hid (Bl w wr)/\Hid (It wr r0 gm es iC done)/\Hid (nX (zm (0,[]) (done.map λx=>f x.val)).2)
theorem Jg{w:World}{t:Nat}(h:Mm w gm iC l zz (oN.ev w cP t))(hB:∀z∈zz,nX z.2.val):iU 277 #[.map (some gm)] w λen w'=>∃(x0 x1:Int) (s:Value),en=gU (.agg #[I x0,I x1,I (jC zz).1,s])/\Rd w' cP t 5 s ((jC zz).2.map B8)/\Bl w w':=by
 obtain⟨f,hf⟩:=D6 w cP t;obtain⟨HV,HE,Hf⟩:=iI (h.ZI hf) h.Zv hf;have ac:Hid (∀A∈zz.map (·.2),nX A.val):=λA hA=>by obtain⟨z,hz,rfl⟩:=aD.1 hA;exact hB z hz
 obtain⟨bo,nd⟩:=h.born;rw[zW];obtain⟨W0,a0⟩:=gG ((w.alloc (ig zV 222)).alloc (ig zV 222));have bW:Bl w W0:=by rw[<-a0];exact(jZ.alloc _).alloc _
 have HM:=gN ((bW.heap (ae.1 h.mp).1).H h.mp);have h2:W0.heap[w.heap.size]?=some (ig zV 222 (0,0)):=by rw[<-a0];exact(cL _ _ bz).H (ao w _)
 have h3:W0.heap[w.heap.size+1]?=some (ig zV 222 (0,0)):=by rw[<-a0];have:=ao (w.alloc (ig zV 222)) (ig zV 222);simpa using this
 have hs:W0.heap.size=w.heap.size+1+1:=by rw[<-a0];simp
 have Z:=gN hs;have av:=(ae.1 h.mp).1;generalize ie l=es at*;obtain⟨an,ap,aq⟩:=iI bo nd a0;obtain⟨H2,H3,BW⟩:=iI h2 h3 bW;clear h bo nd hf hB a0 h2 h3 bW hs;generalize zz.map (·.2)=vs at*;generalize ad:zm (0,[]) vs=bb;have ar:=gN ad;clear ad;obtain⟨a7,a8⟩:=bb;go_enter func277,ntmps277;go_upto_region 2 with fail;rw[aq.o];go_wp2_with(at_range;refine kR _ rfl _ 104 rfl 3 222 underlying104 gm es iC rfl HM an ap ?_;intro hI;have HI:=gN hI;clear hI);go_frame;go_loopw[8](λ_ wr=>Y9 w cP t gm iC W0.heap.size es f wr) λ_ wr=>es.size-(wr.iterSeen W0.heap.size).size
 case atStart=>exact⟨[],0,0,OO,(cL W0 _ (gM Z.o)).H H3,Rd.nil,(cL W0 _ (gM Z.o)).H H2,BW.alloc _,HI,λd hd=>by simp[zm]at hd⟩
 obtain⟨y,x0,x1,s,K3,KR,K2,HB,HJ,KB⟩:=hrel;obtain⟨sa,sc,ag⟩:=KR.D;rw[ay]at ag;subst ag;go_wp2_with(at_next;refine lJ _ rfl _ rfl W0.heap.size gm iC es y rfl HJ ?_ ?_)
 .intro h0;have e0:(y.map λx=>f x.val).Perm vs:=by rw[<-HV.o];exact h0.map _
  have e1:=(Ge e0 (0,[])).H ar;rw[e1]at K3 KR;obtain⟨r0,r1,r2,r3,lr⟩:=sj K3;obtain⟨y0,y1,y2,y3,ly⟩:=sj K2;obtain⟨f0,f1,f2,f3⟩:=yM K2 0 1 2 3;have aw:¬w.heap.size+1=w.heap.size:=gM Z.o;obtain⟨HZ,OZ⟩:=gO (lL [I x0,I x1,I a7,gK sa a8.length sc] 0 wr _ K2) (kD (S:=λb=>b=w.heap.size) (.inl rfl) [I x0,I x1,I a7,gK sa a8.length sc] 0 wr (gI.refl _ wr));clear HV e0 e1 h0;go_wp2;obtain⟨q0,q1,q2,q3⟩:=pD HZ 0 1 2 3 rfl;simp only[lT,zd]at q0 q1 q2 q3;refine aG (v:= .agg (rH x0 x1 a7 sa a8 sc)) (by simp[results,results277,go_sem,q0,q1,q2,q3]) rfl ?_;exact⟨x0,x1,_,rfl,KR.bl (HB.A OZ λb e=>gM Z.o) λ_ _ e=>e,HB.A OZ λb e=>gM Z.o⟩
 intro e W he ai hO ak;obtain⟨A,hA,sv,a9,a4⟩:=HE e (je he);have al:f e.val=A:=Hf _ _ ⟨sv,a9,a4⟩;obtain⟨va,vc,am⟩:=a4.D;rw[ay]at am;subst am;have a1:zm (0,[]) ((e::y).map λx=>f x.val)=pR (zm (0,[]) (y.map λx=>f x.val)) A:=by rw[bj,Q4,al]
 have aa:=gN (ac A hA);rw[a9]at ak|-;have j:=gN a1;have HW:Hid (Bl w W):=HB.A hO λb hb=>gM Z.o;have M:=gN ((hO.block (w.heap.size+1) (ae.1 K3).1 (gM Z.o)).H K3);have a5:=gN ((hO.block w.heap.size (ae.1 K2).1 (gM Z.o)).H K2);obtain⟨a6,ab⟩:=gO ai a4;obtain⟨A0,A1,Q,Y⟩:=A;simp only at ak|-;have bA:=(Bl.refl W).alloc (ig (rH A0 A1 Q va Y vc) 222);obtain⟨r0,r1,r2,r3,lr⟩:=sj M;obtain⟨f0,f1,f2,f3⟩:=yM M 0 1 2 3;obtain⟨BA,HO⟩:=gO bA hO;have aY:=(ae.1 M).1;have b0:¬w.heap.size+1=W.heap.size:=gM Z.o;have b3:¬W.heap.size=w.heap.size+1:=gM Z.o;generalize zm (0,[]) (y.map λx=>f x.val)=b at*;obtain⟨b1,b2⟩:=b;simp only at r2 r3 KR M KB;have a2:=gN (E2 (w:=W.alloc (ig (rH A0 A1 Q va Y vc) 222)) (ab.bl (HW.H BA) (fz:=cP) λ_ _ e=>e) (KR.bl (HW.H BA) (fz:=cP) λ_ _ e=>e) aa KB);simp only at a2;have T:Hid (y.length+1<=es.size/\(wr.iterSeen W0.heap.size).size=y.length):=⟨by simpa using a6.len,HJ.Au⟩;clear a4 a1 al a9 hO ai he hA bA HE HV;have F:Hid (pR (b1,b2) ⟨A0,A1,Q,Y⟩=(Q,Y)->Y9 w cP t gm iC W0.heap.size es f ((lT W (w.heap.size+1) 0 [I A0,I A1,I Q,gK va Y.length vc]).alloc (ig (rH A0 A1 Q va Y vc) 222))/\es.size-(((lT W (w.heap.size+1) 0 [I A0,I A1,I Q,gK va Y.length vc]).alloc (ig (rH A0 A1 Q va Y vc) 222)).iterSeen W0.heap.size).size<es.size-(wr.iterSeen W0.heap.size).size):=λhb=>by
  have HZ:=lL [I A0,I A1,I Q,gK va Y.length vc] 0 _ _ M;have OZ:=(kD (S:=λb=>b=w.heap.size+1) (.inl rfl) [I A0,I A1,I Q,gK va Y.length vc] 0 W vO).alloc (ig (rH A0 A1 Q va Y vc) 222);have a3:=a6.only OZ (gM Z.o) (gM Z.o);refine⟨⟨e::y,A0,A1,gK va Y.length vc,?_,?_,(OZ.block w.heap.size (gM Z.o) (gM Z.o)).H a5,HW.A OZ λb e=>gM Z.o,a3,?_⟩,?_⟩
  .rw[j.o,hb];exact(cL _ _ (ae.1 HZ).1).H HZ
  .rw[j.o,hb];exact ab
  .rw[j.o,hb];exact aa
  rw[a3.Au,T.2];have:=T.1;simp;omega
 have L:Hid (pR (b1,b2) ⟨A0,A1,Q,Y⟩=(b1,b2)->Y9 w cP t gm iC W0.heap.size es f (W.alloc (ig (rH A0 A1 Q va Y vc) 222))/\es.size-((W.alloc (ig (rH A0 A1 Q va Y vc) 222)).iterSeen W0.heap.size).size<es.size-(wr.iterSeen W0.heap.size).size):=λhb=>by
  have a3:=a6.bl BA;refine⟨⟨e::y,x0,x1,gK sa b2.length sc,?_,?_,(BA.heap (ae.1 a5).1).H a5,HW.H BA,a3,?_⟩,?_⟩
  .rw[j.o,hb];exact(BA.heap (ae.1 M).1).H M
  .rw[j.o,hb];exact KR
  .rw[j.o,hb];exact KB
  rw[a3.Au,T.2];have:=T.1;simp;omega
 clear j M a5 a6 HJ KR KB ab ac aa BA HW HO K3 K2 HB Hf T;by_cases h1:b1<Q
 .have HF:=gN (F (AH (.inl h1)));clear a2 L F;go_wp2;go_roundw
  case rel=>exact HF.1
  exact HF.2
 by_cases h2:Q=b1
 .subst h2;clear h1;by_cases h4:xx b2 Y=true
  .have HF:=gN (F (AH (.inr ⟨rfl,h4⟩)));clear L F;go_wp2_with(go_at_call 297;refine a2.L ?_;rintro en w2⟨r,rfl,hr,h5⟩;have e5:=h5.symm;clear h5;subst e5;have au:=hr.2 h4;clear hr);go_roundw
   case rel=>exact HF.1
   exact HF.2
  have HF:=gN (L (Dr λe=>by
   obtain e|⟨_,e⟩:=e
   .exact absurd e (Int.lt_irrefl _)
   .exact h4 e))
  clear L F;go_wp2_with(go_at_call 297;refine a2.L ?_;rintro en w2⟨r,rfl,hr,h5⟩;have e5:=h5.symm;clear h5;subst e5;have au:¬0<r:=λe=>h4 (hr.1 e);clear hr);go_roundw
  case rel=>exact HF.1
  exact HF.2
 have HF:=gN (L (Dr λe=>by
  obtain e|⟨e,_⟩:=e
  .exact h1 e
  .exact h2 e.symm))
 have b4:(Q==b1)=false:=je h2;clear a2 L F;go_wp2;go_roundw
 case rel=>exact HF.1
 exact HF.2
abbrev UI(p0:World)(p1):=(p0.alloc (ig #[I p1] 3)).alloc (ig zV 222)
theorem F0(w):iU 277 #[.map none] w λj w'=>j=gU (.agg zV)/\Bl w w':=by
 have y:=run_range_nilMap (P:=prog) ((w.alloc (ig zV 222)).alloc (ig zV 222)) 104 _ _ underlying104;have A:∀h,(Instr.next (O (w.heap.size+1+1)) false h).run prog (((w.alloc (ig zV 222)).alloc (ig zV 222)).alloc (.mapIter none 0 #[] 0))=_:=λh=>by have:=run_next_nilMap (P:=prog) ((w.alloc (ig zV 222)).alloc (ig zV 222)) h 0 0 #[];simpa using this
 go_enter func277,ntmps277;go_wp2;refine Z6 1 ?_;rw[ZZ];go_wp2;refine aG (v:= .agg zV) (by simp[results,results277,go_sem]) rfl ?_;refine⟨rfl,?_⟩;repeat(first|exact jZ|refine Bl.alloc ?_ _)
def rP{w:World}{t:Nat}(h:qL w cP t v zz)(y:∀z∈zz,nX z.2.val):iU 277 #[v] w λj w'=>∃(A F:Int) (s:Value),j=gU (.agg #[I A,I F,I (jC zz).1,s])/\Rd w' cP t 5 s ((jC zz).2.map B8)/\Bl w w':=by
 obtain⟨rfl,rfl⟩|⟨gm,iC,l,rfl,h⟩:=h
 .exact(F0 w).L λj w'⟨e,H⟩=>⟨0,0,OO,e,Rd.nil,H⟩
 exact Jg h y
def K7(l:List Vo):Int:=l.foldl (λb z=>max b z.pr) 0
def yq(l):j7 l=K7 (l.map (·.2)):=by unfold j7 K7;rw[List.foldl_map]
theorem Iu(l:List Vo):∀b:Int,l.foldl (λb z=>max b z.pr) b=l.foldr (λz b=>max b z.pr) b:=by
 induction l with
 |nil=>intro b;rfl
 |cons v l h=>
  intro b;have:∀(l:List Vo) (a c),l.foldr (λz b=>max b z.pr) (max a c)=max (l.foldr (λz b=>max b z.pr) a) c:=λl=>by
   induction l with
   |nil=>intro a c;rfl
   |cons u l h=>intro a c;rw[fA,fA,h];omega
  simp_all
def qu(v)(l):K7 (v::l)=max (K7 l) v.pr:=by unfold K7;rw[Iu,Iu];rfl
theorem PU(h:l1.Perm l2):K7 l1=K7 l2:=by
 induction h with
 |nil=>rfl
 |cons x _ j=>rw[qu,qu,j]
 |swap x y l=>rw[qu,qu,qu,qu];omega
 |trans _ _ A F=>exact A.H F
def Eh(w):Calls prog 306 #[.map none] w λj w'=>j=gU (I 0)/\Bl w w':=by have y:=run_range_nilMap (P:=prog) w 104 _ _ underlying104;have A:∀h,(Instr.next _ false h).run prog _=_:=λh=>run_next_nilMap (P:=prog) w h 0 0 #[];go_wp2;refine Z6 1 ?_;rw[ZZ];go_wp2;go_ret;exact⟨rfl,jZ.alloc _⟩
theorem Dv{w:World}{t:Nat}(h:qL w cP t v zz):iU 306 #[v] w λen w'=>en=gU (I (j7 zz))/\Bl w w':=by
 obtain⟨rfl,rfl⟩|⟨gm,iC,l,rfl,h⟩:=h
 .exact Eh w
 obtain⟨f,hf⟩:=D6 w cP t;obtain⟨HV,HE,Hf⟩:=iI (h.ZI hf) h.Zv hf;obtain⟨bo,nd⟩:=h.born;have HM:=gN h.mp;rw[yq];generalize ie l=es at*;obtain⟨a1,a2⟩:=gO bo nd;have a5:=(ae.1 h.mp).1;clear h bo nd hf;generalize zz.map (·.2)=vs at*;generalize T:K7 vs=bb;have a3:=gN T;clear T;go_enter func306,ntmps306;go_wp2_with(at_range;refine kR _ rfl _ 104 rfl 3 222 underlying104 gm es iC rfl HM a1 a2 ?_;intro hI;have HI:=gN hI;clear hI);go_frame;go_loopw[3](λv wr=>∃j:List MapEntry,v=I (K7 (j.map λx=>f x.val))/\Hid (Bl w wr)/\Hid (It wr w.heap.size gm es iC j)) λ_ wr=>es.size-(wr.iterSeen w.heap.size).size
 case atStart=>exact⟨[],rfl,jZ.alloc _,HI⟩
 obtain⟨j,rfl,HB,HJ⟩:=hrel;go_wp2_with(at_next;refine lJ _ rfl _ rfl w.heap.size gm iC es j rfl HJ ?_ ?_)
 .intro h0;have e0:(j.map λx=>f x.val).Perm vs:=by rw[<-HV.o];exact h0.map _
  rw[(PU e0).H a3.o];go_wp2;go_ret;exact⟨rfl,HB⟩
 intro e W he Y hO Z;obtain⟨A,hA,sv,L,M⟩:=HE e (je he);have a0:f e.val=A:=Hf _ _ ⟨sv,L,M⟩;obtain⟨va,vc,a4⟩:=M.D;subst a4;have y:Hid (K7 ((e::j).map λx=>f x.val)=max (K7 (j.map λx=>f x.val)) A.pr):=by unfold Hid;rw[bj,qu,a0]
 rw[L]at Z|-;have HW:Hid (Bl w W):=HB.A hO λb hb=>C;have Q:=gN Y;obtain⟨A0,A1,A2,A3⟩:=A;simp only at Z y|-;have F:Hid (j.length+1<=es.size/\(wr.iterSeen w.heap.size).size=j.length):=⟨by simpa using Q.len,HJ.Au⟩;generalize K7 (j.map λx=>f x.val)=b at*;clear M a0 L hO Y he hA HE HV HJ;go_wp2;go_roundw
 case rel=>exact⟨e::j,mT y.o,HW.alloc _,Q.bl (jZ.alloc _)⟩
 rw[(Q.bl (jZ.alloc _)).Au,F.2];have:=F.1;simp;omega
def T9{w:World}{bm:Nat}{l1 l2:List Ae}{e:Ae}(ty)(j:w.heap[bm]?=some (.map (ie (l1++e::l2)) iC))(y:∀x∈l1,x.k≠e.k)(h:∀x∈l2,x.k≠e.k):(Builtin.delete_ #[104,3] ty #[.map (some bm),I e.k]).run prog w=.ok (.tuple #[]) (setBlock w bm (.map (ie (l1++l2)) iC)):=by
 have A:=fa (w:=w) underlying3 (VG y h);have F:=eW (P:=prog) (w:=w) (k:= I e.k) underlying3 vN (ie (l1++e::l2)).isEmpty 9999;simp[Builtin.delete_,Sem.run_bind,Result.andThen,aI j,F,A,Z7 _ j,setBlock,Re]
def uY(l:List Ae)(sn:Array Nat)(P:Ae->Bool):List Ae:=l.filter λe=> !(sn.contains e.bo&&P e)
def IL(l)(P):uY l #[] P=l:=by unfold uY;simp
theorem Wf(j:(l.map (·.bo)).Nodup){x y:Ae}(A:x∈l)(F:y∈l)(h:x.bo=y.bo):x=y:=by
 induction l with
 |nil=>simp at A
 |cons z l H=>
  rw[bj,bY]at j;obtain rfl|hx':=bh.1 A<;>obtain rfl|hy':=bh.1 F
  .rfl
  .exact absurd (aD.2 ⟨y,hy',h.symm⟩) j.1
  all_goals simp_all
def N4{e:Ae}(j:(l.map (·.bo)).Nodup)(y:e∈l)(A:P e=false):uY l (sn.push e.bo) P=uY l sn P:=by
 refine dH λx F=>?_;by_cases h:x.bo=e.bo
 .rw[Wf j F y h,A];simp
 simp[h]
def Ns{e:Ae}(h:(l.map (·.bo)).Nodup)(j:e∈l)(y:P e=true)(A:e.bo∉sn):∃l1 l2,uY l sn P=l1++e::l2/\uY l (sn.push e.bo) P=l1++l2:=by
 obtain⟨a,b,rfl⟩:=fe j;refine⟨uY a sn P,uY b sn P,?_,?_⟩
 .unfold uY;rw[cz,cT,aE (mZ A)]
 unfold uY;rw[cz,cT,az (mZ y)];rw[aZ,bj,cX,bY]at h;congr 1<;>refine dH λx F=>?_
 .simp_all
 simp_all
def Rb(h:∀e∈uY l sn P,e.bo∈sn):uY l sn P=l.filter λe=> !P e:=by
 refine dH λx y=>?_;by_cases j:x.bo∈sn
 .simp[j]
 exact absurd (h x (aU.2 ⟨y,mZ j⟩)) j
def KN(l:List Ae)(sn:Array Nat):Nat:=(l.filter λe=> !sn.contains e.bo).length
def Aa{e:Ae}(h:e∈l)(j:e.bo∉sn):KN l (sn.push e.bo)<KN l sn:=by
 unfold KN;have y:l.filter (λx=> !(sn.push e.bo).contains x.bo)=(l.filter λx=> !sn.contains x.bo).filter λx=>x.bo !=e.bo:=by rw[List.filter_filter];refine dH λx _=>?_;by_cases A:x.bo=e.bo;all_goals simp[A]
 rw[y];have F:e∈l.filter λx=> !sn.contains x.bo:=aU.2 ⟨h,mZ j⟩;have:=List.length_filter_lt_length_iff_exists (p:=λx:Ae=>x.bo !=e.bo) (l:=l.filter λx=> !sn.contains x.bo);exact this.2 ⟨e,F,bz⟩
section
variable{P:Program}(w:World){ops:Array Oper}{rest:List Oper}{o:Oper}{a:Act}{Q:Exit->Act->World->Prop}
def Bw(hg:o.guard=none)(it)(A:o.op=Op.next it false)(r gm iC)(l)(sn)(F:a.eval it= O r)(hi:w.heap[r]?=some (.mapIter (some gm) iC sn iC))(hm:w.heap[gm]?=some (.map (ie l) iC))(Y:r≠gm)(Z:∀e∈l,e.bo<iC)(a0:(l.map (·.bo)).Nodup)(j:(∀e∈l,e.bo∈sn)->wpList P ops Q rest (a.put o.dst (.tuple #[.bool false])) w)(y:∀(e:Ae) (W:World),e∈l->e.bo∉sn->W.heap[r]?=some (.mapIter (some gm) iC (sn.push e.bo) iC)->gI (λb=>b=r) w W->(Instr.entry (O r)).run P W=.ok (.tuple #[I e.k,e.v]) W->
 wpList P ops Q rest (a.put o.dst (.tuple #[.bool true,I e.k,e.v])) W):wpList P ops Q (o::rest) a w:=by
 refine wpList_plain hg λK' L=>?_;unfold Oper.wp;have e1:(ie l).toList=l.map Ae.A:=by simp[ie]
 have a1:∀x∈(ie l).toList,x.born<iC:=λx hx=>by obtain⟨e,M,rfl⟩:=my hx;exact Z e M
 have a2:((ie l).toList.map (·.born)).Nodup:=by rw[e1,br];exact a0
 obtain⟨h0,h⟩|⟨x,M,w1,hw,h⟩:=run_next_at (P:=P) w o.type r gm iC iC sn (ie l) iC hi hm a1 jr
 .simp[execOp,A,F,h,Result.andThen];refine L _ _ (j λe M=>?_);have h1:(ie l).filter (λx=> !sn.contains x.born)=#[]:=gf.1 h0;have h2:=fP.1 h1 e.A (by rw[<-Array.mem_toList_iff,e1];exact aD.2 ⟨e,M,rfl⟩);simpa [Ae.A]using h2
 simp[execOp,A,F,h,Result.andThen];obtain⟨T,a3⟩:=mem_left M;obtain⟨e,a4,rfl⟩:=my T;have jt:r<w.heap.size:=(ae.1 hi).1;have hh:w1.heap=w.heap:=by obtain rfl|rfl:=hw<;>rfl
 have hI:(setBlock w1 r (.mapIter (some gm) iC (sn.push e.bo) iC)).heap[r]?=some (.mapIter (some gm) iC (sn.push e.bo) iC):=by simp[setBlock,hh,jt]
 have hM:(setBlock w1 r (.mapIter (some gm) iC (sn.push e.bo) iC)).heap[gm]?=some (.map (ie l) iC):=by simp[setBlock,hh,Y,hm]
 refine L _ _ (y e _ a4 (by simpa [Ae.A]using a3) hI ?_ (run_entry_at _ r gm iC _ (ie l) iC e.A hI hM T a2));obtain rfl|rfl:=hw
 .exact pK _ _ _
 exact(gI.D (jZ.drew)).H (pK _ _ _)
end
theorem Qw(w)(g:Nat)(caps)(eg:∀Y w,(callFunc g Y).run prog w=.ok (.enter g Y) w)(gm iC)(l0)(hm:w.heap[gm]?=some (.map (ie l0) iC))(a1:∀e∈l0,e.bo<iC)(a2:(l0.map (·.bo)).Nodup)(ab:(l0.map (·.k)).Nodup)(hv:∀e∈l0,∃(x0 x1 x2:Int) (va:Option Addr) (vn vc:Nat),e.v=.agg #[I x0,I x1,I x2,gK va vn vc])(P:Ae->Bool)(T:∀W e,e∈l0->gI (λb=>b=gm) w W->iU g (#[I e.k,e.v]++caps) W λen w'=>en=gU (.bool (P e))/\Bl W w'):iU 294 #[.map (some gm),.func (.func g) #[] caps] w λen w'=>en=iF/\w'.heap[gm]?=some (.map (ie (l0.filter λe=> !P e)) iC)/\gI (λb=>b=gm) w w':=by
 have HD:Aside _:=T;obtain⟨HM,am,a3⟩:=iI hm a1 a2;obtain⟨an,Hv⟩:=gO ab hv;have lm:=(ae.1 hm).1;have y:Hid (∀x∈(ie l0).toList,x.born<iC):=λx Z=>by obtain⟨e,he,rfl⟩:=my Z;exact a1 e he
 have ap:Hid (((ie l0).toList.map (·.born)).Nodup):=by
  have e1:(ie l0).toList=l0.map Ae.A:=by simp[ie]
  unfold Hid;rw[e1,br];exact a2
 clear T hm a1 a2 ab hv;go_enter func294,ntmps294;go_wp2_with(at_range;refine kR _ rfl _ 104 rfl 3 222 underlying104 gm (ie l0) iC rfl HM y ap ?_;intro hI;have HI:=gN hI;clear hI);go_frame;go_loopw[8](λ_ wr=>∃sn:Array Nat,Hid (wr.heap[w.heap.size]?=some (.mapIter (some gm) iC sn iC))/\Hid (wr.heap[gm]?=some (.map (ie (uY l0 sn P)) iC))/\Hid (gI (λb=>b=gm) w wr)) λ_ wr=>KN l0 (wr.iterSeen w.heap.size)
 case atStart=>exact⟨#[],HI.it,by rw[IL];exact HI.mp,gI.D (jZ.alloc _)⟩
 obtain⟨sn,Hi,Hm,HO⟩:=hrel;have a0:Hid (∀e∈uY l0 sn P,e∈l0):=λe he=>(aU.1 he).1;have ar:w.heap.size<wr.heap.size:=(ae.1 Hi).1;go_wp2_with(at_next;refine Bw _ rfl _ rfl w.heap.size gm iC (uY l0 sn P) sn rfl Hi Hm C (λe he=>am.o e (a0 e he)) (a3.sublist (List.filter_sublist.map _)) ?_ ?_)
 .intro ac;have hE:=Rb ac;go_wp2;go_end0;exact⟨rfl,j9 hE Hm,HO⟩
 intro e W he ad a4 hO aq;have a5:=a0 e he;obtain⟨x0,x1,x2,va,vn,vc,Z⟩:=Hv e a5;have a6:Hid (gI (λb=>b=gm) w W):=HO.xX hO λb hb=>C;have F:Hid (W.heap[gm]?=some (.map (ie (uY l0 sn P)) iC)):=(hO.block gm (gM HO.size) C).H Hm;obtain⟨a7,L,a8⟩:=iI a4 a5 ad;rw[Z]at aq|-;have bA:=(Bl.refl W).alloc (ig #[I x0,I x1,I x2,gK va vn vc] 222);have hc:=HD (W.alloc (ig #[I x0,I x1,I x2,gK va vn vc] 222)) e a5 (a6.H (gI.D bA));rw[Z]at hc;have M:w.heap.size<W.heap.size:=(ae.1 a4).1;have a9:gm<W.heap.size:=(ae.1 F).1;clear hO a4 he ad
 cases hp:P e<;>rw[hp]at hc
 .have Hc:=gN hc;clear hc;go_wp2_with(first|(go_at_fn g;refine gS Hc λw2 y=>?_;have j:=gN (bA.H y);clear y)|go_in);go_roundw
  case rel=>exact⟨sn.push e.bo,(j.heap M).H a7,by rw[N4 a3.o L.o hp];exact(j.heap a9).H F,a6.H (gI.D j)⟩
  have e1:w2.iterSeen w.heap.size=sn.push e.bo:=by unfold World.iterSeen;rw[(j.heap M).H a7.o]
  have e2:wr.iterSeen w.heap.size=sn:=by unfold World.iterSeen;rw[Hi.o]
  rw[e1,e2];exact Aa L a8
 obtain⟨l1,l2,h1,h2⟩:=Ns (sn:=sn) a3 L hp a8;obtain⟨Hc,H2⟩:=gO hc h2;have A:Hid (((l1++e::l2).map (·.k)).Nodup):=by unfold Hid;rw[<-h1];exact an.sublist (List.filter_sublist.map _)
 have ag:Hid ((∀x∈l1,x.k≠e.k)/\∀x∈l2,x.k≠e.k):=by have A:=A.o;rw[aZ,bj,cX,bY]at A;exact⟨λx Z=>A.2.2 _ (aD.2 ⟨x,Z,rfl⟩) _ aN,λx Z h=>A.2.1.1 (aD.2 ⟨x,Z,h⟩)⟩
 rw[h1]at F;clear hc h1 h2;go_wp2_with(first|(go_at_fn g;refine gS Hc λw2 y=>?_;have aa:=bA.H y;have au:=λty=>T9 (e:=e) ty ((aa.heap a9).H F) ag.1 ag.2;have j:=gN aa;clear y aa)|go_in);have O3:gI (λb=>b=gm) w2 (setBlock w2 gm (.map (ie (l1++l2)) iC)):=kS _ _ _;have ai:=af M j.lt;have ak:=af a9 j.lt;have al:(setBlock w2 gm (.map (ie (l1++l2)) iC)).heap[w.heap.size]?=some (.mapIter (some gm) iC (sn.push e.bo) iC):=(O3.block _ ai C).H ((j.heap M).H a7);go_roundw
 case rel=>exact⟨sn.push e.bo,al,by rw[H2.o];exact ou ak _,(a6.H (gI.D j)).H O3⟩
 have e1:(setBlock w2 gm (.map (ie (l1++l2)) iC)).iterSeen w.heap.size=sn.push e.bo:=by unfold World.iterSeen;rw[al]
 have e2:wr.iterSeen w.heap.size=sn:=by unfold World.iterSeen;rw[Hi.o]
 rw[e1,e2];exact Aa L a8
def ts(b)(es)(iC)(w)(h:w.heap[b]?=some (.map es iC)):iU 293 #[.map (some b)] w λe w'=>e=gU (.map (some w.heap.size))/\w'=w.alloc (.map es iC):=AnyW.maps_Clone Tryz.RK b es iC w h
def vI(w):iU 293 #[.map none] w λe w'=>e=gU (.map none)/\w'=w:=AnyW.maps_Clone_nil Tryz.RK w
def Ag(fv)(w):Calls prog 294 #[.map none,fv] w λe w'=>e=iF/\Bl w w':=by have j:=run_range_nilMap (P:=prog) w 104 _ _ underlying104;have y:∀h,(Instr.next _ false h).run prog _=_:=λh=>run_next_nilMap (P:=prog) w h 0 0 #[];go_wp2;refine Z6 1 ?_;rw[ZZ];go_wp2;go_end0;exact⟨rfl,jZ.alloc _⟩
theorem E5(h:l.length=zz.length)(P)(Q)(A:∀(i:Nat) e z,l[i]?=some e->zz[i]?=some z->P e=Q z)(R:Ae->Int×Vo->Prop)(H:∀(i:Nat) e z,l[i]?=some e->zz[i]?=some z->R e z):(l.filter P).length=(zz.filter Q).length/\∀(i:Nat) e z,(l.filter P)[i]?=some e->(zz.filter Q)[i]?=some z->R e z:=by
 induction l generalizing zz with
 |nil=>
  cases zz with
  |nil=>exact⟨rfl,λi e z T=>mR T⟩
  |cons z zz=>simp at h
 |cons x l W=>
  cases zz with
  |nil=>simp at h
  |cons z zz=>
   obtain⟨L,M⟩:=W (zz:=zz) (je h) (λi e F j y=>A (i+1) e F (je j) (je y)) λi e F j y=>H (i+1) e F (je j) (je y);have Y:=A 0 x z rfl rfl;have Z:=H 0 x z rfl rfl;rw[cT,cT,Y]
   cases Q z
   .exact⟨L,M⟩
   refine⟨mZ L,λi e F j y=>?_⟩
   cases i with
   |zero=>simp at j y;subst j;subst y;exact Z
   |succ i=>exact M i e F (je j) (je y)
def Mm.filter{w:World}{t j:Nat}(h:Mm w gm iC l zz (oN.ev w cP t))(A:Bl w w')(P)(Q)(y:∀(i:Nat) e z,l[i]?=some e->zz[i]?=some z->P e=Q z)(F:w'.heap[j]?=some (.map (ie (l.filter P)) iC)):Mm w' j iC (l.filter P) (zz.filter Q) (oN.ev w' cP t):=by obtain⟨H,L⟩:=E5 h.len P Q y _ (h.bl A).kY;exact⟨F,H,L,λe M=>h.bo e (aU.1 M).1,h.nd.sublist (List.filter_sublist.map _),h.ky.sublist (List.filter_sublist.map _)⟩
def Mm.Xi{w:World}{t:Nat}(h:Mm w gm iC l zz (oN.ev w cP t)):∀e∈l,∃(j y A:Int) (F:Option Addr) (H L:Nat),e.v=.agg #[I j,I y,I A,gK F H L]:=λe M=>by obtain⟨i,Q,rfl⟩:=aV.1 M;have W:=h.len;obtain⟨_,s,Y,T⟩:=h.kY i l[i] zz[i] (ah Q) (ah C);obtain⟨a,c,rfl⟩:=T.D;simp_all
def Mm.XC{w:World}{t:Nat}(h:Mm w gm iC l zz (oN.ev w cP t)):(l.map (·.k)).Nodup:=by
 have:l.map (·.k)=zz.map (·.1):=by
  refine bJ λi=>?_;rw[aK,aK];have y:=h.len;by_cases j:i<l.length
  .have:=h.kY i l[i] zz[i] (ah j) (ah C);rw[ah j,ah C];simp_all
  simp_all
 rw[this];exact h.ky
def Aj(f:Nat)(caps:Array Value)(w:World)(cP:Nat->Nat)(t:Nat)(zz:List (Int×Vo))(Q:Int×Vo->Bool):Prop:=
 ∀W k v z,Bl w W->z∈zz->k=z.1->oN.ev w cP t z.2 v->Calls prog f (#[I k,v]++caps) W λen w'=>en=gU (.bool (!Q z))/\Bl W w'
def uL{w:World}{t:Nat}(h:Mm w gm iC l zz (oN.ev w cP t))(y:Bl w w1)(hg:w.heap.size<=g)(hm:w1.heap[g]?=some (.map (ie l) iC))(f:Nat)(caps)(ef:∀j w,(callFunc f j).run prog w=.ok (.enter f j) w)(Q)(hL:Aj f caps w cP t zz Q):iU 294 #[.map (some g),.func (.func f) #[] caps] w1 λen w'=>en=iF/\qL w' cP t (.map (some g)) (zz.filter Q)/\Bl w w':=by
 have Z:∀e∈l,∃z∈zz,e.k=z.1/\oN.ev w cP t z.2 e.v:=λe he=>by obtain⟨i,hi,rfl⟩:=aV.1 he;have hl:=h.len;have F:i<zz.length:=C;have:=h.kY i l[i] zz[i] (ah hi) (ah F);exact⟨_,aL F,this⟩
 obtain⟨vf,A⟩:=D6 w cP t;have hP:∀(i:Nat) e z,l[i]?=some e->zz[i]?=some z->Q (e.k,vf e.v)=Q z:=λi e z H h2=>by obtain⟨M,T⟩:=h.kY i e z H h2;rw[A _ _ T,M]
 refine(Qw w1 f caps ef g iC l hm h.bo h.nd h.XC h.Xi (λe=> !Q (e.k,vf e.v)) λW e he hO=>?_).L ?_
 .obtain⟨z,F,M,T⟩:=Z e he;have Y:Bl w W:=y.A hO λb e=>C;rw[A _ _ T,show(e.k,z.2)=z from Prod.ext M rfl];exact hL W e.k e.v z Y F M T
 rintro en w'⟨rfl,H,h2⟩;have Y:Bl w w':=y.A h2 λb e=>C;simp only[Bool.not_not]at H;exact⟨rfl,.inr ⟨g,iC,_,rfl,h.filter Y _ Q hP H⟩,Y⟩
def Nn(k x0 x1 x2)(va)(vn vc)(w):Calls prog 299 #[I k,.agg #[I x0,I x1,I x2,gK va vn vc]] w λh w'=>h=gU (.bool (!(x0==1)))/\Bl w w':=by go_wp2;go_ret;exact⟨by simp[bne],(Bl.refl w).alloc _⟩
def Gm{w:World}{t:Nat}(zz):Aj 299 #[] w cP t zz (λz=>z.2.wh==1):=λW k v z _ _ _⟨s,h,j⟩=>by obtain⟨a,c,rfl⟩:=j.D;subst h;exact Nn _ _ _ _ _ _ _ W
theorem F7{w:World}{t:Nat}(h:qL w cP t v zz):iU 279 #[v] w λQ w'=>∃F,Q=gU F/\qL w' cP t F (kQ zz)/\Bl w w':=by
 obtain⟨rfl,rfl⟩|⟨gm,iC,l,rfl,h⟩:=h
 .obtain⟨j,y⟩:=gO vI Ag;go_enter func279,ntmps279;go_wp2_with(first|(go_at_call 293;refine gS (j _) λw' H=>?_;have T:=H.symm;clear H;subst T)|(go_at_call 294;refine jA (y _ _) λW A=>?_));go_ret;exact⟨_,rfl,.inl ⟨rfl,rfl⟩,A⟩
 obtain⟨j,y⟩:=gO (ts gm _ iC w h.mp) (uL h ((Bl.refl w).alloc _) jr (ao w _) 299 #[] (enters_of func299 iu rfl) _ (Gm (cP:=cP) (t:=t) zz));clear h;go_enter func279,ntmps279;go_wp2_with(first|(go_at_call 293;refine j.L ?_;rintro e w'⟨rfl,rfl⟩)|(go_at_call 294;refine y.L ?_;rintro e W⟨rfl,L,M⟩;obtain⟨Y,A⟩:=gO L M;clear M L));go_ret;exact⟨_,rfl,Y,A⟩
def I5(k x0 x1 x2 b)(va)(vn vc)(w)(g)(A:w.cell? (U g 0)=some (I b))(F:g<w.heap.size):Calls prog 302 #[I k,.agg #[I x0,I x1,I x2,gK va vn vc],O g] w λj w'=>j=gU (.bool (!decide (x2<=b)))/\Bl w w':=by
 have y:(!decide (x2<=b))=decide (b<x2):=by
  by_cases h:x2<=b
  .simp[h]
  simp[h];omega
 rw[y];go_wp2;go_ret;exact⟨bz,jZ.alloc _⟩
theorem Ny{w:World}{t:Nat}(h:qL w cP t v zz)(b):iU 281 #[I b,v] w λen w'=>∃T,en=gU T/\qL w' cP t T (vw b zz)/\Bl w w':=by
 obtain⟨W,F⟩:=gG (w.alloc (ig #[I b] 3));have y:=(Bl.refl w).alloc (ig #[I b] 3);have A:=ao w (ig #[I b] 3);rw[F]at y A;have r0:W.cell? (U w.heap.size 0)=some (I b):=ax W w.heap.size 0 _ 3 (0,0) A;have Y:=(ae.1 A).1;obtain⟨Z,BW⟩:=gO F y;have hT:=h.bl y;clear F y A h;obtain⟨rfl,rfl⟩|⟨gm,iC,l,rfl,h⟩:=hT
 .obtain⟨L,M⟩:=gO vI Ag;go_enter func281,ntmps281;go_upto_region 1 with fail;rw[Z.o];go_wp2_with(first|(go_at_call 293;refine gS (L _) λw' h3=>?_;have e3:=h3.symm;clear h3;subst e3)|(go_at_call 294;refine jA (M _ _) λw2 Q=>?_));go_ret;exact⟨_,rfl,.inl ⟨rfl,rfl⟩,BW.H Q⟩
 have L:=gN (ts gm _ iC W h.mp);have hL:Aj 302 #[O w.heap.size] W cP t zz (λz=>decide (z.2.ba<=b)):=λW2 k v z j _ _⟨s,e1,e2⟩=>by obtain⟨a,c,rfl⟩:=e2.D;subst e1;exact I5 _ _ _ _ b _ _ _ W2 w.heap.size ((j.cell Y).H r0) (af Y j.lt)
 have M:=gN (uL h ((Bl.refl W).alloc _) jr (ao W _) 302 _ (enters_of func302 iu rfl) _ hL);clear h hL;go_enter func281,ntmps281;go_upto_region 1 with fail;rw[Z.o];go_wp2_with(first|(go_at_call 293;refine L.L ?_;rintro e w'⟨rfl,rfl⟩)|(go_at_call 294;refine M.L ?_;rintro e w2⟨rfl,ha,hb⟩;obtain⟨HA,Q⟩:=gO ha hb;clear hb ha));go_ret;exact⟨_,rfl,HA,BW.H Q⟩
end Go.Proofs.YtbghhbpacijmmaaGreat
