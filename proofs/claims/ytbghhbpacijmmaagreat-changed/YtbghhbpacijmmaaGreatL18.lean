import Derived.Test.YtbghhbpacijmmaaGreatL17
open Go.Proofs.Tryz
namespace Go.Proofs.YtbghhbpacijmmaaGreat
set_option maxRecDepth 99999
set_option maxHeartbeats 0
set_option linter.defProp false
set_option linter.unusedVariables false
open Go.RowKit Go.Maps
attribute [local go_sem ↓] Go.wp_at_zero Go.wp_at_succ
def Awake(W:Wd):Prop:=∀(i:Nat) (P:Pl),W.pl[i]?=some P->P.up=true\/P.oB=true
section
variable{w:World}{gH:Nat->Nat}{g:Nat}{W:Wd}{V:WV}
theorem wake_any (h:jG w gH g W V) (hW:Wk W) (hl:W.gK.length≤1000000000) (ha:Awake W):
 Calls prog 69 #[.pointer (some ⟨g,0,none⟩)] w fun en w'=>en=gX (.bool true)∧Bl w w':=by
 obtain⟨ca,cc,hcv⟩:=h.ca.row.B
 obtain⟨pa,pc,hpv⟩:=h.a.row.B
 have c7:w.cell? ⟨g,7,none⟩=some (gN ca W.gK.length cc):=by rw[←hcv];exact h.cellAt 7 rfl
 have c4:w.cell? ⟨g,4,none⟩=some (gN pa W.pl.length pc):=by rw[←hpv];exact h.cellAt 4 rfl
 have lg:=h.lt
 have hpn:=h.b
 have HC:Hid (∀(k:Nat) (c:Kl),W.gK[k]?=some c→∃cb,ca=some ⟨cb,0,none⟩∧cb<w.heap.size∧w.cell? ⟨cb,k*11+2,none⟩=some (.int .i64 c.kind)∧w.cell? ⟨cb,k*11+3,none⟩=some (.int .i64 c.pos)∧w.cell? ⟨cb,k*11+8,none⟩=some (.int .i64 c.r.wh)):=fun k c hc=>by
  have hk:=(List.getElem?_eq_some_iff.1 hc).1
  have hr:=h.ca.row
  rw[hcv] at hr
  obtain⟨cb,e1,_,e2,e3,_⟩:=hr.cells (by omega)
  obtain⟨tv,rv,f0,f1,f2,f3,f4,f5,f6,f7,f8,_⟩:=h.ca.c k c hc
  exact⟨cb,e1,e2,(e3 _ (by omega)).H f2,(e3 _ (by omega)).H f3,(e3 _ (by omega)).H f8⟩
 have HP:Hid (∀(i:Nat) (P:Pl),W.pl[i]?=some P→∃pb,pa=some ⟨pb,0,none⟩∧pb<w.heap.size∧w.cell? ⟨pb,i*5,none⟩=some (.int .i64 (jZ W.n W.m i))∧w.cell? ⟨pb,i*5+3,none⟩=some (.bool P.up)∧w.cell? ⟨pb,i*5+4,none⟩=some (.bool P.oB)):=fun i P hP=>by
  have hk:=(List.getElem?_eq_some_iff.1 hP).1
  have hr:=h.a.row
  rw[hpv] at hr
  obtain⟨pb,e1,_,e2,e3,_⟩:=hr.cells (by omega)
  obtain⟨gi,mk,⟨f0,f1,f2,f3,f4⟩,_⟩:=h.a.pl i P hP
  exact⟨pb,e1,e2,(e3 _ (by omega)).H f0,(e3 _ (by omega)).H f3,(e3 _ (by omega)).H f4⟩
 have HA:=gP ha
 have HKd:Hid (∀(k:Nat) (c:Kl),W.gK[k]?=some c→c.kind=1∨c.kind=2∨c.kind=3∨c.kind=4∨c.kind=5):=fun k c hc=>(hW.ca c (List.mem_of_getElem? hc)).kd
 clear hW
 clear h hcv hpv ha
 go_enter func69,ntmps69
 go_wp2_with fail
 go_loopw [3] (fun t wr=>∃k:Nat,k≤W.pl.length∧t= .int .i64 k∧Hid (Bl w wr)) (fun t _=>W.pl.length-(Go.RowKit.intOf t).toNat)
 case atStart=>exact⟨0,Nat.zero_le _,rfl,Bl.refl _⟩
 case round=>
  obtain⟨i,hi,rfl,HB⟩:=hrel
  have c4':=(HB.o.cell lg).H c4
  have lg':=Nat.lt_of_lt_of_le lg HB.o.lt
  by_cases ja:i<W.pl.length
  ·have hltI:(i:Int)<(W.pl.length:Int):=by omega
   obtain⟨P,hP⟩:∃P,W.pl[i]?=some P:=⟨_,List.getElem?_eq_getElem ja⟩
   obtain⟨pb,rfl,lpb,p0,p3,p4⟩:=HP.o i P hP
   have HAi:=gP (HA.o i P hP)
   generalize jZ W.n W.m i=pid at p0
   generalize P.up=up at p3 HAi
   generalize P.oB=oB at p4 HAi
   clear hP
   go_wp2_with fail
   go_loopw [4,5] (fun b j wx=>∃k:Nat,∃bb:Bool,k≤W.gK.length∧b= .bool bb∧j= .int .i64 k∧Hid (Bl w wx)) (fun _ j _=>W.gK.length-(Go.RowKit.intOf j).toNat)
   case atStart=>exact⟨0,false,Nat.zero_le _,rfl,rfl,HB⟩
   case round=>
    obtain⟨k,bb,hk,rfl,rfl,HX⟩:=hrel
    have x4:=(HX.o.cell lg).H c4
    have x7:=(HX.o.cell lg).H c7
    have lx:=Nat.lt_of_lt_of_le lg HX.o.lt
    have lpx:=Nat.lt_of_lt_of_le lpb HX.o.lt
    have y0:=(HX.o.cell lpb).H p0
    have y3:=(HX.o.cell lpb).H p3
    have y4:=(HX.o.cell lpb).H p4
    by_cases hkl:k<W.gK.length
    ·have hkI:(k:Int)<(W.gK.length:Int):=by omega
     obtain⟨c,hc⟩:∃c,W.gK[k]?=some c:=⟨_,List.getElem?_eq_getElem hkl⟩
     obtain⟨cb,rfl,lcb,d2,d3,d8⟩:=HC.o k c hc
     have HK:=HKd.o k c hc
     generalize c.kind=ki at d2 HK
     generalize c.pos=po at d3
     generalize c.r.wh=wh at d8
     have z2:=(HX.o.cell lcb).H d2
     have z3:=(HX.o.cell lcb).H d3
     have z8:=(HX.o.cell lcb).H d8
     have lcx:=Nat.lt_of_lt_of_le lcb HX.o.lt
     clear hc d2 d3 d8 p0 p3 p4 c4 c7 c4' HP HC
     cases bb with
     |true=>
      clear HK
      go_upto_region 8 with fail
      go_quiet(fail)
      go_wp2
      exact⟨⟨k+1,true,by omega,rfl,by go_num,HX.o.drewN _⟩,by simp[Go.RowKit.intOf];omega⟩
     |false=>
      by_cases h5:ki=5
      ·subst h5
       clear HK
       by_cases h1:wh=1
       ·subst h1
        by_cases hq:po=pid
        ·subst hq
         go_upto_region 8 with fail
         go_quiet(fail)
         go_wp2
         exact⟨⟨k+1,true,by omega,by simp,by go_num,HX.o.drewN _⟩,by simp[Go.RowKit.intOf];omega⟩
        ·have hq':decide (po=pid)=false:=by simp[hq]
         go_upto_region 8 with fail
         go_quiet(fail)
         go_wp2
         exact⟨⟨k+1,false,by omega,by simp[hq],by go_num,HX.o.drewN _⟩,by simp[Go.RowKit.intOf];omega⟩
       ·have hq':decide (wh=1)=false:=by simp[h1]
        go_upto_region 8 with fail
        go_quiet(fail)
        go_wp2
        exact⟨⟨k+1,false,by omega,by simp,by go_num,HX.o.drewN _⟩,by simp[Go.RowKit.intOf];omega⟩
      ·obtain hk4:ki=1∨ki=2∨ki=3∨ki=4:=by have:=HK;omega
       clear h5 HK
       rcases hk4 with rfl|rfl|rfl|rfl
       all_goals
        go_upto_region 8 with fail
        go_quiet(fail)
        go_wp2
        exact⟨⟨k+1,false,by omega,by simp,by go_num,HX.o.drewN _⟩,by simp[Go.RowKit.intOf];omega⟩
    ·have hkI:¬((k:Int)<(W.gK.length:Int)):=by omega
     clear p0 p3 p4 c4 c7 c4'
     cases up with
     |true=>
      clear HAi
      go_wp2
      exact⟨⟨i+1,by omega,by go_num,HX⟩,by simp[Go.RowKit.intOf];omega⟩
     |false=>
      obtain rfl:oB=true:=HAi.o.resolve_left (by decide)
      clear HAi
      go_wp2
      exact⟨⟨i+1,by omega,by go_num,HX⟩,by simp[Go.RowKit.intOf];omega⟩
  ·have hge:¬((i:Int)<(W.pl.length:Int)):=by omega
   go_wp2
   go_ret
   exact⟨rfl,HB.o⟩
end
def Eqa(W W':Wd):Prop:=∃a,W'={W with iN:=a}
section
variable{W W' W2:Wd}
def Eqa.refl(W:Wd):Eqa W W:=⟨W.iN,rfl⟩
def Eqa.H(h:Eqa W W')(k:Eqa W' W2):Eqa W W2:=by obtain⟨a,rfl⟩:=h;obtain⟨b,rfl⟩:=k;exact⟨b,rfl⟩
def Eqa.kU(h:Eqa W W')(k:Nat):Eqa (W.kU k) (W'.kU k):=by
 obtain⟨a,rfl⟩:=h;unfold Wd.kU;dsimp only;split
 .split
  .exact⟨_,rfl⟩
  split<;>exact⟨_,rfl⟩
 split
 .exact⟨_,rfl⟩
 split<;>exact⟨_,rfl⟩
theorem Eqa.foldl{α:Type}(f:Wd->α->Wd)(i:∀W W' x,Eqa W W'->Eqa (f W x) (f W' x)):∀(l:List α) {W W':Wd},Eqa W W'->Eqa (l.foldl f W) (l.foldl f W')
 |[],_,_,h=>h
 |x::l,_,_,h=>Eqa.foldl f i l (i _ _ x h)
def Eqa.jL(h:Eqa W W'):Eqa W.jL W'.jL:=by
 have i:W'.pl.length+W'.ac.length=W.pl.length+W.ac.length:=by obtain⟨a,rfl⟩:=h;rfl
 unfold Wd.jL;rw[i];refine Eqa.foldl _ (λ_ _ k h=>h.kU k) _ ?_;obtain⟨a,rfl⟩:=h;exact⟨_,rfl⟩
def Eqa.lS(h:Eqa W W')(l:Le):Eqa (W.lS l) (W'.lS l):=by obtain⟨a,rfl⟩:=h;unfold Wd.lS;have:({W with iN:=a}:Wd).rR l.fr l.tt=W.rR l.fr l.tt:=rfl;rw[this];split<;>exact⟨_,rfl⟩
def Eqa.mJ(h:Eqa W W')(i:List Le):Eqa (W.mJ i) (W'.mJ i):=Eqa.foldl _ (λ_ _ l h=>h.lS l) i h
def Eqa.iA(h:Eqa W W'):W'.iA=W.iA:=by obtain⟨a,rfl⟩:=h;rfl
def Eqa.gK(h:Eqa W W'):W'.gK=W.gK:=by obtain⟨a,rfl⟩:=h;rfl
def Eqa.ac(h:Eqa W W'):W'.ac=W.ac:=by obtain⟨a,rfl⟩:=h;rfl
def Eqa.pl(h:Eqa W W'):W'.pl=W.pl:=by obtain⟨a,rfl⟩:=h;rfl
def Eqa.step(h:Eqa W W'):Eqa W.step W'.step:=by unfold Wd.step;rw[h.jL.iA];refine Eqa.mJ ?_ _;have i:=h.iA;let⟨a,e⟩:=h.jL;exact⟨a,jS e i⟩
theorem Eqa.qz:∀(k:Nat) {W W':Wd},Eqa W W'->Eqa (W.qz k).1 (W'.qz k).1/\(W'.qz k).2=(W.qz k).2
 |0,_,_,h=>⟨h,rfl⟩
 |k+1,W,W',h=>by
  unfold Wd.qz;rw[h.jL.iA];split
  .exact⟨h.step,rfl⟩
  exact Eqa.qz k h.step
def Eqa.qi(h:Eqa W W')(i:Nat)(X:Cx):Eqa (W.qi i X) (W'.qi i X):=by obtain⟨a,rfl⟩:=h;exact⟨_,rfl⟩
def Eqa.ld(h:Eqa W W')(x y t:Int):Eqa (W.ld x y t) (W'.ld x y t):=by
 obtain⟨a,rfl⟩:=h;unfold Wd.ld;dsimp only;split
 .exact⟨_,rfl⟩
 split<;>exact⟨_,rfl⟩
def Eqa.sq(h:Eqa W W'):W'.sq=W.sq:=by obtain⟨a,rfl⟩:=h;rfl
theorem Eqa.oP(h:Eqa W W')(i:Nat):∀k,Eqa (W.oP i k) (W'.oP i k)
 |0=>h
 |k+1=>by unfold Wd.oP;rw[(Eqa.oP h i k).sq];exact(Eqa.oP h i k).ld _ _ _
def Eqa.nH(h:Eqa W W')(i:Nat):Eqa (W.nH i) (W'.nH i):=by
 unfold Wd.nH;rw[h.ac];split
 .exact h
 split
 .exact(h.qi _ _).oP _ _
 exact h
def Eqa.round(h:Eqa W W'):Eqa W.round.1 W'.round.1/\W'.round.2=W.round.2:=by unfold Wd.round Wd.j0;rw[h.ac];exact Eqa.qz 300 (Eqa.foldl _ (λ_ _ i h=>h.nH i) _ h)
def Eqa.call(h:Eqa W W')(k x y:Int):Eqa (W.call k x y) (W'.call k x y):=by
 obtain⟨a,rfl⟩:=h;unfold Wd.call;dsimp only;split
 .exact⟨_,rfl⟩
 split
 .split<;>exact⟨_,rfl⟩
 exact⟨_,rfl⟩
def Eqa.kS(h:Eqa W W'):Eqa W.kS W'.kS:=by obtain⟨a,rfl⟩:=h;unfold Wd.kS;dsimp only;split<;>exact⟨_,rfl⟩
end
def Pl.rest(P:Pl):Pl:=if P.up then P.mF else P
def Ac.gone(A:Ac):Ac:=if A.up then{A with X:=A.X.mF}else A
def Ac.ticked(A:Ac):Ac:=if A.up then{A with X:=A.X.nM}else A
namespace Wd
def rest(W:Wd):Wd:={W with pl:=W.pl.map Pl.rest,ac:=W.ac.map λA=>A.ticked.gone}
def idle(W:Wd):Bool:=(W.pl.all λP=> !P.up||P.q.isEmpty)&&W.ac.all λA=> !A.up||(A.X.a.isEmpty&& !A.X.d.qU)
def rnd(W:Wd):Nat->Wd
 |0=>W
 |k+1=>(W.rnd k).round.1
end Wd
def tick_nil{X:Cx}(h:X.a=[]):X.nM={X with wl:=X.wb,e:=0,mv:=Mv.zero,a:=[]}:=by let⟨n,m,i,ce,id,j,lay,y,A,F,H,L,M,mv,P,wl⟩:=X;simp only at h;subst h;rfl
section
variable{W:Wd}
theorem roundTo_idle(h:∀(i:Nat) (A:Ac),W.ac[i]?=some A->A.up=true->A.X.a=[]):∀k,Eqa {W with ac:=W.ac.mapIdx λi A=>if i<k then A.ticked else A} (W.j0 k)
 |0=>by
  refine⟨W.iN,?_⟩;have:(W.ac.mapIdx λi A=>if i<0 then A.ticked else A)=W.ac:=by
   refine bJ λi=>?_;rw[gz]
   cases W.ac[i]?<;>simp
  rw[this];rfl
 |k+1=>by
  rw[qy];have T:=roundTo_idle h k;have V:=T.nH k;refine Eqa.H ?_ V;unfold Wd.nH;dsimp only;rw[gz];have P:∀f:Ac->Ac,(∀A,W.ac[k]?=some A->f A=A.ticked)->((W.ac.mapIdx λi A=>if i<k then A.ticked else A).modify k f)=W.ac.mapIdx λi A=>if i<k+1 then A.ticked else A:=by
   intro f L;refine bJ λi=>?_;rw[bS,gz,gz]
   cases Y:W.ac[i]? with
   |none=>simp
   |some A=>
    by_cases e:k=i
    .subst e;simp[L A Y]
    by_cases M:i<k
    .simp[e,M,Nat.lt_succ_of_lt M]
    simp[e,M,show¬i<k+1 by omega]
  have Q:(∀A,W.ac[k]?=some A->A.ticked=A)->(W.ac.mapIdx λi A=>if i<k then A.ticked else A)=W.ac.mapIdx λi A=>if i<k+1 then A.ticked else A:=by intro L;rw[<-P id λA j=>(L A j).symm];refine bJ λi=>?_;rw[bS];simp
  cases j:W.ac[k]? with
  |none=>simp only[Option.map_none];rw[Q λA y=>by rw[j]at y;cases y];exact Eqa.refl _
  |some A=>
   simp only[bG,fQ,if_false];by_cases F:A.up=true
   .rw[aE F];have Z:=h k A j F;have hw:A.X.nM.jA.length=0:=by rw[tick_nil Z];rfl
    rw[hw];refine⟨W.iN+1,?_⟩;show Wd.qi _ _ _=_;unfold Wd.qi;rw[P (λB=>{B with X:=A.X.nM}) λB H=>by rw[j]at H;cases H;unfold Ac.ticked;rw[aE F]]
   rw[az F,Q λB H=>by rw[j]at H;cases H;unfold Ac.ticked;rw[az F]];exact Eqa.refl _
theorem outsTo_idle(hp:∀(i:Nat) (P:Pl),W.pl[i]?=some P->P.up=true->P.q=[])(ha:∀(i:Nat) (A:Ac),W.ac[i]?=some A->A.up=true->A.X.jL=[]):∀k,Eqa {W with iA:=[],pl:=W.pl.mapIdx λi P=>if i<k then P.rest else P,ac:=W.ac.mapIdx λi A=>if i+W.pl.length<k then A.gone else A} (W.D k)
 |0=>by
  refine⟨W.iN,?_⟩;have M:(W.pl.mapIdx λi P=>if i<0 then P.rest else P)=W.pl:=by
   refine bJ λi=>?_;rw[gz]
   cases W.pl[i]?<;>simp
  have T:(W.ac.mapIdx λi A=>if i+W.pl.length<0 then A.gone else A)=W.ac:=by
   refine bJ λi=>?_;rw[gz]
   cases W.ac[i]?<;>simp
  rw[M,T];rfl
 |k+1=>by
  rw[pZ];refine Eqa.H ?_ ((outsTo_idle hp ha k).kU k);unfold Wd.kU;dsimp only;rw[dJ];by_cases V:k<W.pl.length
  .rw[aE V,gz];have T:(W.ac.mapIdx λi A=>if i+W.pl.length<k+1 then A.gone else A)=W.ac.mapIdx λi A=>if i+W.pl.length<k then A.gone else A:=by refine bJ λi=>?_;rw[gz,gz];simp only[show¬i+W.pl.length<k+1 by omega,show¬i+W.pl.length<k by omega,if_false]
   let⟨P,hP⟩:=mm V;have Y:W.pl[k]=P:=(aj.1 hP).2;rw[hP];simp only[bG,fQ,if_false];have M:∀Q,Q=P.rest->(W.pl.mapIdx λi P=>if i<k then P.rest else P).set k Q=W.pl.mapIdx λi P=>if i<k+1 then P.rest else P:=by
    intro Q hQ;refine bJ λi=>?_;rw[List.getElem?_set,gz,gz,dJ];by_cases e:k=i
    .subst e;simp[V,hQ,Y]
    cases H:W.pl[i]? with
    |none=>simp[e]
    |some R=>
     by_cases F:i<k
     .simp[e,F,Nat.lt_succ_of_lt F]
     simp[e,F,show¬i<k+1 by omega]
   by_cases y:P.up=true
   .rw[aE y,M P.mF (by unfold Pl.rest;rw[aE y]),hp k P hP y,T];exact⟨_,rfl⟩
   rw[az y];have Z:=M P (by unfold Pl.rest;rw[az y]);have e4:(W.pl.mapIdx λi P=>if i<k then P.rest else P).set k P=W.pl.mapIdx λi P=>if i<k then P.rest else P:=by
    refine bJ λi=>?_;rw[List.getElem?_set,gz,dJ];by_cases e:k=i
    .subst e;simp[V,Y]
    simp[e]
   rw[T,<-Z,e4];exact Eqa.refl _
  rw[az V];have M:(W.pl.mapIdx λi P=>if i<k+1 then P.rest else P)=W.pl.mapIdx λi P=>if i<k then P.rest else P:=by
   refine bJ λi=>?_;rw[gz,gz]
   cases H:W.pl[i]? with
   |none=>rfl
   |some R=>have:=(aj.1 H).1;simp only[bG,show i<k+1 by omega,show i<k by omega,if_true]
  obtain⟨j,rfl⟩:∃j,k=j+W.pl.length:=⟨k-W.pl.length,C⟩;rw[Nat.add_sub_cancel,gz];have T:∀B,(∀A,W.ac[j]?=some A->B=A.gone)->(W.ac.mapIdx λi A=>if i+W.pl.length<j+W.pl.length then A.gone else A).set j B=W.ac.mapIdx λi A=>if i+W.pl.length<j+W.pl.length+1 then A.gone else A:=by
   intro B L;refine bJ λi=>?_;rw[List.getElem?_set,gz,gz,dJ]
   cases H:W.ac[i]? with
   |none=>
    have:=List.getElem?_eq_none_iff.1 H;by_cases e:j=i
    .subst e;simp;omega
    simp[e]
   |some R=>
    have a0:=(aj.1 H).1;by_cases e:j=i
    .subst e;simp[a0,L R H]
    by_cases F:i<j
    .simp[e,F,show i+W.pl.length<j+W.pl.length+1 by omega]
    simp[e,F,show¬i+W.pl.length<j+W.pl.length+1 by omega]
  have Z:(∀A,W.ac[j]?=some A->A.gone=A)->(W.ac.mapIdx λi A=>if i+W.pl.length<j+W.pl.length+1 then A.gone else A)=W.ac.mapIdx λi A=>if i+W.pl.length<j+W.pl.length then A.gone else A:=by
   intro hf;refine bJ λi=>?_;rw[gz,gz]
   cases H:W.ac[i]? with
   |none=>rfl
   |some R=>
    by_cases e:i=j
    .subst e;simp[hf R H]
    by_cases F:i<j
    .simp[F,show i+W.pl.length<j+W.pl.length+1 by omega]
    simp[F,show¬i+W.pl.length<j+W.pl.length+1 by omega]
  rw[M]
  cases hA:W.ac[j]? with
  |none=>simp only[Option.map_none];rw[Z λA h=>by rw[hA]at h;cases h];exact Eqa.refl _
  |some A=>
   simp only[bG,fQ,if_false];by_cases y:A.up=true
   .rw[aE y,T _ λB L=>by rw[hA]at L;cases L;unfold Ac.gone;rw[aE y],ha j A hA y];exact⟨_,rfl⟩
   rw[az y,Z λB L=>by rw[hA]at L;cases L;unfold Ac.gone;rw[az y]];exact Eqa.refl _
end
section
variable{W W' W2:Wd}
def idle_pl(h:W.idle=true)(i:Nat)(P:Pl)(j:W.pl[i]?=some P)(y:P.up=true):P.q=[]:=by unfold Wd.idle at h;have A:=(bL _ _▸h).1;have:=List.all_eq_true.1 A P (aR j);simpa [y]using this
def idle_ac(h:W.idle=true)(i:Nat)(A:Ac)(j:W.ac[i]?=some A)(y:A.up=true):A.X.a=[]/\A.X.d.qU=false:=by unfold Wd.idle at h;have F:=(bL _ _▸h).2;have:=List.all_eq_true.1 F A (aR j);simpa [y]using this
def tick_outs{X:Cx}(h:X.a=[])(i:X.d.qU=false):X.nM.jL=[]:=by rw[tick_nil h];unfold Cx.jL;simp[Qn.jL,i,Mv.zero,Qn.zero]
theorem mapIdx_all{α:Type}(l:List α)(f:α->α)(c:Nat->Prop)[DecidablePred c](j:∀i,i<l.length->c i):(l.mapIdx λi a=>if c i then f a else a)=l.map f:=by
 refine bJ λi=>?_;rw[gz,aK]
 cases h:l[i]? with
 |none=>rfl
 |some a=>simp[j i (aj.1 h).1]
def Eqa.rest(h:Eqa W W'):Eqa W.rest W'.rest:=by obtain⟨a,rfl⟩:=h;exact⟨_,rfl⟩
def Eqa.idle(h:Eqa W W'):W'.idle=W.idle:=by obtain⟨a,rfl⟩:=h;rfl
def idle_round(h:W.idle=true):W.round.2=true/\Eqa W.rest W.round.1:=by
 have hp:=idle_pl h;have Q:=idle_ac h;have T:=roundTo_idle (λi A L y=>(Q i A L y).1) W.ac.length;rw[mapIdx_all W.ac Ac.ticked (λi=>i<W.ac.length) λi V=>V]at T;let⟨W1,j⟩:=gJ ({W with ac:=W.ac.map Ac.ticked}:Wd);rw[j]at T;have M:=outsTo_idle (W:=W1) (λi P Z y=>hp i P (by rwa[<-j]at Z) y) (λi A L y=>by
  rw[<-j]at L
  have H:(W.ac.map Ac.ticked)[i]?=some A:=L
  rw[aK]at H
  obtain⟨B,hB,rfl⟩:=bN.1 H
  have F:B.up=true:=by
   unfold Ac.ticked at y
   split at y
   .rename_i e;exact e
   .exact y
  unfold Ac.ticked
  rw[aE F]
  exact tick_outs (Q i B hB F).1 (Q i B hB F).2) (W1.pl.length+W1.ac.length)
 rw[mapIdx_all W1.pl Pl.rest (λi=>i<W1.pl.length+W1.ac.length) λi V=>C,mapIdx_all W1.ac Ac.gone (λi=>i+W1.pl.length<W1.pl.length+W1.ac.length) λi V=>C,<-Ka]at M;have hx:W1.qz 300=(W1.step,true):=by show W1.qz (299+1)=_;unfold Wd.qz;rw[aE (by rw[M.iA];rfl)]
 have Y:=Eqa.qz 300 T;rw[hx]at Y;refine⟨Y.2,Eqa.H ?_ Y.1⟩;unfold Wd.step;rw[M.iA];let⟨a,e⟩:=M;refine⟨a,?_⟩;show({W1.jL with iA:=W1.iA}:Wd)=_;rw[e];subst j;unfold Wd.rest;simp only[br];rfl
def pl_rest(P:Pl):P.rest.rest=P.rest:=by
 unfold Pl.rest;by_cases h:P.up=true
 .rw[aE h,aE (show P.mF.up=true from h)];let⟨i,q,j,y⟩:=P
  cases i<;>rfl
 rw[az h,az h]
def tick_sent{X:Cx}(h:X.a=[]):X.nM.mF.nM.mF=X.nM.mF:=by
 have i:X.nM.mF.a=[]:=by rw[tick_nil h];rfl
 rw[tick_nil i,tick_nil h];rfl
theorem ac_rest{A:Ac}(h:A.up=true->A.X.a=[]):A.ticked.gone.ticked.gone=A.ticked.gone:=by
 let⟨X,i⟩:=A
 cases i with
 |false=>rfl
 |true=>show(⟨X.nM.mF.nM.mF,true⟩:Ac)=⟨X.nM.mF,true⟩;rw[tick_sent (h rfl)]
def rest_rest(h:W.idle=true):W.rest.rest=W.rest:=by
 have j:=idle_ac h;have y:(W.pl.map Pl.rest).map Pl.rest=W.pl.map Pl.rest:=by rw[br];exact bf λP _=>pl_rest P
 have F:(W.ac.map λA=>A.ticked.gone).map (λA=>A.ticked.gone)=W.ac.map λA=>A.ticked.gone:=by rw[br];refine bf λA H=>?_;obtain⟨i,L⟩:=List.mem_iff_getElem?.1 H;exact ac_rest λM=>(j i A L M).1
 show({W with pl:=(W.pl.map Pl.rest).map Pl.rest,ac:=(W.ac.map λA=>A.ticked.gone).map λA=>A.ticked.gone}:Wd)=_;rw[y,F];rfl
theorem rest_idle(h:W.idle=true):W.rest.idle=true:=by
 have T:=idle_pl h;have j:=idle_ac h;unfold Wd.idle;refine bL _ _▸⟨List.all_eq_true.2 λP y=>?_,List.all_eq_true.2 λA F=>?_⟩
 .obtain⟨Q,V,rfl⟩:=aD.1 (show P∈W.pl.map Pl.rest from y);unfold Pl.rest;split
  .simp[Pl.mF]
  rename_i e;simp[e]
 obtain⟨B,H,rfl⟩:=aD.1 (show A∈W.ac.map λA=>A.ticked.gone from F);obtain⟨i,L⟩:=List.mem_iff_getElem?.1 H;let⟨X,M⟩:=B
 cases M with
 |false=>rfl
 |true=>have:=(j i _ L rfl).1;let⟨n,m,Y,ce,id,Z,lay,iI,gM,ib,jr,kG,iS,mv,wb,wl⟩:=X;simp only at this;subst this;rfl
theorem idle_rnd (h:W.idle=true):∀r,(∀k,k≤r→(W.rnd k).round.2=true)∧Eqa W.rest (W.rnd (r+1))
 |0=>⟨fun k hk=>by obtain rfl:k=0:=by omega
                   exact(idle_round h).1,(idle_round h).2⟩
 |r+1=>by
  obtain⟨h1,h2⟩:=idle_rnd h r
  have hi:(W.rnd (r+1)).idle=true:=by rw[h2.idle];exact rest_idle h
  obtain⟨h3,h4⟩:=idle_round hi
  refine⟨fun k hk=> ?_, ?_⟩
  ·by_cases e:k=r+1
   ·rw[e];exact h3
   ·exact h1 k (by omega)
  ·have:=h2.rest
   rw[rest_rest h] at this
   exact this.H h4
theorem rnd_shift(W:Wd):∀k,W.rnd (k+1)=(W.round.1).rnd k
 |0=>rfl
 |k+1=>by show(W.rnd (k+1)).round.1=((W.round.1).rnd k).round.1;rw[rnd_shift W k]
def Wd.actv(W:Wd):Nat->Option Wd
 |0=>none
 |k+1=>if W.idle then .some W.rest else if W.round.2 then W.round.1.actv k else none
theorem actv_rnd:∀(f:Nat) {W W2:Wd},W.actv f=some W2->∀r,f<=r->(∀k,k<r->(W.rnd k).round.2=true)/\Eqa W2 (W.rnd r)
 |0,_,_,h,_,_=>by cases h
 |f+1,W,W2,h,r,L=>by
  obtain⟨r,rfl⟩:∃q,r=q+1:=⟨r-1,C⟩;unfold Wd.actv at h;by_cases j:W.idle=true
  .rw[aE j]at h
   cases h;obtain⟨y,i⟩:=idle_rnd j r;exact⟨λk A=>y k C,i⟩
  rw[az j]at h;by_cases i:W.round.2=true
  .rw[aE i]at h;obtain⟨F,H⟩:=actv_rnd f h r C;refine⟨λk A=>?_,by rw[rnd_shift];exact H⟩
   cases k with
   |zero=>exact i
   |succ k=>rw[rnd_shift];exact F k C
  rw[az i]at h
  cases h
theorem Eqa.rnd(h:Eqa W W'):∀k,Eqa (W.rnd k) (W'.rnd k)
 |0=>h
 |k+1=>((Eqa.rnd h k).round).1
def calm_of(h:Eqa W W')(i:W.actv 80=some W2):(∀k,k<80->(W'.rnd k).round.2=true)/\Eqa W2 (W'.rnd 80):=by obtain⟨j,y⟩:=actv_rnd 80 i 80 jl;exact⟨λk A=>by rw[((h.rnd k).round).2];exact j k A,y.H (h.rnd 80)⟩
end
def rAge:Nat:=136+2422*300
def Kp.round{W:Wd}(h:Wk W):Kp rAge W W.round.1:=by have i:=Kp.j0 h W.ac.length;have:=h.a;exact(i.H (CZ 300 i.k)).L (by unfold rAge;omega)
theorem Kp.rnd{W:Wd}(h:Wk W):∀k,Kp (rAge*k) W (W.rnd k)
 |0=>Kp.refl h
 |k+1=>((Kp.rnd h k).H (Kp.round (Kp.rnd h k).k)).L (by rw[Nat.mul_succ];exact jl)
section
variable{w:World}{gH:Nat->Nat}{g:Nat}{W:Wd}{V:WV}
theorem calm_any (h:jG w gH g W V) (hW:Wk W) (hS:W.iN+rAge*80≤3000000000) (hC:W.gK.length≤9999999) (hpt:GA W.jT) (hka:0<W.ac.length) (ha:Awake W)
 (hr:∀k,k<80→(W.rnd k).round.2=true) (he:∀c∈(W.rnd 80).gK,c.fin≠0):
 Calls prog 35 #[.pointer (some ⟨g,0,none⟩)] w fun en w'=>en=gX (.bool true)∧∃gI,jB Pr w gH w' gI∧Wx w' gI g (W.rnd 80):=by
 have HWk:=gP (wake_any h hW (by omega) ha)
 have HX0:Hid (∀w',Bl w w'→jG w' gH g W V):=fun w' hb=>h.bl hb fun _ _=>rfl
 have HO:Hid (∀k,k≤80→Kp (rAge*k) W (W.rnd k)):=fun k _=>Kp.rnd hW k
 have Hpt:=gP hpt
 have Hr:=gP hr
 have He:=gP he
 clear h hW hpt ha hr he
 go_enter func35,ntmps35
 go_wp2_with fail
 refine HWk.o.L ?_
 rintro en w1 ⟨rfl,hb1⟩
 have HK1:Hid (jB Pr w gH w1 gH):=jB.A hb1 fun _ _=>rfl
 have HX1:=gP (HX0.o w1 hb1)
 clear HX0 HWk hb1
 go_wp2_with fail
 go_loopw [3,4] (fun b j wr=>∃(k:Nat) (gI:Nat→Nat) (V':WV),k≤80∧b= .bool true∧j= .int .i64 k∧Hid (jB Pr w gH wr gI)∧Hid (jG wr gI g (W.rnd k) V')) (fun _ j _=>80-(Go.RowKit.intOf j).toNat)
 case atStart=>exact⟨0,gH,V,Nat.zero_le _,rfl,rfl,HK1,HX1⟩
 case round=>
  clear HK1 HX1
  obtain⟨k,gI,V',hk,rfl,rfl,HK,HX⟩:=hrel
  by_cases ja:k<80
  ·have hltI:(k:Int)<80:=by omega
   have o:=HO.o k (by omega)
   have hage:=o.iN
   have hm1:rAge*k+rAge≤rAge*80:=by have:rAge*(k+1)≤rAge*80:=Nat.mul_le_mul_left _ (by omega);rw[Nat.mul_succ] at this;exact this
   have HC:=gP (LU HX.o o.k (by have:rAge=136+2422*300:=rfl;omega) (by rw[o.cl];exact hC) (by rw[o.ms];exact Hpt.o) (by rw[o.a];exact hka))
   rw[Hr.o k ja] at HC
   clear o hage hm1
   go_wp2_with(go_at_call 37;refine HC.o.L ?_;rintro en w5 ⟨rfl,tag5,k5,V5,h5⟩;have HK5:=gP k5;have HX5:=gP h5;clear k5 h5)
   exact⟨⟨k+1,tag5,V5,by omega,by trivial,by go_num,HK.o.H HK5.o,HX5⟩,by simp[Go.RowKit.intOf];omega⟩
  ·have hge:¬((k:Int)<80):=by omega
   obtain rfl:k=80:=by omega
   have h:=HX.o
   obtain⟨ca,cc,hcv⟩:=h.ca.row.B
   have c7:wr.cell? ⟨g,7,none⟩=some (gN ca (W.rnd 80).gK.length cc):=by rw[←hcv];exact h.cellAt 7 rfl
   have lg:=h.lt
   have hC2:(W.rnd 80).gK.length≤9999999:=by rw[(HO.o 80 (by omega)).cl];exact hC
   have HCl:Hid (∀(k:Nat) (c:Kl),(W.rnd 80).gK[k]?=some c→∃cb,ca=some ⟨cb,0,none⟩∧cb<wr.heap.size∧wr.cell? ⟨cb,k*11+7,none⟩=some (.int .i64 c.fin)∧c.fin≠0):=fun k c hc=>by
    have hk:=(List.getElem?_eq_some_iff.1 hc).1
    have hr:=h.ca.row
    rw[hcv] at hr
    obtain⟨cb,e1,_,e2,e3,_⟩:=hr.cells (by omega)
    obtain⟨tv,rv,f0,f1,f2,f3,f4,f5,f6,f7,_⟩:=h.ca.c k c hc
    exact⟨cb,e1,e2,(e3 _ (by omega)).H f7,He.o c (List.mem_of_getElem? hc)⟩
   generalize hln:(W.rnd 80).gK.length=ln at*
   have Hln:=gP hln
   clear h hcv hln He HO
   go_wp2_with fail
   go_loopw [5] (fun j wx=>∃k:Nat,k≤ln∧j= .int .i64 k∧Hid (Bl wr wx)) (fun j _=>ln-(Go.RowKit.intOf j).toNat)
   case atStart=>exact⟨0,Nat.zero_le _,rfl,Bl.refl _⟩
   case round=>
    obtain⟨k,hk,rfl,HB⟩:=hrel
    have x7:=(HB.o.cell lg).H c7
    have lx:=Nat.lt_of_lt_of_le lg HB.o.lt
    by_cases hkl:k<ln
    ·have hkI:(k:Int)<(ln:Int):=by omega
     obtain⟨c,hc⟩:∃c,(W.rnd 80).gK[k]?=some c:=⟨_,List.getElem?_eq_getElem (by rw[Hln.o];exact hkl)⟩
     obtain⟨cb,rfl,lcb,d7,hne⟩:=HCl.o k c hc
     generalize c.fin=fi at d7 hne
     have z7:=(HB.o.cell lcb).H d7
     have lcx:=Nat.lt_of_lt_of_le lcb HB.o.lt
     have hq':decide (fi=0)=false:=by simp[hne]
     clear hc d7 c7 HCl
     go_upto_region 11 with fail
     go_quiet(fail)
     go_wp2
     exact⟨⟨k+1,by omega,by go_num,HB.o.drewN _⟩,by simp[Go.RowKit.intOf];omega⟩
    ·have hkI:¬((k:Int)<(ln:Int)):=by omega
     go_wp2
     go_ret
     exact⟨rfl,gI,HK.o.H (jB.A HB.o fun _ _=>rfl),V',HX.o.bl HB.o fun _ _=>rfl⟩
end
namespace Wd
def stop(W:Wd)(i:Nat):Wd:={W with pl:=W.pl.modify i λP=>{P with up:=false,oB:=true}}
def calmE(W:Wd):Option Wd:=match W.actv 80 with
 |none=>none
 | .some W2=>if W2.gK.all λc=>c.fin !=0 then .some W2 else none
def rds(W:Wd)(i:Nat):Nat->Option Wd
 |0=>W.calmE
 |r+1=>if i%8=7 then(match(W.call 2 ((1+i/8%2:Nat):Int) (i:Nat)).calmE with
  |none=>none
  | .some W2=>W2.rds (i+1) r)
  else(W.call 2 ((1+i/8%2:Nat):Int) (i:Nat)).rds (i+1) r
def pw(g:Nat):Nat:=g-g%2+1-g%2
def lastIs(W:Wd)(n:Nat)(wh:Int):Bool:=W.gK.length==n+1&&(match W.gK[n]? with
 | .some a=>a.r.wh==wh
 |none=>false)
def good(W:Wd)(n:Nat):Bool:=(List.range n).all λi=>match W.gK[n+2+i]? with
 | .some x=>x.r.wh==8&&x.r.val==j4 i
 |none=>false
def chgA(W:Wd)(n g:Nat):Option (Wd×Wd):=match(((W.stop g).kS).call 5 1 (g:Nat)).calmE with
 |none=>none
 | .some W2=>match(W2.call 5 1 (pw g:Nat)).calmE with
  |none=>none
  | .some W3=>if W2.lastIs n 1&&W3.lastIs (n+1) 6 then .some (W2,W3)else none
def Ly(W:Wd)(n g:Nat):Bool:=match W.chgA n g with
 |none=>false
 | .some (_,W3)=>match W3.kS.rds 0 n with
  |none=>false
  | .some W5=>W5.good n
def apps(W:Wd):Nat->Wd
 |0=>W
 |k+1=>((W.apps k).call 1 0 0).round.1
def evN(W:Wd)(u k:Nat):Bool:=((W.apps k).call 1 0 0).round.2&&(List.range u).all λg=>(W.apps (k+1)).Ly (k+1) g
end Wd
def chgA_of{W i j:Wd}{n g:Nat}(h:W.chgA n g=some (i,j)):(((W.stop g).kS).call 5 1 (g:Nat)).calmE=some i/\(i.call 5 1 (Wd.pw g:Nat)).calmE=some j/\i.lastIs n 1=true/\j.lastIs (n+1) 6=true:=by
 unfold Wd.chgA at h;split at h
 .cases h
 rename_i A F;split at h
 .cases h
 rename_i H L;split at h
 .rename_i y
  cases h;rw[bL]at y;exact⟨F,L,y⟩
 cases h
def chg_of{W:Wd}{n g:Nat}(h:W.Ly n g=true):∃y i j,W.chgA n g=some (y,i)/\i.kS.rds 0 n=some j/\j.good n=true:=by
 unfold Wd.Ly at h;split at h
 .cases h
 rename_i y i A;split at h
 .cases h
 rename_i j F;exact⟨y,i,j,A,F,h⟩
def last_of{W:Wd}{n:Nat}{wh:Int}(h:W.lastIs n wh=true):W.gK.length=n+1/\∃a,W.gK[n]?=some a/\a.r.wh=wh:=by
 unfold Wd.lastIs at h;rw[bL]at h;refine⟨iU h.1,?_⟩;have i:=h.2;split at i
 .rename_i a j;exact⟨a,j,iU i⟩
 cases i
def good_of{W:Wd}{n i:Nat}(h:W.good n=true)(j:i<n):∃x,W.gK[n+2+i]?=some x/\x.r.wh=8/\x.r.val=j4 i:=by
 unfold Wd.good at h;have:=List.all_eq_true.1 h i (di.2 j);split at this
 .rename_i x y;rw[bL]at this;exact⟨x,y,by simpa using this.1,by simpa using this.2⟩
 cases this
def evN_of{W:Wd}{u k:Nat}(h:W.evN u k=true):((W.apps k).call 1 0 0).round.2=true/\∀g,g<u->(W.apps (k+1)).Ly (k+1) g=true:=by unfold Wd.evN at h;rw[bL]at h;exact⟨h.1,λg i=>List.all_eq_true.1 h.2 g (di.2 i)⟩
def Wd.flg(W:Wd):List (Bool×Bool):=W.pl.map λP=>(P.up,P.oB)
section
variable{W W':Wd}
def awake_of(h:W'.flg=W.flg)(y:Awake W):Awake W':=λi P A=>by
 have j:W'.flg[i]?=some (P.up,P.oB):=by unfold Wd.flg;rw[aK,A];rfl
 rw[h]at j;unfold Wd.flg at j;rw[aK]at j;obtain⟨Q,F,e⟩:=bN.1 j;have:=y i Q F;rw[show P.up=Q.up from(Z5 Prod.fst e).symm,show P.oB=Q.oB from(Z5 Prod.snd e).symm];exact this
def flg_set{l:List Pl}{k:Nat}{P Q:Pl}(h:l[k]?=some P)(e:(Q.up,Q.oB)=(P.up,P.oB)):(l.set k Q).map (λP:Pl=>(P.up,P.oB))=l.map λP=>(P.up,P.oB):=by
 refine bJ λi=>?_;rw[aK,aK,List.getElem?_set];by_cases j:k=i
 .subst j;have y:=(aj.1 h).1;rw[aE rfl,aE y,h];exact Z5 some e
 rw[az j]
def flg_outAt(W:Wd)(k:Nat):(W.kU k).flg=W.flg:=by
 unfold Wd.kU;split
 .split
  .rfl
  rename_i P h;split
  .exact flg_set h rfl
  rfl
 split
 .rfl
 split<;>rfl
theorem flg_foldl{α:Type}(f:Wd->α->Wd)(h:∀W x,(f W x).flg=W.flg):∀(l:List α) (W:Wd),(l.foldl f W).flg=W.flg
 |[],_=>rfl
 |x::l,W=>(flg_foldl f h l (f W x)).H (h W x)
theorem recv_flg(n m v ce:Nat)(P:Pl)(fr:Int)(p:Pk):((P.recv n m v ce fr p).up,(P.recv n m v ce fr p).oB)=(P.up,P.oB):=by
 unfold Pl.recv
 cases p with
 |req r=>dsimp only;cases P.part<;>rfl
 |rep _ _=>rfl
 |vot _ _ _=>rfl
 |noi _=>rfl
theorem flg_hand(W:Wd)(l:Le):(W.lS l).flg=W.flg:=by
 unfold Wd.lS;split
 .rfl
 show(W.qS l W.pl.length).map (λP:Pl=>(P.up,P.oB))=W.pl.map λP=>(P.up,P.oB)
 refine bJ λi=>?_;unfold Wd.qS;rw[aK,aK,gz]
 cases W.pl[i]? with
 |none=>rfl
 |some P=>
  simp only[bG];split
  .rw[recv_flg]
  rfl
def flg_step(W:Wd):W.step.flg=W.flg:=by unfold Wd.step Wd.mJ;rw[flg_foldl _ flg_hand];show W.jL.flg=W.flg;unfold Wd.jL;exact flg_foldl _ flg_outAt _ _
theorem flg_exch:∀(k:Nat) (W:Wd),(W.qz k).1.flg=W.flg
 |0,_=>rfl
 |k+1,W=>by
  unfold Wd.qz;split
  .exact flg_step W
  exact(flg_exch k _).H (flg_step W)
def flg_give(W:Wd)(a b t:Int):(W.ld a b t).flg=W.flg:=by
 unfold Wd.ld;split
 .rfl
 split<;>rfl
theorem flg_gives(W:Wd)(i:Nat):∀k,(W.oP i k).flg=W.flg
 |0=>rfl
 |k+1=>(flg_give _ _ _ _).H (flg_gives W i k)
def flg_roundAt(W:Wd)(i:Nat):(W.nH i).flg=W.flg:=by
 unfold Wd.nH;split
 .rfl
 split
 .exact flg_gives _ _ _
 rfl
def flg_round(W:Wd):W.round.1.flg=W.flg:=by unfold Wd.round Wd.j0;exact(flg_exch 300 _).H (flg_foldl _ flg_roundAt _ _)
theorem flg_rnd(W:Wd):∀k,(W.rnd k).flg=W.flg
 |0=>rfl
 |k+1=>(flg_round _).H (flg_rnd W k)
def flg_call(W:Wd)(k a b:Int):(W.call k a b).flg=W.flg:=by
 unfold Wd.call;split
 .rfl
 split
 .split<;>rfl
 rfl
def flg_client(W:Wd):W.kS.flg=W.flg:=by unfold Wd.kS;split<;>rfl
def Wd.deadAt(W:Wd)(i:Nat):Wd:={W with pl:=W.pl.modify i λP=>{P with oB:=true}}
theorem Wk.deadAt(h:Wk W)(i:Nat):Wk (W.deadAt i):=by
 refine⟨h.n1,h.m1,h.v1,h.v2,h.c1,by show(W.pl.modify i _).length=_;rw[cy];exact h.pl,λj P T=>?_,h.a,λj A M=>⟨(h.ac j A M).x,(h.ac j A M).nm⟩,h.po,h.b,h.nw,h.cl,λc F=>⟨(h.ca c F).ac,(h.ca c F).kd,(h.ca c F).po,(h.ca c F).vl,(h.ca c F).tk,(h.ca c F).bg,(h.ca c F).fi,(h.ca c F).r,(h.ca c F).fw⟩,h.hd,h.ms⟩;have y:(W.pl.modify i λP=>{P with oB:=true})[j]?=some P:=T;rw[bS]at y
 cases L:W.pl[j]? with
 |none=>rw[L]at y;simp at y
 |some Q=>
  rw[L]at y;have H:=h.pk j Q L;simp only[dL,bG,aJ]at y;subst y;split
  .exact⟨H.part,H.q⟩
  exact⟨H.part,H.q⟩
theorem Sf.deadAt{S:Cf}(h:Sf S W)(i:Nat):Sf S (W.deadAt i):=by
 let⟨K,F,h,y⟩:=h;refine⟨K,F,h.plain ⟨⟨rfl,rfl⟩,rfl,rfl⟩ (λk R A=>?_) h.po rfl rfl,y⟩;have j:(W.pl.modify i λP=>{P with oB:=true})[k]?=some R:=A;rw[bS]at j
 cases e:W.pl[k]? with
 |none=>rw[e]at j;simp at j
 |some P=>rw[e]at j;simp at j;rw[<-j];refine(h.nd k P e).flag ?_;split<;>exact⟨rfl,rfl⟩
def jG.setDead{w:World}{F:Nat->Nat}{g:Nat}{V:WV}{pb N pc:Nat}(h:jG w F g W V)(H:V.pv=gN (G pb) N pc)(L:W.pl.length=N){i:Nat}{P:Pl}(y:W.pl[i]?=some P):jG (w.setCell (U pb (i*5+4)) (.bool true)) F g (W.deadAt i) {V with ps:=V.ps.set (i*5+4) (.bool true)}:=by
 obtain⟨gi,mk,j,A⟩:=h.a.pl i P y;have M:=h.a.row.ie.1;have Q:=(aj.1 y).1;have:=h.Uj H L (o:=4) C y (p':={P with oB:=true}) (.bool true) (gi:=gi) (mk:=mk) (by
  refine⟨?_,?_,?_,?_,?_⟩
  .rw[aH C];exact j.1
  .rw[aH C];exact j.2.1
  .rw[aH C];exact j.2.2.1
  .rw[aH C];exact j.2.2.2.1
  .rw[aQ C]) A
 unfold Wd.deadAt;rw[rK y];exact this
theorem stop_is(W:Wd)(i:Nat):(W.lD i false).deadAt i=W.stop i:=by
 unfold Wd.deadAt Wd.lD Wd.stop;have:((W.pl.modify i λP=>{P with up:=false}).modify i λP=>{P with oB:=true})=W.pl.modify i λP=>{P with up:=false,oB:=true}:=by
  refine bJ λk=>?_;rw[bS,bS,bS]
  cases W.pl[k]? with
  |none=>rfl
  |some P=>by_cases e:i=k<;>simp[e]
 show({W with pl:=_}:Wd)=_;rw[this]
end
structure Chd(S:Cf)(w wr:World)(g q:Nat)(gH:Nat->Nat)(B:List (Nat×Obj))(R W:Wd):Prop where
 f:Sf S W
 k:Wk W
 ms:W.jT=[]
 iN:W.iN<=rAge*q
 cl:W.gK.length<=q
 aw:Awake W
 an:0<W.ac.length
 t0:∀b,b<w.heap.size->gH b=0
 bl:Bl w wr
 x:Wx wr gH g W
 e:Eqa R W
 bx:∀z∈B,gH z.1=0/\wr.heap[z.1]?=some z.2
section
variable{S:Cf}{w wr w2:World}{g q:Nat}{gH tag2:Nat->Nat}{B:List (Nat×Obj)}{R W:Wd}
def Chd.next(h:Chd S w wr g q gH B R W){j:Nat}{A W2:Wd}(y:jB (λt=>t≠0) wr gH w2 tag2)(x:Wx w2 tag2 g W2)(f:Sf S W2)(k:Wk W2)(L:W2.jT=W.jT)(M:W2.iN<=rAge*j)(P:W2.gK.length<=j)(Q:W2.flg=W.flg)(an:W.ac.length<=W2.ac.length)(e:Eqa A W2):Chd S w w2 g j tag2 B A W2:=by
 refine⟨f,k,L.H h.ms,M,P,awake_of Q h.aw,af h.an an,λb F=>?_,?_,x,e,λz H=>?_⟩
 .rw[y.gH b (af F h.bl.lt)];exact h.t0 b F
 .refine h.bl.A y.only λb e=>?_;apply dT;intro i;exact e (h.t0 b i)
 have:=y.heap (h.bx z H).2 (h.bx z H).1 C;exact⟨this.2,this.1⟩
def Chd.bl'(h:Chd S w wr g q gH B R W)(i:Bl wr w2):Chd S w w2 g q gH B R W:=by obtain⟨V,j⟩:=h.x;exact h.next (jB.A i λ_ _=>rfl) ⟨V,j.bl i λ_ _=>rfl⟩ h.f h.k rfl h.iN h.cl rfl jl h.e
def rAge_pos:3<=rAge:=by unfold rAge;omega
def Chd.ageq(h:Chd S w wr g q gH B R W)(i:q<=2000):W.iN+rAge*80<=3000000000:=by
 have:=h.iN;have j:rAge*q<=rAge*2000:=gA _ i;have:rAge*2000+rAge*80<=3000000000:=by unfold rAge;omega
 omega
def Chd.call(h:Chd S w wr g q gH B R W)(F:q<=2000)(kind a b:Int)(i:kind=1\/kind=2\/kind=3\/kind=4\/kind=5)(H:nO a)(M:nO b):iB 28 #[O g,I kind,I a,I b] wr λy w'=>y=gX (.bool true)/\∃j W',Chd S w w' g (q+1) j B (R.call kind a b) W':=by
 obtain⟨V,P⟩:=h.x;have A:=h.ageq F;have Z:=rAge_pos;refine(zy P h.k C (gS h.cl) kind a b i H M h.an).L ?_;rintro y w'⟨rfl,j,Q,T⟩;let⟨c1,c2,c3,Y,c5,_,c7⟩:=JV h.k kind a b i;refine⟨rfl,j,_,h.next (Q.L λt e=>by unfold Pc Pg at e;omega) T (h.f.call h.k kind a b i) c1 Y ?_ (gS h.cl) (flg_call _ _ _ _) C (h.e.call _ _ _)⟩;have:=h.iN;rw[Nat.mul_succ];omega
def ptc:GA ([]:List Int):=Ev
def Chd.round(h:Chd S w wr g q gH B R W)(H:q<=2000)(L:R.round.2=true):iB 37 #[O g] wr λy w'=>y=gX (.bool true)/\∃j W',Chd S w w' g (q+1) j B R.round.1 W':=by
 obtain⟨V,M⟩:=h.x;have A:=h.ageq H;have P:rAge=136+2422*300:=rfl;have F:=LU M h.k C (gS h.cl) (by rw[h.ms];exact ptc) h.an;rw[h.e.round.2,L]at F;refine F.L ?_;rintro y w'⟨rfl,j,Q,T⟩;have i:=Kp.round h.k;refine⟨rfl,j,_,h.next (Q.L λt e=>by unfold Pr Pw Pg at e;omega) T (h.f.round h.k) i.k i.ms ?_ (by have:=h.cl;rw[i.cl];omega) (flg_round _) (cY i.a.symm) h.e.round.1⟩;have:=h.iN;have:=i.iN;rw[Nat.mul_succ];omega
theorem Sf.rnd(h:Sf S W)(i:Wk W):∀k,Sf S (W.rnd k)
 |0=>h
 |k+1=>(Sf.rnd h i k).round (Kp.rnd i k).k
theorem calmE_of{j:Wd}(h:R.calmE=some j):R.actv 80=some j/\∀c∈j.gK,c.fin≠0:=by
 unfold Wd.calmE at h
 cases e:R.actv 80 with
 |none=>rw[e]at h;cases h
 |some A=>
  rw[e]at h;dsimp only at h;split at h
  .rename_i i
   cases h;refine⟨rfl,λc y=>?_⟩;have:=List.all_eq_true.1 i c y;simpa using this
  cases h
def Chd.calm(h:Chd S w wr g q gH B R W)(M:q<=2000){A:Wd}(P:R.calmE=some A):iB 35 #[O g] wr λF w'=>F=gX (.bool true)/\∃y W',Chd S w w' g (q+80) y B A W':=by
 obtain⟨V,Q⟩:=h.x;have i:=h.ageq M;obtain⟨T,Y⟩:=calmE_of P;obtain⟨Z,H⟩:=calm_of h.e T;refine(calm_any Q h.k i (gS h.cl) (by rw[h.ms];exact ptc) h.an h.aw Z λc hc=>Y c (by rw[<-H.gK];exact hc)).L ?_;rintro F w'⟨rfl,y,k',x'⟩;have j:=Kp.rnd h.k 80;refine⟨rfl,y,_,h.next (k'.L λt e=>by unfold Pr Pw Pg at e;omega) x' (h.f.rnd h.k 80) j.k j.ms ?_ (by have:=h.cl;rw[j.cl];omega) (flg_rnd _ 80) (cY j.a.symm) H⟩;have:=h.iN;have:=j.iN;rw[Nat.mul_add];omega
def Chd.kS(h:Chd S w wr g q gH B R W):iB 38 #[O g] wr λy w'=>y=gX (.bool true)/\∃i W',Chd S w w' g (q+1) i B R.kS W':=by
 obtain⟨V,A⟩:=h.x;refine(zi A h.k).L ?_;rintro y w'⟨rfl,i,F,H⟩;have j:W.kS.iN<=W.iN+1/\W.kS.gK=W.gK/\W.kS.jT=W.jT/\W.ac.length<=W.kS.ac.length:=by unfold Wd.kS;split<;>simp
 refine⟨rfl,i,_,h.next (F.L λt e=>C) H h.f.kS h.k.kS j.2.2.1 ?_ (by have:=h.cl;rw[j.2.1];omega) (flg_client _) j.2.2.2 h.e.kS⟩;have:=h.iN;have:=rAge_pos;rw[Nat.mul_succ];omega
def Chd.one(h:Chd S w wr g q gH B R W)(y:q<=2000):iB 32 #[O g] wr λA w'=>A=gX (.bool true)/\Bl wr w':=by
 obtain⟨V,H⟩:=h.x;obtain⟨K,F,i,L⟩:=h.f;have j:=h.ageq y;have M:=h.cl;refine Sh H h.k C C ?_;have:=UN i h.k L C;obtain⟨⟨P,T⟩,Y,Q⟩:=i.s;rw[P,Q];exact this
end
section
variable{S:Cf}{w wr w2:World}{g q:Nat}{gH tag2:Nat->Nat}{B:List (Nat×Obj)}{R W:Wd}
def Rest(R:Wd):Prop:=∀P∈R.pl,P.rest=P
def rest_of(W:Wd):Rest W.rest:=λP h=>by obtain⟨Q,_,rfl⟩:=aD.1 (show P∈W.pl.map Pl.rest from h);exact pl_rest Q
theorem actv_rest:∀(f:Nat) {W i:Wd},W.actv f=some i->Rest i
 |0,_,_,h=>by cases h
 |f+1,W,i,h=>by
  unfold Wd.actv at h;split at h
  .cases h;exact rest_of W
  split at h
  .exact actv_rest f h
  cases h
def again_rest{P:Pl}(h:P.rest=P)(j:P.up=true):P.part.hl=1/\P.px 0=P:=by
 unfold Pl.rest at h;rw[aE j]at h;rw[<-h];let⟨i,q,y,A⟩:=P
 cases i<;>exact⟨rfl,rfl⟩
def set_self{α:Type}{l:List α}{i:Nat}{x:α}(h:l[i]?=some x):l.set i x=l:=by
 refine bJ λj=>?_;by_cases e:i=j
 .subst e;rw[aQ (aj.1 h).1,h]
 rw[aH e]
def Chd.px(h:Chd S w wr g q gH B R W)(hq:q<=2000)(hR:Rest R){i:Nat}{P:Pl}(T:R.pl[i]?=some P)(hu:P.up=true)(A:Int)(hc:nO A):iB 39 #[O g,I i,I A] wr λY w'=>Y=gX (.bool true)/\∃F W',Chd S w w' g (q+1) F B R W':=by
 obtain⟨V,hx⟩:=h.x;have Z:=h.ageq hq;have y:W.pl[i]?=some P:=by rw[h.e.pl];exact T
 obtain⟨a1,a2⟩:=again_rest (hR P (aR T)) hu;refine(zL hx h.k ⟨C,gS h.cl⟩ y A hc).L ?_;rintro Y w'⟨rfl,F,j,hj,k',x'⟩;obtain rfl:j=0:=C;have H:=h.f.oz y (Q:=P) ⟨rfl,rfl⟩ hj;have M:=h.k.oz y (Q:=P) ⟨rfl,rfl⟩ hj;unfold Wd.oz at H M;rw[a2,set_self y]at H M x';refine⟨rfl,F,_,h.next (k'.L λt e=>C) x' H M rfl ?_ (by have:=h.cl;show W.gK.length<=_;omega) rfl jl ?_⟩
 .have:=h.iN;have:=rAge_pos;rw[Nat.mul_succ];show W.iN+1<=_;omega
 obtain⟨a,e⟩:=h.e;exact⟨W.iN+1,mf e⟩
def Eqa.stop(h:Eqa R W)(i:Nat):Eqa (R.stop i) (W.stop i):=by obtain⟨a,rfl⟩:=h;exact⟨_,rfl⟩
theorem Chd.stop(h:Chd S w wr g q gH B R W){V:WV}(hx:jG wr gH g W V){pb N pc:Nat}(T:V.pv=gN (G pb) N pc)(Y:W.pl.length=N){i:Nat}{P:Pl}(Z:W.pl[i]?=some P)(A:gH pb=2):Chd S w ((wr.setCell (U pb (i*5+3)) (.bool false)).setCell (U pb (i*5+4)) (.bool true)) g q gH B (R.stop i) (W.stop i):=by
 have x1:=hx.Ui T Y Z false;have H:(W.lD i false).pl[i]?=some {P with up:=false}:=by show(W.pl.modify i _)[i]?=_;rw[bS,Z];simp
 have x2:=x1.setDead (pb:=pb) (N:=N) (pc:=pc) T (by show(W.pl.modify i _).length=N;rw[cy];exact Y) H;rw[stop_is]at x2;have k1:jB (λt=>t≠0) wr gH (wr.setCell (U pb (i*5+3)) (.bool false)) gH:=(kn A _ _).L λt e=>C;have k2:jB (λt=>t≠0) (wr.setCell (U pb (i*5+3)) (.bool false)) gH ((wr.setCell (U pb (i*5+3)) (.bool false)).setCell (U pb (i*5+4)) (.bool true)) gH:=(kn A _ _).L λt e=>C;have k:=k1.H k2;have fW:Sf S (W.stop i):=by rw[<-stop_is];exact(h.f.lD i false).deadAt i
 have kW:Wk (W.stop i):=by rw[<-stop_is];exact(h.k.lD i false).deadAt i
 refine⟨fW,kW,h.ms,h.iN,h.cl,λj Q hQ=>?_,h.an,λb hb=>?_,?_,⟨_,x2⟩,h.e.stop i,λz hz=>?_⟩
 .have y:(W.pl.modify i λP=>{P with up:=false,oB:=true})[j]?=some Q:=hQ;rw[bS]at y
  cases M:W.pl[j]? with
  |none=>rw[M]at y;simp at y
  |some P'=>
   rw[M]at y;simp only[dL,bG,aJ]at y;subst y;split
   .exact .inr rfl
   exact h.aw j P' M
 .rw[k.gH b (af hb h.bl.lt)];exact h.t0 b hb
 .refine h.bl.A k.only λb e=>?_;apply dT;intro F;exact e (h.t0 b F)
 have:=k.heap (h.bx z hz).2 (h.bx z hz).1 C;exact⟨this.2,this.1⟩
def Chd.start(S:Cf){w j:World}(h:Bl w j){B:List (Nat×Obj)}(F:∀z∈B,j.heap[z.1]?=some z.2):iB 26 #[cfg S.n S.m S.v S.ce] j λH w'=>∃g,H=gX (.tuple #[O g,.bool true])/\∃y W',Chd S w w' g 1 y B (Wd.start S.n S.m S.v S.ce) W':=by
 refine(MZ S j).L ?_;rintro H w'⟨g,rfl,M,y,Q,x⟩;refine⟨g,rfl,y,_,Qb S,OL S,rfl,by show 1<=rAge*1;unfold rAge;omega,by show 0<=1;omega,λi P Y=>?_,by show 0<1;omega,λb A=>Q b (af A h.lt),h.H M,x,Eqa.refl _,λz T=>?_⟩
 .have:=(Eg (show(Wd.zero S.n S.m S.v S.ce).pl[i]?=some P from Y)).2;rw[this];unfold CG;split<;>exact .inl rfl
 have V:=(ae.1 (F z T)).1;exact⟨Q _ V,M.heap V▸F z T⟩
end
end Go.Proofs.YtbghhbpacijmmaaGreat
