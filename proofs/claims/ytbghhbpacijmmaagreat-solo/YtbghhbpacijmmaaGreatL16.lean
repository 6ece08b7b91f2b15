import Derived.Test.YtbghhbpacijmmaaGreatL15
open Go.Proofs.Tryz
namespace Go.Proofs.YtbghhbpacijmmaaGreat
set_option maxRecDepth 99999
set_option maxHeartbeats 0
set_option linter.defProp false
open Go.RowKit Go.Maps
attribute [local go_sem ↓] Go.wp_at_zero Go.wp_at_succ
variable {w:World} {aY bp:Nat->Nat} {g n i m v ce gi q k pc:Nat} {K:Wd} {D:Nat->Ct} {V:WV} {mk:Int} {cv:Value} {ia pa:Option Addr} {rs:List Rc}
section
variable{W:Wd}
def jJ.UK{pb N:Nat}(h:jJ w aY g W V)(L:V.pv=dk (G pb) N pc)(M:W.pl.length=N){o mk:Nat}(ho:o<5){p p':Pl}(P:W.pl[i]?=some p)(u)(F:Gs (V.ps.set (i*5+o) u) W.n W.m i gi mk p'.up p'.qk)(H:xP w aY W.n W.m W.v W.ce i gi W.iH mk p'):jJ (w.setCell (U pb (i*5+o)) u) aY g {W with pl:=W.pl.set i p'} {V with ps:=V.ps.set (i*5+o) u}:=by
 subst M;have Q:=(aj.1 P).1;have d:=h.J.row;rw[L]at d;have k:jq (λs=>s=2) w aY (w.setCell (U pb (i*5+o)) u) aY:=ka (d.aY pb rfl) _ _;have hl:=d.gZ.1;have S:=h.a;have T:=h.an;have Y:=h.ht;refine⟨(k.heap h.hg h.tg C).1,(k.heap h.hg h.tg C).2,⟨by show mx _ _ _ _ _ V.pv _ _;rw[L,bK];exact⟨rC d.gZ _ _,d.aY⟩,λj q y=>?_⟩,h.E.B k C λt _ _=>C,h.ca.B k C C λi _=>C,h.po.B k C C,h.ha.B k C,h.ms.B k C,by rw[bK];exact S,T,Y⟩;have Z:=(aj.1 y).1;rw[bK]at Z;by_cases e:i=j
 .subst e;rw[aQ Q]at y;simp only[aJ]at y;subst y;exact⟨gi,mk,F,H.B k C C C⟩
 rw[aH e]at y;obtain⟨gj,mj,A,nj⟩:=h.J.pl j q y;refine⟨gj,mj,⟨?_,?_,?_,?_,?_⟩,nj.B k C C C⟩
 .rw[aH C];exact A.1
 .rw[aH C];exact A.2.1
 .rw[aH C];exact A.2.2.1
 .rw[aH C];exact A.2.2.2.1
 rw[aH C];exact A.2.2.2.2
def QM{A:Nat}{base:Nat}(F:w.ownsRow base 5 1 (dk ia (gY rs).length A) (gY rs).length ((gY rs).map B8))(H:n<=(gY rs).length):EN w ia n A rs:=by
 have L:=F;obtain⟨y,M⟩|⟨b,cap,P,y,M,Q,Z,S,_⟩:=F.2
 .simp only[bO]at y;obtain⟨rfl,_,rfl⟩:=y;exact⟨H,C,C,0,0,λe=>C,λj d T _=>C⟩
 simp only[bO,ZU]at y;obtain⟨rfl,rfl⟩:=y;unfold maxLen at S;refine⟨H,C,C,b,0,λ_=>⟨rfl,(ae.1 Q).1⟩,λj d T Y=>?_⟩;have:=L.cellAt j C;rw[aK,Y]at this;rw[bP];exact this
theorem SU(h:jJ w aY g W V)(hW:Wk W)(hS:Sw W){P:Pl}(hP:W.pl[i]?=some P)(cut)(hc:Bb cut):ib 39 #[O g,I i,I cut] w λen w'=>en=gG (.bool true)/\∃bp j,j<P.part.hl/\jq (λt=>t=2) w aY w' bp/\Wx w' bp g {W with iH:=W.iH+1,pl:=W.pl.set i (P.u9 j)}:=by
 obtain⟨pa,pc,ag⟩:=h.J.row.E;obtain⟨pv,av,lv,cv,hv,mv,ps,aw,ls,cs,tp⟩:=V;simp only at ag;subst ag;have bE:=h.a;have bR:=(aj.1 hP).1;have bV:(i:Int)<(W.pl.length:Int):=C;obtain⟨pb,rfl,_,a2,M,_⟩:=h.J.row.cells (by show 0<W.pl.length;omega);obtain⟨gi,mk,d,N,k0,ai,Q,T,S,a3,a4⟩:=h.J.pl i P hP;have d0:=(M (i*5) (by show i*5<W.pl.length*5;omega)).H d.1;have d1:=(M (i*5+1) (by show i*5+1<W.pl.length*5;omega)).H d.2.1;have d2:=(M (i*5+2) (by show i*5+2<W.pl.length*5;omega)).H d.2.2.1;obtain⟨c0,c1,c2⟩:=h.Iq 0 1 2 rfl;obtain⟨c3,c4⟩:=h.M 3 4 rfl;have lg:=h.lt;have bv:=hS.a;have a7:=hW.mI;have a0:N.iT.length<=1000000000000:=C;have HI:=fu (xb ai a0);have ak:mk<=N.iT.length:=by rw[S,Pn.om];exact CZ _ _
 have aa:N.iT.length=(gY N.B).length:=by rw[Pn.om]
 obtain⟨L,hL⟩:=dS N.iT.length;rw[hL]at ak a0 HI aa;have bw:¬((L:Int)<(mk:Int)):=C;obtain⟨nn,b6⟩:=dS (mk+jh cut (L-mk+1):Nat);have b7:=mS cut (n:=L-mk+1) C;have b8:nn<=L:=C;have al:mk<=nn:=C;have ab:=fu λZ=>kQ cut ((L-mk+1:Nat):Int) Z hc.1 hc.2 C C;have am:pk cut ((L-mk+1:Nat):Int)=((nn-mk:Nat):Int):=by have:=kI cut ((L-mk+1:Nat):Int) C;have e:jh cut (L-mk+1)=(pk cut ((L-mk+1:Nat):Int)).toNat:=rfl;omega
 rw[am]at ab;have s1:IntKind.i64.wrap ((L:Int)-mk)=((L-mk:Nat):Int):=Aj;have s2:IntKind.i64.wrap (((L-mk:Nat):Int)+1)=((L-mk+1:Nat):Int):=Aj;have s3:IntKind.i64.wrap ((mk:Int)+((nn-mk:Nat):Int))=(nn:Int):=Aj;obtain⟨u,hu⟩:=dS (jZ W.n W.m i);rw[hu]at d0 Q;have HO:Hid (∀(Z:World) (ia:Option Addr) (ic:Nat),EN Z ia nn ic N.B->ib 17 #[.agg #[I W.n,I W.m,I W.v,I W.ce],I u,dk ia nn ic] Z λe w'=>∃k F bp,e=gG (.tuple #[O F,I 0])/\N.holds nn k/\Z.heap.size<=F/\(∀b,b<Z.heap.size->bp b=aY b)/\Nd w' bp (10+3*i) (11+3*i) (12+3*i) F W.n W.m W.v W.ce (N.cut k) []/\Bl Z w'):=λZ ia ic hcut=>uG Q ia nn ic (jP hL a0) hcut aY _ _ _ a7;obtain⟨H,Hu,an⟩:=gV (And.intro h (And.intro d (And.intro Q (And.intro T (And.intro S (And.intro a3 (And.intro a4 (And.intro hP hL)))))))) hu aa;clear h hW hS d ai Q T S a3 a4 M hP am hu b7 b6 a7 aa hL;go_enter func39,ntmps39;go_upto_region 5 with(go_at_call 70;refine HI.L ?_;rintro en w1⟨ia,ic,rfl,a5,ap⟩;obtain⟨b9,ba⟩:=fl a5 ap;have ar:=(a5.cell a2).H d2;have bA:=af a2 a5.lt;clear a5 ap);go_cut[9]from 9 to 69 λy wx=>y=I nn/\Hid (Bl w1 wx)
 case first=>
  go_region_held3(λW=>W.cell? (U pb (i*5+2))=some (I mk)) (go_keep) (first|(go_at_call 15;refine gF (ab _) λw' ac=>?_;have ac:=ac.symm;subst ac;have z0:w1.cell? (U pb (i*5+2))=some (I mk):=ar));all_goals(go_wp2_with fail;go_meet)
  all_goals exact⟨rfl,iZ⟩
 obtain⟨rfl,b0⟩:=hcut;have bW:=b9.H b0;have a6:=(iD b0).iJ ba λ_ _ e=>e;have bb:=(bW.cell a2).H d0;have b1:=af a2 bW.lt;have bc:=af lg bW.lt;obtain⟨bd,be,bg,bi⟩:=bW.J lg c0 c1 c2 c3;have bB:nn<=ic:=by
  obtain⟨e1,e2⟩|⟨b,cap,bl,e1,e2,e3,e4,e5,_⟩:=a6.2
  .omega
  simp only[bO,ZU]at e1;omega
 have bm:ic<=9223372036854775807:=by
  obtain⟨e1,e2⟩|⟨b,cap,bl,e1,e2,e3,e4,e5,_⟩:=a6.2
  .simp only[bO]at e1;omega
  simp only[bO,ZU]at e1;unfold maxLen at e5;omega
 have HR:=fu a6;have bn:(nn:Int)<=(ic:Int):=C;have bC:¬((nn:Int)<0):=C;have bo:Hid (∀Z,Bl wc Z->ib 17 #[.agg #[I W.n,I W.m,I W.v,I W.ce],I u,dk ia nn ic] Z λe w'=>∃k F bp,e=gG (.tuple #[O F,I 0])/\N.holds nn k/\wc.heap.size<=F/\(∀b,b<wc.heap.size->bp b=aY b)/\Nd w' bp (10+3*i) (11+3*i) (12+3*i) F W.n W.m W.v W.ce (N.cut k) []/\Bl wc w'):=λZ hb=>by have ho:=(iD hb).iJ HR λ_ _ e=>e;rw[an.o]at ho;have bq:N.iT=gY N.B:=Pn.om N;rw[bq]at ho;refine(HO Z ia ic (QM ho (qO an.o b8))).L ?_;rintro e w'⟨k,F,bp,q1,q2,q3,q4,q5,q6⟩;have:=hb.lt;exact⟨k,F,bp,q1,q2,C,λb hb=>q4 b C,q5,hb.H q6⟩
 have b2:=fu bW;clear bW a6 ab HI s1 s2 s3 d0 d1 d2 ar c0 c1 c2 c3 HO;obtain⟨wz,bs⟩:∃wz,wz=wc:=⟨_,rfl⟩;subst bs;go_upto_region 6 with fail;go_cut[10,11]from 10 to 69 λx y wx=>∃k F bp,x= O F/\y=I 0/\Hid (N.holds nn k/\wz.heap.size<=F/\(∀b,b<wz.heap.size->bp b=aY b)/\Nd wx bp (10+3*i) (11+3*i) (12+3*i) F W.n W.m W.v W.ce (N.cut k) []/\Bl wz wx)
 case first=>
  go_region_held3(λY=>Y.cell? (U pb (i*5))=some (I u)/\Y.cell? (U g 0)=some (I W.n)/\Y.cell? (U g 1)=some (I W.m)/\Y.cell? (U g 2)=some (I W.v)/\Y.cell? (U g 3)=some (I W.ce)) (go_keep) (first|(go_at_call 17;refine(bo _ ?hb).L ?_;(case hb=>exact iZ);rintro en w2⟨k,F,A,rfl,q2,q3,q4,q5,q6⟩;have z0:=(q6.cell b1).H bb;obtain⟨z1,z2,z3,z4⟩:=q6.J bc bd be bg bi;have HQ:=Il q2 q3 q4 q5 q6;clear q2 q3 q4 q5 q6));all_goals(go_wp2_with fail;go_meet)
  all_goals exact⟨k,F,A,rfl,rfl,HQ⟩
 obtain⟨k,F,A,rfl,rfl,HQ⟩:=hcut;obtain⟨q2,q3,q4,q5,q6⟩:=HQ.o;obtain⟨h,d,Q,T,S,a3,a4,hP,hL⟩:=H.o;have bT:=b2.H q6;have a1:∀b,b<w.heap.size->A b=aY b:=λb hb=>q4 b (af hb b2.lt);have hX:=(h.bl (bp:=A) bT a1).sd (a:=W.iH+1) pK;have ad:k0<=k:=Pn.Nl q2 (Pn.Uc T) (qO S al);obtain⟨j,hj,a8⟩:=Pn.SJ T ad q2.1;obtain⟨pb',b3,b4,bD,M,b5⟩:=hX.J.row.cells (by show 0<W.pl.length;omega);simp only[aJ,Z0,ZS]at b3;subst b3;have z1:=(M (i*5+1) (by show i*5+1<W.pl.length*5;omega)).H d.2.1;have zf:=b5 (i*5+1);have hl:ps.length=W.pl.length*5:=h.J.row.gZ.1;have hN:xP wc A W.n W.m W.v W.ce i F (W.iH+1) mk (P.u9 j):=⟨N.cut k,k0,q5,by rw[Hu.o];exact Pn.S3 Q k,a8,by rw[Pn.zJ,Rn _ ad];exact S,gI (Pn.QO N k),by rw[Pn.zJ,bH];omega⟩;have a9:Gs (ps.set (i*5+1) (O F)) W.n W.m i F mk (P.u9 j).up (P.u9 j).qk:=by
  refine⟨?_,?_,?_,?_,?_⟩
  .rw[aH C];exact d.1
  .rw[aQ C]
  .rw[aH C];exact d.2.2.1
  .rw[aH C];exact d.2.2.2.1
  rw[aH C];exact d.2.2.2.2
 have HE:=lZ ((jq.B (P:=λt=>t=2) (bp:=A) bT a1).H (ka b4 (i*5+1) (O F))) (hX.UK rfl rfl C hP (O F) a9 hN) hj;clear q2 q3 q4 q5 q6 h d Q T S a3 a4 hP hL hX M b5 b4 bT a1 ad a8 hN a9 hl;go_wp2;go_ret;exact⟨rfl,A,j,HE.2.2,HE.1,⟨_,HE.2.1⟩⟩
end
def Tryz.TJ:(prog.info? 72).map (λi=>(i.zero,i.size,i.bytes))=some (some (.agg #[I 0,.pointer none,I 0,.bool false,.bool false]),5,32):=ij
def Wd.some(n m v ce k:Nat):Wd:=⟨n,m,v,ce,(List.range k).map (yq n m),[],[],[],0,[],[],0⟩
def vm(n m v ce k):(Wd.some n m v ce k).pl.length=k:=by simp[Wd.some]
def UM{N:Pn}(j:N.of n m v ce (jZ n m k))(d:N.B=[])(y:Nd w bp (10+3*k) (11+3*k) (12+3*k) gi n m v ce N [])(A:N.ab 0 (yq n m k).part):xP w bp n m v ce k gi 0 0 (yq n m k):=by
 have F:(yq n m k).q=[]:=by unfold yq;split<;>rfl
 refine⟨N,0,jP F y,j,A,by rw[d];rfl,?_,nI d⟩;rw[Pn.om,d];simp[gY]
def jJ.Na(h:jJ w aY g (Wd.some n m v ce k) {V with pv:=dk pa k pc})(hk:k<14)(hN:xP w aY n m v ce k gi 0 0 (yq n m k)){W1 F:World}(S:Bl w W1){gg cp:Nat}(M:F.ownsRow 0 72 5 (dk (G gg) (k+1) cp) (k+1) (V.ps++[I (jZ n m k),O gi,I 0,.bool true,.bool false]))(d:W1.grownBy F (dk pa k pc).ownBlock)(a6:(dk pa k pc).ownBlock=some gg\/w.heap.size<=gg):∃tag2,jq (λs=>s=1\/s=2) w aY (F.setCell (U g 4) (dk (G gg) (k+1) cp)) tag2/\jJ (F.setCell (U g 4) (dk (G gg) (k+1) cp)) tag2 g (Wd.some n m v ce (k+1)) {V with pv:=dk (G gg) (k+1) cp,ps:=V.ps++[I (jZ n m k),O gi,I 0,.bool true,.bool false]}:=by
 have lw:=h.lt;have l2:=S.lt;have l3:=d.size;have n3:V.tp=8\/V.tp=97:=h.ht;have j:mx w aY 2 72 5 (dk pa k pc) k V.ps:=by have:=h.J.row;rwa[vm]at this
 have tl:=j.aY;have ll:=λb T=>(j.gZ.lt b T).2;obtain⟨tag2,W⟩:∃tag2:Nat->Nat,tag2=λb=>if b<w.heap.size then aY b else if b=gg then 2 else 9:=⟨_,rfl⟩
 have y:∀b,b<w.heap.size->tag2 b=aY b:=λb T=>by rw[W];simp[T]
 have a7:tag2 gg=2:=by
  obtain e|e:=a6
  .rw[y gg (ll gg e)];exact tl gg e
  rw[W];dsimp only;rw[az C,aE rfl]
 have oQ:bz (λb=>aY b=1\/aY b=2) w (F.setCell (U g 4) (dk (G gg) (k+1) cp)):=((bz.E S).H ((bz.B d).L λb _ e=>.inr (tl b e.symm))).setCell (U g 4) (.inl (.inl h.tg)) _;have Q:jq (λt=>t=1\/t=2) w aY (F.setCell (U g 4) (dk (G gg) (k+1) cp)) tag2:=⟨oQ,y⟩;have Y:F.heap[g]?=some (gO (Ek (Wd.some n m v ce k) {V with pv:=dk pa k pc}).toArray 66 (0,0)):=by rw[d.block g C λe=>by have:=tl g e.symm;rw[h.tg]at this;omega,S.heap lw];exact h.hg
 have Z:=j.gZ.1;refine⟨tag2,Q,iU 4 _ F _ Y,(y g lw).H h.tg,⟨⟨?_,λb T=>?_⟩,λi P hP=>?_⟩,h.E.B Q C λi _ _=>C,h.ca.B Q C C λi _=>C,h.po.B Q (by show¬(V.tp=1\/V.tp=2);omega) C,h.ha.B Q C,h.ms.B Q C,by rw[vm];omega,h.an,n3⟩
 .rw[vm];exact lD M λb T=>Z8 _ _ _ _ λe=>gJ M Y au (j4 T e)
 .have e:gg=b:=by simpa [Value.ownBlock]using T
  rw[<-e];exact a7
 have A:((List.range (k+1)).map (yq n m))[i]?=some P:=hP;have hi:=(aj.1 A).1;simp at hi;rw[aK,cD hi]at A;simp at A;by_cases e:i<k
 .obtain⟨gj,mj,⟨a1,a2,a3,a4,a5⟩,nj⟩:=h.J.pl i P (by show((List.range k).map (yq n m))[i]?=_;rw[aK,cD e];simp[A]);refine⟨gj,mj,⟨?_,?_,?_,?_,?_⟩,nj.B Q C C C⟩
  .rw[aB C];exact a1
  .rw[aB C];exact a2
  .rw[aB C];exact a3
  .rw[aB C];exact a4
  rw[aB C];exact a5
 have e':i=k:=C;subst e';rw[<-A];have a0:(yq n m i).up=true/\(yq n m i).qk=false:=by unfold yq;split<;>exact⟨rfl,rfl⟩
 refine⟨gi,0,⟨?_,?_,?_,?_,?_⟩,hN.B Q C C C⟩
 .rw[aC C,Z];simp[Wd.some]
 .rw[aC C,Z];simp
 .rw[aC C,Z];simp
 .rw[aC C,Z,a0.1];simp
 rw[aC C,Z,a0.2];simp
def RK(w):EN w none 0 0 []:=⟨jd,jc,au,0,0,λh=>absurd h au,λj d y=>C⟩
def OP(n m k:Nat):Pn:=if k<n*m then .unit ((k/m:Nat):Int) [] (λ_=>St.first)else .voter [] λ_=>λ_=>Tn
def SM(S:Cf)(L:k<S.n*S.m+S.v):(OP S.n S.m k).of S.n S.m S.v S.ce (jZ S.n S.m k)/\(OP S.n S.m k).B=[]/\(OP S.n S.m k).ab 0 (yq S.n S.m k).part:=by
 obtain⟨F,H,M,P⟩:=S.B;have Q:=tE F.2 H.2;unfold OP yq;by_cases d:k<S.n*S.m
 .rw[aE d,aE d];have fu:jZ S.n S.m k=k:=by unfold jZ;rw[aE d]
  refine⟨⟨qj fu,?_,⟨rfl,λj y=>lY y,λr A=>lY A⟩⟩,rfl,rfl,jd,rfl,?_⟩
  .rw[fu];unfold yY;rw[aE S.ok,az (by have:((k:Nat):Int)<(S.n:Int)*S.m:=(by exact_mod_cast d);omega)];simp
  simp
 rw[az d,az d];have fu:jZ S.n S.m k=100+k-(S.n*S.m:Nat):=by unfold jZ;rw[az d]
 refine⟨⟨qj fu,qj fu,?_⟩,rfl,jd,?_,?_⟩
 .exact⟨rfl,λj y=>lY y,λr A=>lY A⟩
 .rfl
 simp;rfl
theorem LF(S:Cf)(w):ib 26 #[cfg S.n S.m S.v S.ce] w λen w'=>∃g,en=gG (.tuple #[O g,.bool true])/\Bl w w'/\∃bp,(∀b,b<w.heap.size->bp b=0)/\Wx w' bp g (Wd.start S.n S.m S.v S.ce):=by
 have an:=fu (Iv S);have ap:Hid (∀k,k<S.n*S.m+S.v->(OP S.n S.m k).of S.n S.m S.v S.ce (jZ S.n S.m k)/\(OP S.n S.m k).B=[]/\(OP S.n S.m k).ab 0 (yq S.n S.m k).part):=λk hk=>SM S hk;obtain⟨n,m,v,ce,hf⟩:=S;simp only at an ap|-;obtain⟨ar,av,r0,r1,r2⟩:=fx Tryz.TJ;have s0:=(Cf.mk n m v ce hf).B;simp only at s0;have s7:=tE s0.1.2 s0.2.1.2;have s8:1*1<=n*m:=fF s0.1.1 s0.2.1.1;obtain⟨N,hN⟩:=dS (n*m);have bs:(n:Int)*(m:Int)=(N:Int):=by rw[<-hN];simp
 rw[hN]at s7 s8;obtain⟨W0,a3⟩:=dS (w.alloc (qh n m v ce));obtain⟨W1,a4⟩:=dS (W0.alloc (gO #[I n,I m,I v,I ce,OO,OO,OO,OO,I 0,OO,OO] 66));have b0:Bl w W0:=by rw[<-a3];exact jo.alloc _
 have b1:Bl W0 W1:=by rw[<-a4];exact jo.alloc _
 have z0:W0.heap.size=w.heap.size+1:=by rw[<-a3];simp
 have z1:W1.heap.size=W0.heap.size+1:=by rw[<-a4];simp
 have ac:W0.heap[w.heap.size]?=some (gO #[I n,I m,I v,I ce] 27 (0,0)):=by rw[<-a3];exact ao w _
 have aw:=(b1.heap (b:=w.heap.size) C).H ac;have b3:W1.heap[W0.heap.size]?=some (gO (Ek (Wd.some n m v ce 0) ⟨OO,OO,OO,OO,OO,OO,[],[],[],[],8⟩).toArray 66 (0,0)):=by rw[<-a4];exact ao W0 _
 obtain⟨Q,aa⟩:∃Q:Nat->Nat,Q=λb=>if b<w.heap.size then 0 else if b=W0.heap.size then 1 else 9:=⟨_,rfl⟩
 have b4:jJ W1 Q W0.heap.size (Wd.some n m v ce 0) ⟨OO,OO,OO,OO,OO,OO,[],[],[],[],8⟩:=⟨b3,by rw[aa];dsimp only;rw[az C,aE rfl],⟨mx.nil _ _ _,λi P hP=>by simp[Wd.some]at hP⟩,⟨mx.nil _ _ _,λi A hA=>by simp[Wd.some]at hA⟩,⟨mx.nil _ _ _,λi c hc=>by simp[Wd.some]at hc⟩,sX.nil _,mx.nil _ _ _,mx.nil _ _ _,by simp[Wd.some],by simp[Wd.some],.inl rfl⟩;have ad:=fu b4;have b5:Hid (∀b,b<w.heap.size->Q b=0):=λb hb=>by rw[aa];simp[hb]
 have b6:Hid (Q w.heap.size=9):=by unfold Hid;rw[aa];dsimp only;rw[az C,az C]
 obtain⟨b7,b8,b9,ba⟩:=ju aw (b0.H b1) a3 a4;have bi:=hf;have Hf:=fu hf;obtain⟨⟨s1,s2⟩,⟨s3,s4⟩,⟨s5,s6⟩,_⟩:=s0;obtain⟨x0,x1,x2,x3⟩:=nN ac 0 1 2 3 rfl;have lx:w.heap.size<W0.heap.size:=C;obtain⟨g,hg⟩:=dS (w.heap.size+1);rw[z0,hg]at ad;clear b4 ac aw b3 b0 b1 a3 a4 aa hf bi;go_enter func26,ntmps26;go_upto_region 1 with fail;rw[b9.o];go_upto_region 2 with fail;rw[ba.o];clear b9 ba x0 x1 x2 x3 z0 z1 lx;go_wp2;go_loopw[5](λi wr=>∃(k:Nat) (bp:Nat->Nat) (pa:Option Addr) (pc:Nat) (ps:List Value),k<=N+v/\i=I k/\Hid (∀b,b<w.heap.size->bp b=0)/\Hid (Bl w wr)/\Hid (jJ wr bp g (Wd.some n m v ce k) ⟨dk pa k pc,OO,OO,OO,OO,OO,ps,[],[],[],8⟩)/\Hid (wr.heap[w.heap.size]?=some (gO #[I n,I m,I v,I ce] 27 (0,0))/\bp w.heap.size=9)) λi _=>N+v-(Go.RowKit.intOf i).toNat
 case atStart=>exact⟨0,Q,none,0,[],jd,rfl,b5,b8,ad,b7,b6⟩
 clear b5 b8 ad b7 b6 Q;obtain⟨k,bp,pa,pc,ps,hk,rfl,HT,a2,HB,HC⟩:=hrel;have lx:w.heap.size<wr.heap.size:=(ae.1 HC.1).1;obtain⟨x0,x1,x2,x3⟩:=nN HC.1 0 1 2 3 rfl;have bb:Hid (wr.ownsRow 0 72 5 (dk pa k pc) k ps):=by have:=HB.J.row.gZ;rwa[vm]at this
 by_cases iV:k<N+v
 .have bq:(k:Int)<(N:Int)+(v:Int):=C;obtain⟨ag,W⟩:=dS (jZ n m k);have HO:Hid (ib 17 #[cfg n m v ce,I ag,OO] wr λe w'=>∃gi,e=gG (.tuple #[O gi,I 0])/\Bl wr w'/\∃M,(∀b,b<wr.heap.size->M b=bp b)/\xP w' M n m v ce k gi 0 0 (yq n m k)):=by
   obtain⟨o1,o2,o3⟩:=ap k (jP hN iV);rw[W]at o1;refine(uG o1 none 0 0 (by rw[Pn.om,o2];simp[gY]) (by rw[o2];exact RK wr) bp (10+3*k) (11+3*k) (12+3*k) Hf).L ?_;rintro e w'⟨k0,gi,M,rfl,_,_,e3,e4,e5⟩;have hcut:(OP n m k).cut k0=OP n m k:=by unfold OP;split<;>simp[Pn.cut]
   rw[hcut]at e4;exact⟨gi,rfl,e5,M,e3,UM (jP W o1) o2 e4 o3⟩
  have a5:Hid ((k:Int)<N->ag=k):=λh=>by rw[<-W];unfold jZ;rw[aE C]
  have a6:Hid (¬(k:Int)<N->ag=100+k-N):=λh=>by rw[<-W,<-hN];unfold jZ;rw[az C]
  have HK:=fu W;clear W;by_cases bc:(k:Int)<N
  .have a0:=a5 bc;have bd:¬((N:Int)<=(k:Int)):=C;rw[a0]at HO;have ai:=fu a0;clear a0 a5 a6;go_upto_region 9 with(go_at_call 17;refine HO.L ?_;rintro en w2⟨gi,rfl,Y,M,e1,e3⟩;obtain⟨a1,HE⟩:=fl Y (And.intro e1 e3);clear Y e1 e3);have b2:=a1.o;have y:=(iD b2).iJ bb λ_ _ e=>e;have T:=(b2.heap HB.lt).H HB.hg;have y4:w2.cell? (U g 4)=some (dk pa k pc):=ax w2 g 4 _ 66 (0,0) T;have f4:=aP w2 g 4 _ 66 T;have a7:g<w2.heap.size:=(ae.1 T).1;have a8:Hid ((dk pa k pc).ownBlock≠some g):=gJ y T au;have ak:=fu y;have al:Hid (k+1<=maxLen):=mQ;have Y:Hid ((k+1)*32<=140737488355328):=lQ;clear y T b2;go_upto_region 4 with(at_builtin;refine fm _ rfl _ _ 61 rfl 0 72 ar _ 5 32 underlying61 av r0 r1 r2 rfl au (dk pa k pc) k ps rfl (ak.alloc _) (U w2.heap.size 0) 1 1 [I (k:Int),O gi,I 0,.bool true,.bool false] rfl rfl (fW (cs:=#[I (k:Int),O gi,I 0,.bool true,.bool false]) (t:=72) (fr:=(0,0)) (ao w2 _)) qR au al Y aq (w2.heap.size+1) aq ?_;intro gg cp w6 j d F a9;have kc:=(zM ((Bl.refl w2).alloc _) d (o:=4) a7 a8).1.H y4;have kf:=(zM ((Bl.refl w2).alloc _) d (o:=4) a7 a8).2.H f4;have bl:g<w6.heap.size:=(by have:=d.size;simp at this;omega);have am:=lZ j d F;clear j d F a9);go_wp2;obtain⟨j,d,F⟩:=am.o;obtain⟨tag2,kq,q2⟩:=jJ.Na (V:=⟨dk pa k pc,OO,OO,OO,OO,OO,ps,[],[],[],8⟩) (HB.bl (bp:=M) a1 HE.1) C HE.2 ((Bl.refl w2).alloc (gO #[I (k:Int),O gi,I 0,.bool true,.bool false] 72)) (gg:=gg) (cp:=cp) (by rw[HK.o,ai.o];exact j) d (F.imp (λe=>e) λe=>C);have kk:jq (λt=>t=1\/t=2) wr bp _ tag2:=(jq.B a1 HE.1).H kq;have q1:=kk.aY;have q3:=kk.only;refine⟨⟨k+1,tag2,G gg,cp,_,C,gX,λb hb=>?_,?_,q2,kk.heap HC.1 HC.2 C⟩,gW⟩
   .rw[q1 b (af hb a2.lt)];exact HT b hb
   refine a2.B q3 λb e=>?_;apply dT;intro Z;have:=HT b Z;omega
  have a0:=a6 bc;have bd:(N:Int)<=(k:Int):=C;rw[a0]at HO;have ai:=fu a0;clear a0 a5 a6;go_upto_region 9 with(go_at_call 17;refine HO.L ?_;rintro en w2⟨gi,rfl,Y,M,e1,e3⟩;obtain⟨a1,HE⟩:=fl Y (And.intro e1 e3);clear Y e1 e3);have b2:=a1.o;have y:=(iD b2).iJ bb λ_ _ e=>e;have T:=(b2.heap HB.lt).H HB.hg;have y4:w2.cell? (U g 4)=some (dk pa k pc):=ax w2 g 4 _ 66 (0,0) T;have f4:=aP w2 g 4 _ 66 T;have a7:g<w2.heap.size:=(ae.1 T).1;have a8:Hid ((dk pa k pc).ownBlock≠some g):=gJ y T au;have ak:=fu y;have al:Hid (k+1<=maxLen):=mQ;have Y:Hid ((k+1)*32<=140737488355328):=lQ;clear y T b2;go_upto_region 4 with(at_builtin;refine fm _ rfl _ _ 61 rfl 0 72 ar _ 5 32 underlying61 av r0 r1 r2 rfl au (dk pa k pc) k ps rfl (ak.alloc _) (U w2.heap.size 0) 1 1 [I (100+(k:Int)-(N:Int)),O gi,I 0,.bool true,.bool false] rfl rfl (fW (cs:=#[I (100+(k:Int)-(N:Int)),O gi,I 0,.bool true,.bool false]) (t:=72) (fr:=(0,0)) (ao w2 _)) qR au al Y aq (w2.heap.size+1) aq ?_;intro gg cp w6 j d F a9;have kc:=(zM ((Bl.refl w2).alloc _) d (o:=4) a7 a8).1.H y4;have kf:=(zM ((Bl.refl w2).alloc _) d (o:=4) a7 a8).2.H f4;have bl:g<w6.heap.size:=(by have:=d.size;simp at this;omega);have am:=lZ j d F;clear j d F a9);go_wp2;obtain⟨j,d,F⟩:=am.o;obtain⟨tag2,kq,q2⟩:=jJ.Na (V:=⟨dk pa k pc,OO,OO,OO,OO,OO,ps,[],[],[],8⟩) (HB.bl (bp:=M) a1 HE.1) C HE.2 ((Bl.refl w2).alloc (gO #[I (100+(k:Int)-(N:Int)),O gi,I 0,.bool true,.bool false] 72)) (gg:=gg) (cp:=cp) (by rw[HK.o,ai.o];exact j) d (F.imp (λe=>e) λe=>C);have kk:jq (λt=>t=1\/t=2) wr bp _ tag2:=(jq.B a1 HE.1).H kq;have q1:=kk.aY;have q3:=kk.only;refine⟨⟨k+1,tag2,G gg,cp,_,C,gX,λb hb=>?_,?_,q2,kk.heap HC.1 HC.2 C⟩,gW⟩
  .rw[q1 b (af hb a2.lt)];exact HT b hb
  refine a2.B q3 λb e=>?_;apply dT;intro Z;have:=HT b Z;omega
 have bd:¬((k:Int)<(N:Int)+(v:Int)):=C;have bm:k=N+v:=C;have be:=HB.o;have hz:Wd.some n m v ce k=Wd.zero n m v ce:=by rw[bm,<-hN];rfl
 rw[hz]at be;have bn:=fu (F9 be an);go_wp2_with(go_at_call 38;refine bn.L ?_;rintro en w2⟨rfl,tag2,k2,h2⟩;obtain⟨bg,bo⟩:=fl k2 h2;clear k2 h2);go_ret2;refine⟨g,rfl,a2.B bg.only λb e=>?_,tag2,λb hb=>?_,bo⟩
 .apply dT;intro Z;have:=HT b Z;omega
 rw[bg.aY b (af hb a2.lt)];exact HT b hb
theorem I0:∀(k:Nat) {W:Wd},Wk W→Kp (2422*k) W (W.lJ k).1
 |0,W,h=>(Kp.refl h).L (by omega)
 |k+1,W,h=>by
  obtain⟨s1,s2,s3,_⟩:=rf h
  have hs:Kp 2422 W W.step:=⟨s1,s3,by rw[s2.ca],s2.ms,s2.ac,s2.n,s2.m,s2.v,s2.ce⟩
  show Kp _ W (if W.iE.iq.length=0 then(W.step,true) else W.step.lJ k).1
  split
  ·exact hs.L (by omega)
  ·exact(hs.H (I0 k s1)).L (by omega)
theorem E9 {W:Wd} (h:Wk W):Kp 8 W W.xm:=by
 obtain⟨t1,t2,t3,t4,t5⟩:=ru h W.ac.length
 have:=h.al
 exact⟨t1,by show(W.Z W.ac.length).iH≤_;omega,by show(W.Z W.ac.length).bx.length=_;rw[t5],t2.ms,t2.ac,t2.n,t2.m,t2.v,t2.ce⟩
theorem IZ {W:Wd} (h:Wk W):Kp 726608 W W.mg.1:=((E9 h).H (I0 300 (E9 h).k)).L (by omega)
def ou (L:Nat→Ct) (a:Nat):List Int:=if(L a).kd=0 then [] else if(L a).kd=9 then [106] else(L a).val
def oy (s:List Int) (b:Bool):Rz:=if b=true then⟨4,0,[]⟩ else if s=[] then⟨3,0,[]⟩ else if s=[106] then⟨9,0,[]⟩ else⟨8,0,s⟩
theorem zE (s:List Int) (b:Bool):(oy s b).ad=0:=by
 unfold oy
 split
 ·rfl
 ·split
  ·rfl
  ·split<;>rfl
theorem Qy {α:Type} (F:List Int→α) (L:Nat→Ct) (N t:Nat) (c:Ct):((List.range N).map fun a=>F (ou L a)).set t (F (if c.kd=0 then [] else if c.kd=9 then [106] else c.val))=(List.range N).map fun a=>F (ou (nT L t c) a):=by
 apply List.ext_getElem?
 intro i
 by_cases hi:i<N
 ·by_cases e:t=i
  ·subst e
   rw[List.getElem?_set_self (by simpa using hi),List.getElem?_map,List.getElem?_range hi]
   simp[ou,nT]
  ·rw[List.getElem?_set_ne e,List.getElem?_map,List.getElem?_map,List.getElem?_range hi]
   have e':¬i=t:=fun h=>e h.symm
   simp[ou,nT,e']
 ·rw[List.getElem?_eq_none (by simp;omega),List.getElem?_eq_none (by simp;omega)]
def Uf (D:Nat→Ct):Prop:=∀x,(D x).kd=0∨((D x).kd=8∧∃k,(D x).val=je k)∨((D x).kd=9∧(D x).val=[])
theorem DV (k:Nat):∀d∈je k,0≤d∧d≤255:=by
 intro d hd
 simp[je] at hd
 omega
theorem uZ {L:Nat→Ct} (hL:Uf L) (a:Nat):∀d∈ou L a,0≤d∧d≤255:=by
 unfold ou
 split
 ·intro d hd;simp at hd
 ·split
  ·intro d hd;simp at hd;omega
  ·rcases hL a with e|⟨e,k,e2⟩|⟨e,e2⟩
   ·contradiction
   ·rw[e2];exact DV k
   ·contradiction
theorem su {L:Nat→Ct} (hL:Uf L) (a:Nat):ou L a=[]↔(L a).kd=0:=by
 unfold ou
 rcases hL a with e|⟨e,k,e2⟩|⟨e,e2⟩
 ·simp[e]
 ·simp[e,e2,je]
 ·simp[e]
theorem Ih {L:Nat→Ct} (hL:Uf L) (mk:Int) (a:Nat):Fo L mk a=oy (ou L a) (decide ((a:Int)<mk)):=by
 unfold Fo oy ou
 by_cases h:(a:Int)<mk
 ·simp[h]
 ·rcases hL a with e|⟨e,k,e2⟩|⟨e,e2⟩
  ·simp[h,e]
  ·simp[h,e,e2,je]
  ·simp[h,e,e2]
theorem QB {L:Nat→Ct} (hL:Uf L) (mk:Int) (a i:Nat):Ty L mk a=oy (ou (LN L mk a i) a) (decide ((a:Int)<mk)):=by
 unfold Ty LN
 by_cases h:(a:Int)<mk
 ·simp[h,oy]
 ·by_cases e:(L a).kd=0
  ·simp[h,e,oy,ou,nT]
  ·have hr:=Ih hL mk a
   unfold Fo at hr
   rw[if_neg h,if_neg e] at hr
   rw[if_neg h,if_neg e,if_neg (fun z=>e z.2)]
   exact hr
def Ps (n m v ce i:Nat) (K:Wd) (D:Nat→Ct) (mk:Int):Prop:=∃res,uo n m v ce K res D mk∧res.length=i
def Next (K:Wd) (P:Wd→Prop):Prop:=K.mg.2=true∧P K.mg.1
def GP (n m v ce i:Nat) (D:Nat→Ct) (mk:Int) (r:Rz) (K:Wd):Prop:=Ps n m v ce (i+1) K D mk∧∃c,K.bx[i]?=some c∧c.fin≠0∧c.r=r
def Aw (n m v ce i:Nat) (D:Nat→Ct) (mk:Int) (K:Wd):Prop:=∃W0 res tk,Sq n m v ce W0 K res D mk tk∧res.length=i
theorem Ps.len (h:Ps n m v ce i K D mk):K.bx.length=i:=by
 obtain⟨res,h,e⟩:=h
 rw[h.len,e]
theorem Ps.ok (h:Ps n m v ce i K D mk):Uf D:=fun x=>by
 obtain⟨res,h,_⟩:=h
 by_cases e:(D x).kd=0
 ·exact .inl e
 ·obtain⟨k,o,_,_,_,⟨h1,h2,_⟩|⟨h1,h2,_⟩⟩:=h.l.C5 x e
  ·exact .inr (.inl ⟨h1,k,h2⟩)
  ·exact .inr (.inr ⟨h1,h2⟩)
theorem E1 {W:Wd} {res:List Rz} {R:Rz} {K2:Wd} (hl:W.bx.length=res.length) (hs:uo n m v ce K2 (res++[R]) D mk∧∃y,K2.bx=W.bx++[y]∧y.fin≠0∧y.r=R) (hi:res.length=i):GP n m v ce i D mk R K2:=by
 obtain⟨h1,y,h2,h3,h4⟩:=hs
 exact⟨⟨_,h1,by simp[hi]⟩,y,by rw[h2,←hi,←hl];simp,h3,h4⟩
theorem Aw.open (h:Aw n m v ce i D mk K):K.bx.length=i+1∧∃c,K.bx[i]?=some c∧c.fin=0:=by
 obtain⟨W0,res,tk,h,hi⟩:=h
 obtain⟨y,h1,_,_,_,h5⟩:=h.last
 have hl:=h.h.len
 exact⟨by rw[h1];simp;omega,y,by rw[h1,←hi,←hl];simp,h5⟩
def wB:Nat:=726610
structure SW (w:World) (aY:Nat→Nat) (g q:Nat) (cv:Value) (K:Wd):Prop where
 k:Wk K
 ms:K.jU=[]
 an:0<K.ac.length
 iH:K.iH≤wB*q
 cl:K.bx.length≤q
 x:Wy w aY g K cv
section
variable{w':World}
theorem SW.L (h:SW w aY g q cv K) {q':Nat} (hq:q≤q'):SW w aY g q' cv K:=⟨h.k,h.ms,h.an,Nat.le_trans h.iH (Nat.mul_le_mul_left _ hq),Nat.le_trans h.cl hq,h.x⟩
theorem SW.JX (h:SW w aY g q cv K) (k:jq (fun t=>t=0) w aY w' bp):SW w' bp g q cv K:=by
 obtain⟨V,hx,e⟩:=h.x
 exact⟨h.k,h.ms,h.an,h.iH,h.cl,V,hx.B k fun t e=>.inl e,e⟩
theorem SW.bl (h:SW w aY g q cv K) (hb:Bl w w') (ht:∀b,b<w.heap.size→bp b=aY b):SW w' bp g q cv K:=by
 obtain⟨V,hx,e⟩:=h.x
 exact⟨h.k,h.ms,h.an,h.iH,h.cl,V,hx.bl hb ht,e⟩
theorem SW.Q4 (h:SW w aY g q cv K) (hq:q≤4000):K.iH+800000≤3000000000:=by
 have:=h.iH
 have h2:wB*q≤wB*4000:=Nat.mul_le_mul_left _ hq
 have:wB*4000+800000≤3000000000:=by unfold wB;omega
 omega
theorem SW.Ws (h:SW w aY g q cv K):Ki K.jU:=by rw[h.ms];exact MY
theorem SW.Sz (h:SW w aY g q cv K) (hq:q≤4000) (kind b:Int) (hk:kind=1∨kind=2∨kind=3∨kind=4) (hb:Bb b):
 Calls prog 28 #[.pointer (some ⟨g,0,none⟩),.int .i64 kind,.int .i64 0,.int .i64 b] w fun en w'=>en=gG (.bool true)∧∃bp,jq Pc w aY w' bp∧∃cv',SW w' bp g (q+1) cv' (K.call kind 0 b):=by
 have hage:=h.Q4 hq
 have hcl:=h.cl
 have hk5:kind=1∨kind=2∨kind=3∨kind=4∨kind=5:=by omega
 obtain⟨V,hx,_⟩:=h.x
 refine(Ot hx h.k (by omega) (by omega) kind 0 b hk5 (by decide) hb h.an).L ?_
 rintro en w' ⟨rfl,bp,k',V',x'⟩
 obtain⟨c1,c2,c3,c4,c5,_,c7⟩:=IF h.k kind 0 b hk5
 refine⟨rfl,bp,k',V'.cv,c1,by rw[c4];exact h.ms,by rw[c5];exact h.an, ?_,by omega,V',x',rfl⟩
 have:=h.iH
 have:wB*(q+1)=wB*q+726610:=by rw[Nat.mul_succ];rfl
 omega
theorem SW.M8 (h:SW w aY g q cv K) (hq:q≤4000) (t:Int):
 Calls prog 29 #[.pointer (some ⟨g,0,none⟩),.int .i64 0,.int .i64 0,.int .i64 t] w fun en w'=>en=gG (.bool true)∧∃bp,jq Pc w aY w' bp∧SW w' bp g (q+1) cv (K.jv 0 0 t):=by
 have hage:=h.Q4 hq
 have hcl:=h.cl
 obtain⟨V,hx,e⟩:=h.x
 subst e
 refine(IS hx h.k (by omega) (by omega) 0 0 t (by decide) (by decide) h.an).L ?_
 rintro en w' ⟨rfl,bp,k',x'⟩
 obtain⟨g1,g2,g3,g4,g5,g6,g7⟩:=xQ h.k 0 0 t
 refine⟨rfl,bp,k'.L fun t e=>.inl e,g1,by rw[g4];exact h.ms,by rw[g5];exact h.an, ?_,by omega,x'⟩
 have:=h.iH
 have:wB*(q+1)=wB*q+726610:=by rw[Nat.mul_succ];rfl
 omega
theorem wi (h:SW w aY g q cv K) (hq:q≤4000) {P:Wd→Prop} (hN:Next K P):
 Calls prog 30 #[.pointer (some ⟨g,0,none⟩)] w fun en w'=>en=gG (.bool true)∧∃bp,jq Pw w aY w' bp∧∃K',P K'∧SW w' bp g (q+1) cv K':=by
 have hage:=h.Q4 hq
 have hcl:=h.cl
 obtain⟨V,hx,e⟩:=h.x
 subst e
 have hc:=Ix hx h.k (by omega) (by omega) h.Ws h.an
 rw[hN.1] at hc
 refine hc.L ?_
 rintro en w' ⟨rfl,bp,k',x'⟩
 have kp:=IZ h.k
 refine⟨rfl,bp,k',_,hN.2,kp.k,by rw[kp.ms];exact h.ms,by rw[kp.al];exact h.an, ?_,by rw[kp.cl];omega,x'⟩
 have:=h.iH
 have:=kp.iH
 have:wB*(q+1)=wB*q+726610:=by rw[Nat.mul_succ];rfl
 omega
theorem SW.one (h:SW w aY g q cv K) (hq:q≤4000) (hP:Ps n m v ce i K D mk):
 Calls prog 32 #[.pointer (some ⟨g,0,none⟩)] w fun en w'=>en=gG (.bool true)∧Bl w w':=by
 have hage:=h.Q4 hq
 have hcl:=h.cl
 obtain⟨V,hx,_⟩:=h.x
 obtain⟨res,hs,_⟩:=hP
 refine R7 hx h.k (by omega) (by omega) ?_
 obtain⟨_,_,_,⟨e1,e2⟩,e3,e4⟩:=hs.nm
 have:=hs.l.one (by omega)
 rw[e1,e4]
 exact_mod_cast this
theorem LP (h:SW w aY g q cv K) (hq:q≤4000) (hP:Ps n m v ce i K D mk) (b:Int) (hb:Bb b):
 Calls prog 28 #[.pointer (some ⟨g,0,none⟩),.int .i64 1,.int .i64 0,.int .i64 b] w fun en w'=>en=gG (.bool true)∧∃bp,jq Pc w aY w' bp∧∃cv' K1,SW w' bp g (q+1) cv' K1∧K1.bx.length=i+1∧Aw n m v ce i D mk K1:=by
 refine(h.Sz hq 1 b (.inl rfl) hb).L ?_
 rintro en w' ⟨rfl,bp,k,cv',h'⟩
 obtain⟨res,hs,hi⟩:=hP
 have hA:Aw n m v ce i D mk (K.call 1 0 b):=⟨_,_,_,hs.append b,hi⟩
 exact⟨rfl,bp,k,cv',_,h',hA.open.1,hA⟩
structure Kd (n m v ce i:Nat) (L:Nat→Ct) (mark:Int) (a:Nat) (b k:Int) (K:Wd):Prop where
 len:K.bx.length=i+1
 app:k=1→Aw n m v ce i L mark K
 yU:k=2→Next K (GP n m v ce i L mark (oy (ou L a) (decide ((a:Int)<mark))))
 fill:k=3→∀L',L'=LN L mark a i→Next K (GP n m v ce i L' mark (oy (ou L' a) (decide ((a:Int)<mark))))
 rV:k=4→Next K (GP n m v ce i L (max mark (pk b (n*ce+1))) ⟨1,0,[]⟩)
theorem Ju {a:Nat} {b k:Int} (h:SW w aY g q cv K) (hq:q≤4000) (hP:Ps n m v ce i K D mk) (hb:Bb b) (ha:pk b (n*ce)=a) (hk:k=1∨k=2∨k=3∨k=4):
 Calls prog 28 #[.pointer (some ⟨g,0,none⟩),.int .i64 k,.int .i64 0,.int .i64 b] w fun en w'=>en=gG (.bool true)∧∃bp,jq Pc w aY w' bp∧∃cv' K1,SW w' bp g (q+1) cv' K1∧Kd n m v ce i D mk a b k K1:=by
 refine(h.Sz hq k b hk hb).L ?_
 rintro en w' ⟨rfl,bp,k',cv',h'⟩
 refine⟨rfl,bp,k',cv',_,h', ?_⟩
 have hL:=hP.ok
 obtain⟨res,hs,hi⟩:=hP
 have hpa:jh b (n*ce)=a:=by unfold jh;rw[Int.natCast_mul,ha];rfl
 have hlen:=(IZ h'.k).cl
 have hlb:∀{R:Rz} {D':Nat→Ct} {mk':Int},uo n m v ce (K.call k 0 b).mg.1 (res++[R]) D' mk'→(K.call k 0 b).bx.length=i+1:=fun h=>by
  rw[←hlen,h.len];simp[hi]
 rcases hk with rfl|rfl|rfl|rfl
 ·have hA:Aw n m v ce i D mk (K.call 1 0 b):=⟨_,_,_,hs.append b,hi⟩
  exact⟨hA.open.1,fun _=>hA,fun e=>by simp at e,fun e=>by simp at e,fun e=>by simp at e⟩
 ·obtain⟨r1,r2⟩:=hs.yU b
  rw[hpa,Ih hL] at r2
  exact⟨hlb r2.1,fun e=>by simp at e,fun _=>⟨r1,E1 hs.len r2 hi⟩,fun e=>by simp at e,fun e=>by simp at e⟩
 ·obtain⟨r1,r2⟩:=hs.fill b
  rw[hpa,QB hL mk a i,hi] at r2
  exact⟨hlb r2.1,fun e=>by simp at e,fun e=>by simp at e,fun _ L' e=>by rw[e];exact⟨r1,E1 hs.len r2 hi⟩,fun e=>by simp at e⟩
 ·obtain⟨r1,r2⟩:=hs.rV b
  obtain⟨_,_,h0,_⟩:=hs.nm
  have hp:((jh b (n*ce+1):Nat):Int)=pk b (n*ce+1):=by
   rw[←pg b (n*ce+1) (by omega),Int.natCast_add,Int.natCast_mul]
   rfl
  rw[hp] at r2
  exact⟨hlb r2.1,fun e=>by simp at e,fun e=>by simp at e,fun e=>by simp at e,fun _=>⟨r1,E1 hs.len r2 hi⟩⟩
theorem FD {a:Nat} (h:SW w aY g q cv K) (hq:q≤4000) (hA:Aw n m v ce i D mk K) (ha:a<n*ce) (hno:(a:Int)<mk∨(D a).kd≠0):
 Calls prog 29 #[.pointer (some ⟨g,0,none⟩),.int .i64 0,.int .i64 0,.int .i64 a] w fun en w'=>en=gG (.bool true)∧∃bp,jq Pc w aY w' bp∧∃K2,SW w' bp g (q+1) cv K2∧Next K2 (Aw n m v ce i D mk):=by
 refine(h.M8 hq a).L ?_
 rintro en w' ⟨rfl,bp,k,h'⟩
 obtain⟨W0,res,tk,hs,hi⟩:=hA
 obtain⟨r1,r2⟩:=hs.lost ha hno
 exact⟨rfl,bp,k,_,h',r1,_,_,_,r2,hi⟩
theorem Jl {a:Nat} (h:SW w aY g q cv K) (hq:q≤4000) (hA:Aw n m v ce i D mk K) (ha:a<n*ce) (hmk:¬(a:Int)<mk) (hz:(D a).kd=0):
 Calls prog 29 #[.pointer (some ⟨g,0,none⟩),.int .i64 0,.int .i64 0,.int .i64 a] w fun en w'=>en=gG (.bool true)∧∃bp,jq Pc w aY w' bp∧∃K2,SW w' bp g (q+1) cv K2∧(K2.bx.length=i+1∧∃c,K2.bx[i]?=some c∧c.value=je i)∧Next K2 (GP n m v ce i (nT D a ⟨8,iM 0,i,je i⟩) mk ⟨1,a,[]⟩):=by
 refine(h.M8 hq a).L ?_
 rintro en w' ⟨rfl,bp,k,h'⟩
 obtain⟨W0,res,tk,hs,hi⟩:=hA
 obtain⟨r1,r2⟩:=hs.Wp ha hmk hz
 obtain⟨hn,hm,_⟩:=hs.h.nm
 obtain⟨ak,pb,x0,ct,hp,_⟩:=hs.w
 obtain⟨_,g2,_,y,g4,g5⟩:=hs.jv hp a (C3 hn hm ha _ _ _ _ _)
 have hl:=hs.h.len
 rw[hi] at r2 hl
 rw[hl] at g2 g4
 exact⟨rfl,bp,k,_,h',⟨g2,y,g4,by rw[g5.v,hi]⟩,r1,E1 hs.h.len (by rw[hi] at*;exact r2) hi⟩
theorem Bq {t:Int} (h:SW w aY g q cv K) (hq:q≤4000) (hA:Aw n m v ce i D mk K) (ht:((n*ce:Nat):Int)≤t):
 Calls prog 29 #[.pointer (some ⟨g,0,none⟩),.int .i64 0,.int .i64 0,.int .i64 t] w fun en w'=>en=gG (.bool true)∧∃bp,jq Pc w aY w' bp∧∃K2,SW w' bp g (q+1) cv K2∧K2.bx.length=i+1∧Next K2 (GP n m v ce i D mk ⟨7,0,[]⟩):=by
 have hl:=hA.open.1
 refine(h.M8 hq t).L ?_
 rintro en w' ⟨rfl,bp,k,h'⟩
 obtain⟨W0,res,tk,hs,hi⟩:=hA
 obtain⟨r1,r2⟩:=hs.full ht
 obtain⟨_,_,g3,_⟩:=xQ h.k 0 0 t
 exact⟨rfl,bp,k,_,h',by rw[g3];exact hl,r1,E1 hs.h.len r2 hi⟩
theorem SW.call {cb l cc j:Nat} {c:Kl} (h:SW w aY g q (dk (some ⟨cb,0,none⟩) l cc) K) (hl:K.bx.length=l) (hc:K.bx[j]?=some c):
 (g<w.heap.size∧w.cell? ⟨g,7,none⟩=some (dk (some ⟨cb,0,none⟩) l cc)∧cb<w.heap.size)∧∃ta tc ra rc,(w.cell? ⟨cb,j*11,none⟩=some (.int .i64 c.a)∧w.cell? ⟨cb,j*11+1,none⟩=some (.int .i64 c.b)∧w.cell? ⟨cb,j*11+2,none⟩=some (.int .i64 c.kind)∧w.cell? ⟨cb,j*11+3,none⟩=some (.int .i64 c.pos)∧w.cell? ⟨cb,j*11+4,none⟩=some (.string (ik c.value))∧w.cell? ⟨cb,j*11+5,none⟩=some (dk ta c.c.length tc)∧w.cell? ⟨cb,j*11+6,none⟩=some (.int .i64 c.d)∧w.cell? ⟨cb,j*11+7,none⟩=some (.int .i64 c.fin)∧w.cell? ⟨cb,j*11+8,none⟩=some (.int .i64 c.r.wh)∧w.cell? ⟨cb,j*11+9,none⟩=some (.int .i64 c.r.ad)∧w.cell? ⟨cb,j*11+10,none⟩=some (dk ra c.r.val.length rc))∧Sl w (dk ra c.r.val.length rc) (c.r.val.map B8):=by
 obtain⟨V,hx,e⟩:=h.x
 subst hl
 have hj:=(List.getElem?_eq_some_iff.1 hc).1
 have hrow:=hx.ca.row
 rw[e] at hrow
 obtain⟨cb',eb,_,lcb,hce,_⟩:=hrow.cells (by omega)
 simp only[Option.some.injEq,Addr.mk.injEq,and_true] at eb
 subst eb
 obtain⟨tv,rv,e0,e1,e2,e3,e4,e5,e6,e7,e8,e9,e10,e11,e12⟩:=hx.ca.c j c hc
 obtain⟨ta,tc,rfl⟩:=e11.E
 obtain⟨ra,rc,hrv⟩:=e12.E
 rw[List.length_map] at hrv
 subst hrv
 have c7:=hx.cellAt 7 rfl
 rw[e] at c7
 exact⟨⟨hx.lt,c7,lcb⟩,ta,tc,ra,rc,⟨(hce _ (by omega)).H e0,(hce _ (by omega)).H e1,(hce _ (by omega)).H e2,(hce _ (by omega)).H e3,(hce _ (by omega)).H e4,(hce _ (by omega)).H e5,(hce _ (by omega)).H e6,(hce _ (by omega)).H e7,(hce _ (by omega)).H e8,(hce _ (by omega)).H e9,(hce _ (by omega)).H e10⟩,e12.sl⟩
theorem SW.E {l:Nat} (h:SW w aY g q cv K) (hl:K.bx.length=l) (h0:0<l):g<w.heap.size∧∃cb cc,cv=dk (some ⟨cb,0,none⟩) l cc∧cb<w.heap.size∧w.cell? ⟨g,7,none⟩=some (dk (some ⟨cb,0,none⟩) l cc):=by
 obtain⟨V,hx,e⟩:=h.x
 subst hl
 obtain⟨ca,cc,hcv⟩:=hx.ca.row.E
 rw[e] at hcv
 have hrow:=hx.ca.row
 rw[e,hcv] at hrow
 obtain⟨cb,ecb,_,lcb,_⟩:=hrow.cells h0
 subst ecb
 have c7:=hx.cellAt 7 rfl
 rw[e,hcv] at c7
 exact⟨hx.lt,cb,cc,hcv,lcb,c7⟩
theorem MZ (hf:mI n m v ce=true) (w:World):
 Calls prog 26 #[cfg n m v ce] w fun en w'=>∃g,en=gG (.tuple #[.pointer (some ⟨g,0,none⟩),.bool true])∧Bl w w'∧∃bp cv,(∀b,b<w.heap.size→bp b=0)∧SW w' bp g 1 cv (Wd.start n m v ce):=by
 refine(LF ⟨n,m,v,ce,hf⟩ w).L ?_
 rintro en w' ⟨g,rfl,hb,bp,ht,V,x⟩
 exact⟨g,rfl,hb,bp,V.cv,ht,Df ⟨n,m,v,ce,hf⟩,rfl,by show 0<1;omega,by show 1≤wB*1;unfold wB;omega,by show 0≤1;omega,V,x,rfl⟩
theorem SW.lH (h:SW w aY g q cv (Wd.start n m v ce)):
 Calls prog 27 #[.pointer (some ⟨g,0,none⟩)] w fun en w'=>en=gG (.int .i64 ((n:Int)*(ce:Int)))∧Bl w w':=by
 obtain⟨V,hx,_⟩:=h.x
 exact tz hx h.k
theorem Od (hf:mI n m v ce=true):Ps n m v ce 0 (Wd.start n m v ce) (fun _=>no) 0:=⟨[],N7 ⟨n,m,v,ce,hf⟩,rfl⟩
end
def wg (T:Nat) (D:Nat→Ct):List Value:=(List.range T).map fun a=>Value.string (ik (ou D a))
structure rU (w:World) (lg T:Nat) (W:World) (aY:Nat→Nat) (g q:Nat) (cv:Value) (K:Wd) (D:Nat→Ct):Prop where
 bl:Bl w W
 tg:∀b,b<w.heap.size→aY b=0
 sw:SW W aY g q cv K
 lo:mx W aY 0 9 1 (.slice (some ⟨lg,0,none⟩) T T) T (wg T D)
 lw:w.heap.size≤lg
def Wb (w W:World) (aY:Nat→Nat) (wb:Nat) (r:Rz):Prop:=∃wa wc,W.heap[wb]?=some (.cells #[.int .i64 r.wh,.int .i64 r.ad,.slice wa r.val.length wc] 43 (0,0))∧aY wb=0∧w.heap.size≤wb∧Sl W (.slice wa r.val.length wc) (r.val.map B8)∧∀b,(Value.slice wa r.val.length wc).ownBlock=some b→aY b=0∧b<W.heap.size
section
variable{W W':World}{q' lg T wb:Nat}{cv':Value}{K':Wd}{P:Nat->Prop}{r:Rz}
theorem rU.step (h:rU w lg T W aY g q cv K D) (k:jq P W aY W' bp) (hP:¬P 0) (hs:SW W' bp g q' cv' K'):rU w lg T W' bp g q' cv' K' D:=by
 have hsz:=h.bl.size
 refine⟨⟨k.only.os.H h.bl.os,k.only.tape.H h.bl.tape,k.only.output.H h.bl.output,Nat.le_trans hsz k.size,fun b hb=> ?_⟩,fun b hb=>(k.aY b (by omega)).H (h.tg b hb),hs,h.lo.B k hP,h.lw⟩
 rw[k.only.block b (by omega) (by rw[h.tg b hb];exact hP)]
 exact h.bl.block b hb
theorem rU.L (h:rU w lg T W aY g q cv K D) (hq:q≤q'):rU w lg T W aY g q' cv K D:=⟨h.bl,h.tg,h.sw.L hq,h.lo,h.lw⟩
theorem rU.TK (h:rU w lg T W aY g q cv K D) (hb:Bl W W') (ht:∀b,b<W.heap.size→bp b=aY b):rU w lg T W' bp g q cv K D:=
 h.step (P:=fun _=>False) (jq.B hb ht) (fun e=>e) (h.sw.bl hb ht)
theorem Wb.step (h:Wb w W aY wb r) (k:jq P W aY W' bp) (hP:¬P 0):Wb w W' bp wb r:=by
 obtain⟨wa,wc,h1,h2,h3,h4,h5⟩:=h
 have e:=k.heap h1 h2 hP
 have hsz:=k.size
 refine⟨wa,wc,e.1,e.2,h3, ?_,fun b hb=>⟨(k.aY b (h5 b hb).2).H (h5 b hb).1,by have:=(h5 b hb).2;omega⟩⟩
 rcases h4 with h4|⟨b,o,c,e1,e2,e3⟩
 ·exact .inl h4
 ·have hb:aY b=0:=(h5 b (by rw[e1];rfl)).1
  refine .inr ⟨b,o,c,e1,by omega,fun j hj=> ?_⟩
  rw[k.only.cell e2 (by rw[hb];exact hP)]
  exact e3 j hj
theorem Wb.bl (h:Wb w W aY wb r) (hb:Bl W W') (ht:∀b,b<W.heap.size→bp b=aY b):Wb w W' bp wb r:=h.step (P:=fun _=>False) (jq.B hb ht) (fun e=>e)
theorem rU.set (h:rU w lg T W aY g q cv K D) {b:Nat} (hb:w.heap.size≤b) (ht:aY b=0) (hne:b≠lg) (o:Nat) (u:Value):rU w lg T (W.setCell ⟨b,o,none⟩ u) aY g q cv K D:=by
 have k:=ka (w:=W) (aY:=aY) ht o u
 refine⟨((bz.E (S:=fun _=>False) h.bl).setCell ⟨b,o,none⟩ (.inr hb) u).qp fun _ _ e=>e,h.tg,h.sw.JX k,⟨?_,h.lo.aY⟩,h.lw⟩
 exact lD h.lo.gZ fun b' hb'=>Below.heap_setCell _ _ _ _ (by
  have e:lg=b':=by simpa [Value.ownBlock] using hb'
  simp only
  omega)
theorem rU.log (h:rU w lg T W aY g q cv K D) (t:Nat) (c:Ct) {s:List Int} (hs:s=if c.kd=0 then [] else if c.kd=9 then [106] else c.val):rU w lg T (W.setCell ⟨lg,t,none⟩ (.string (ik s))) aY g q cv K (nT D t c):=by
 have ht:aY lg=0:=h.lo.aY lg rfl
 have k:=ka (w:=W) (aY:=aY) ht t (.string (ik s))
 refine⟨((bz.E (S:=fun _=>False) h.bl).setCell ⟨lg,t,none⟩ (.inr h.lw) _).qp fun _ _ e=>e,h.tg,h.sw.JX k,⟨?_,h.lo.aY⟩,h.lw⟩
 have e:=Qy (fun s=>Value.string (ik s)) D T t c
 unfold wg
 rw[←e,←hs]
 exact rC h.lo.gZ t _
theorem rU.logAt (h:rU w lg T W aY g q cv K D) {a:Nat} (ha:a<T):W.cell? ⟨lg,a,none⟩=some (.string (ik (ou D a))):=by
 have e:=h.lo.gZ.cellAt a (by omega)
 rw[e]
 unfold wg
 rw[List.getElem?_map,List.getElem?_range ha]
 rfl
theorem rU.yS (h:rU w lg T W aY g q cv K D):lg<W.heap.size:=(h.lo.gZ.lt lg rfl).2
theorem rU.ne (h:rU w lg T W aY g q cv K D) {arr:Array Value} {f:Nat×Nat} (hw:W.heap[wb]?=some (gO arr 43 f)):wb≠lg:=fun e=>gJ h.lo.gZ hw (by decide) (by rw[e];rfl)
theorem rU.OD (h:rU w lg T W aY g q cv K D) (hT:0<T) (j:Nat):W.frozen? ⟨lg,j,none⟩=false:=by
 obtain⟨g',e,_,_,_,hf⟩:=h.lo.cells hT
 simp only[Option.some.injEq,Addr.mk.injEq,and_true] at e
 rw[e]
 exact hf j
theorem cell_far {b c o o':Nat} {u:Value} (h:b≠c):(W.setCell ⟨c,o',none⟩ u).cell? ⟨b,o,none⟩=W.cell? ⟨b,o,none⟩:=World.cell?_of_block (Below.heap_setCell _ _ _ _ (by simp only;omega))
theorem rU.want {x0 x1 x2:Value} (h:rU w lg T W aY g q cv K D) (hw:W.heap[wb]?=some (gO #[x0,x1,x2] 43 (0,0))) (ht:aY wb=0) (hwb:w.heap.size≤wb) {ra:Option Addr} {rc:Nat} {r:Rz} (hsl:Sl W (dk ra r.val.length rc) (r.val.map B8)) (hnew:∀b,(dk ra r.val.length rc).ownBlock=some b→aY b=0∧b<W.heap.size∧b≠wb):
 rU w lg T (((W.setCell ⟨wb,0,none⟩ (.int .i64 r.wh)).setCell ⟨wb,1,none⟩ (.int .i64 r.ad)).setCell ⟨wb,2,none⟩ (dk ra r.val.length rc)) aY g q cv K D∧Wb w (((W.setCell ⟨wb,0,none⟩ (.int .i64 r.wh)).setCell ⟨wb,1,none⟩ (.int .i64 r.ad)).setCell ⟨wb,2,none⟩ (dk ra r.val.length rc)) aY wb r:=by
 have hne:=h.ne hw
 refine⟨((h.set hwb ht hne 0 _).set hwb ht hne 1 _).set hwb ht hne 2 _,ra,rc, ?_,ht,hwb, ?_,fun b hb=>⟨(hnew b hb).1,by simp[World.setCell];exact(hnew b hb).2.1⟩⟩
 ·have h1:=iU 0 (.int .i64 r.wh) W [x0,x1,x2] hw
  have h2:=iU 1 (.int .i64 r.ad) _ _ h1
  exact iU 2 (dk ra r.val.length rc) _ _ h2
 ·rcases hsl with e|⟨b,o,c,e1,e2,e3⟩
  ·exact .inl e
  ·have hb:=(hnew b (by rw[e1];rfl)).2.2
   refine .inr ⟨b,o,c,e1,by simp[World.setCell];exact e2,fun j hj=> ?_⟩
   rw[cell_far hb,cell_far hb,cell_far hb]
   exact e3 j hj
theorem rU.Ub (h:rU w lg T W aY g q cv K D) (hw:W.heap[wb]?=some (gO #[.int .i64 1,.int .i64 0,dk none 0 0] 43 (0,0))) (ht:aY wb=0) (hwb:w.heap.size≤wb) (y:Int):
 rU w lg T (W.setCell ⟨wb,1,none⟩ (.int .i64 y)) aY g q cv K D∧Wb w (W.setCell ⟨wb,1,none⟩ (.int .i64 y)) aY wb ⟨1,y,[]⟩:=
 ⟨h.set hwb ht (h.ne hw) 1 _,none,0,iU 1 (.int .i64 y) W [.int .i64 1,.int .i64 0,dk none 0 0] hw,ht,hwb,.inl ⟨_,_,rfl,rfl⟩,fun b hb=>by simp[Value.ownBlock] at hb⟩
theorem rU.Uw (h:rU w lg T W aY g q cv K D) (hw:W.heap[wb]?=some (gO #[.int .i64 1,.int .i64 0,dk none 0 0] 43 (0,0))) (ht:aY wb=0) (hwb:w.heap.size≤wb):
 rU w lg T (W.setCell ⟨wb,0,none⟩ (.int .i64 7)) aY g q cv K D∧Wb w (W.setCell ⟨wb,0,none⟩ (.int .i64 7)) aY wb ⟨7,0,[]⟩:=
 ⟨h.set hwb ht (h.ne hw) 0 _,none,0,iU 0 (.int .i64 7) W [.int .i64 1,.int .i64 0,dk none 0 0] hw,ht,hwb,.inl ⟨_,_,rfl,rfl⟩,fun b hb=>by simp[Value.ownBlock] at hb⟩
theorem IC {s:List Int} (hs:∀d∈s,0≤d∧d≤255) (h:s≠[]):¬(ik s).toList=[]∧(ik s).toList.isEmpty=false:=by
 have e0:¬(ik s).toList=[]:=fun e=>h (oN hs (fun d hd=>by simp at hd) (by rw[e,Go.ByteArray.toList_eq,mE];rfl))
 refine⟨e0, ?_⟩
 cases hl:(ik s).toList with
 |nil=>exact absurd hl e0
 |cons _ _=>rfl
end
theorem zD (s:List Int) (b:Bool) (hs:∀d∈s,0≤d∧d≤255) (w:World):
 Calls prog 31 #[.string (ik s),.bool b] w fun en w'=>∃ra rc,en=gG (.agg #[.int .i64 (oy s b).wh,.int .i64 0,dk ra (oy s b).val.length rc])∧Bl w w'∧Sl w' (dk ra (oy s b).val.length rc) ((oy s b).val.map B8)∧∀k,(dk ra (oy s b).val.length rc).ownBlock=some k→w.heap.size≤k∧k<w'.heap.size:=by
 have hz0:∀d∈([]:List Int),0≤d∧d≤255:=fun d hd=>by simp at hd
 have hz1:∀d∈([106]:List Int),0≤d∧d≤255:=fun d hd=>by simp at hd;omega
 cases b
 ·by_cases h0:s=[]
  ·subst h0
   have he:ik []=({data:=#[]}:ByteArray):=rfl
   rw[he]
   go_enter func31,ntmps31
   go_wp2
   refine bodyPost_ret (v:= .agg #[.int .i64 3,.int .i64 0,dk none 0 0]) (by simp[results,results31,go_sem]) rfl ⟨none,0,rfl, ?_,.inl ⟨_,_,rfl,rfl⟩,fun k hk=>by simp[Value.ownBlock] at hk⟩
   exact(Bl.refl w).alloc _
  ·by_cases h1:s=[106]
   ·subst h1
    have he:ik [106]=({data:=#[106]}:ByteArray):=rfl
    rw[he]
    go_enter func31,ntmps31
    go_wp2
    refine bodyPost_ret (v:= .agg #[.int .i64 9,.int .i64 0,dk none 0 0]) (by simp[results,results31,go_sem]) rfl ⟨none,0,rfl, ?_,.inl ⟨_,_,rfl,rfl⟩,fun k hk=>by simp[Value.ownBlock] at hk⟩
    exact(Bl.refl w).alloc _
   ·have hse:oy s false=⟨8,0,s⟩:=by unfold oy;rw[if_neg (by decide),if_neg h0,if_neg h1]
    rw[hse]
    have e0:¬(ik s).toList=[]:=fun e=>h0 (oN hs hz0 (by rw[e,Go.ByteArray.toList_eq,mE];rfl))
    have e1:¬(ik s).toList=[106]:=fun e=>h1 (oN hs hz1 (by rw[e,Go.ByteArray.toList_eq,mE];rfl))
    have e0':(ik s).toList.isEmpty=false:=by
     cases hl:(ik s).toList with
     |nil=>exact absurd hl e0
     |cons _ _=>rfl
    have e1':((ik s).toList==[106])=false:=by simpa using e1
    have hsz:=uj s
    have kc:=run_bytes_of_string (P:=prog) (w.alloc (gO #[.int .i64 0,.int .i64 0,dk none 0 0] 43)) 9 40 5 (ik s) underlying9 underlying40 underlying5
    rw[hsz] at kc
    have hby:∀(oQ:Obj) cap f,Sl (((w.alloc oQ).alloc (gO (bytesRow (ik s) cap) 5 f)).drew) (dk (some ⟨w.heap.size+1,0,none⟩) s.length cap) (s.map B8):=fun oQ cap f=>by
     have e:=(EY (w.alloc oQ) s hs cap f).sl.bl ((Bl.refl _).drew)
     rw[show(w.alloc oQ).heap.size=w.heap.size+1 by simp] at e
     exact e
    have Hby:=fu hby
    generalize ik s=sv at*
    generalize hgc:grownCap (w.alloc (gO #[.int .i64 0,.int .i64 0,dk none 0 0] 43)) s.length 0 5=gc at*
    generalize hrow:bytesRow sv gc=row at*
    clear hby hsz hgc
    go_enter func31,ntmps31
    go_wp2
    refine bodyPost_ret (v:= .agg #[.int .i64 8,.int .i64 0,dk (some ⟨w.heap.size+1,0,none⟩) s.length gc]) (by simp[results,results31,go_sem]) rfl ⟨some ⟨w.heap.size+1,0,none⟩,gc,rfl,(((Bl.refl w).alloc _).alloc _).drew, ?_,fun k hk=>by simp[Value.ownBlock] at hk;subst hk;exact⟨by omega,by simp⟩⟩
    have e:=Hby.o (gO #[.int .i64 8,.int .i64 0,dk (some ⟨w.heap.size+1,0,none⟩) s.length gc] 43) gc (row.size,row.size+1)
    rw[hrow] at e
    exact e
 ·go_enter func31,ntmps31
  go_wp2
  refine bodyPost_ret (v:= .agg #[.int .i64 4,.int .i64 0,dk none 0 0]) (by simp[results,results31,go_sem]) rfl ⟨none,0,rfl, ?_,.inl ⟨_,_,rfl,rfl⟩,fun k hk=>by simp[Value.ownBlock] at hk⟩
  exact(Bl.refl w).alloc _
end Go.Proofs.YtbghhbpacijmmaaGreat
