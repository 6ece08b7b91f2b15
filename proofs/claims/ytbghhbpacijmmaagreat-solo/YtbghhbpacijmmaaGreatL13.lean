import Derived.Test.YtbghhbpacijmmaaGreatL12
open Go.Proofs.Tryz
namespace Go.Proofs.YtbghhbpacijmmaaGreat
set_option maxRecDepth 99999
set_option maxHeartbeats 0
set_option linter.defProp false
open Go.RowKit Go.Maps
attribute [local go_sem ↓] Go.wp_at_zero Go.wp_at_succ
variable {W W' W2:Wd} {aY qb bp:Nat->Nat} {w w' W1 w5:World} {g i k n:Nat} {V:WV} {T:Nat->St} {d:Kl} {ta ha:Option Addr} {t:Int} {l:Le}
def jJ.mM(h:jJ w aY g W V){u:Nat}(k:jq (Mc (100+32*u)) w aY w' bp){A:Ac}(D:W.ac[u]?=some A){p:Nat}{y:Cx}(j:ME V.aw u p A.up)(F:Cl w' bp (100+32*u) p qb y):jJ w' bp g (W.mM u y) V:=
 (h.Qa k (λt e=>.inl (by unfold Mc at e;omega)) D j F).sd pK
def oJ{α:Type}(f:α->α)(l:List α)(k:Nat):List α:=(l.map f).take k++l.drop k
def Gn{α:Type}(f)(l:List α):oJ f l 0=l:=rfl
def Kv{α:Type}(f)(l:List α):oJ f l l.length=l.map f:=by unfold oJ;rw[eQ,cF,bI aq]
def Bj{α:Type}(f)(l:List α)(k)(j:k<=l.length):(oJ f l k).length=l.length:=by simp[oJ];omega
def Dr{α:Type}(f)(l:List α)(k)(y:k<l.length):(oJ f l k)[k]?=l[k]?:=by unfold oJ;have j:(List.take k (l.map f)).length=k:=gM;rw[aC C,j];simp
def zr{α:Type}{f:α->α}{l:List α}{c:α}(j:l[k]?=some c):oJ f l (k+1)=(oJ f l k).set k (f c):=by
 have y:=(aj.1 j).1;have A:(l.map f)[k]?=some (f c):=by rw[aK,j];rfl
 unfold oJ;have D:(List.take k (l.map f)).length=k:=gM;rw[eA _ _ C,D];have F:List.drop k l=c::List.drop (k+1) l:=by rw[cm y];simp_all
 rw[F,cW,A];simp
def Mw{α:Type}{f:α->α}{l:List α}{c:α}(j:l[k]?=some c)(h:f c=c):oJ f l (k+1)=oJ f l k:=by
 rw[zr j,h];have y:=Dr f l k (aj.1 j).1;rw[j]at y;apply bJ;intro i;by_cases e:k=i
 .subst e;rw[aQ (aj.1 y).1,y]
 simp_all
def TY(h:Wk W){A:Ac}(M:W.ac[i]?=some A){c:Kl}(P:c∈W.bx)(Q:d∈W.bx)(S:c.a=i)(Y:d.a=i)(D:c.b=d.b):c=d:=by
 have j:((W.bx.filter λc=>c.a==i).map (·.b)).Nodup:=by rw[(h.ac i A M).nm];exact dU
 have Z:c∈W.bx.filter λc=>c.a==i:=aU.2 ⟨P,iG S⟩;have m2:d∈W.bx.filter λc=>c.a==i:=aU.2 ⟨Q,iG Y⟩;obtain⟨a,ha,ea⟩:=aV.1 Z;obtain⟨b,y,eb⟩:=aV.1 m2;have F:=dE.1 j;have H:((W.bx.filter λc=>c.a==i).map (·.b))[a]'(iG ha)=c.b:=mY ea;have L:((W.bx.filter λc=>c.a==i).map (·.b))[b]'(iG y)=d.b:=mY eb;obtain e|e|e:=fh a b
 .exact absurd (by rw[H,L];exact D) (F a b (iG ha) (iG y) e)
 .simp_all
 exact absurd (by rw[H,L];exact D.symm) (F b a (iG y) (iG ha) e)
def Aq(h:Wk W){A:Ac}(F:W.ac[i]?=some A)(hu:A.up=true)(hn:n∈A.X.jl):∃q d,W.bx[q]?=some d/\d.a=i/\d.b=n/\d.kind=1/\d.fin=0/\∀(k:Nat) c,k<q->W.bx[k]?=some c->¬(c.a=i/\c.b=n):=by
 obtain⟨c,hc,rfl⟩:=aD.1 hn;obtain⟨m1,H⟩:=aU.1 hc;have k1:c.kind=1:=by unfold Cx.lV at H;simp only[bL,ZT]at H;exact H.1
 have hx:=(h.ac i A F).x;obtain⟨d,L,M,P,h3,_⟩:=((hx.a c m1).st:W.J i c.gH c.kind c.gZ c.unit c.iS);obtain⟨q,j⟩:=List.mem_iff_getElem?.1 L;refine⟨q,d,j,M,P,h3.H k1,?_,λk e hk he hb=>?_⟩
 .by_cases Q:d.fin=0
  .exact Q
  exfalso;obtain⟨A',S,a2,a3⟩:=(h.ca _ L).ac;rw[M,F]at S;simp only[aJ]at S;subst S;have r1:=a3 hu Q;rw[P]at r1;exact(h.ca _ L).fw Q ((hx.rp _ _ r1).2 ⟨c,m1,rfl⟩)
 have Y:((W.bx.filter λc=>c.a==i).map (·.b)).Nodup:=by rw[(h.ac i A F).nm];exact dU
 have y:[e,d].Sublist W.bx:=by
  obtain⟨hq,Z⟩:=aj.1 j;have h5:W.bx.drop q=d::W.bx.drop (q+1):=by rw[cm hq,Z]
  have h6:e∈W.bx.take q:=by obtain⟨a4,a0⟩:=aj.1 he;exact fM.2 ⟨k,C,a0⟩
  have D:([e]++[d]).Sublist (W.bx.take q++W.bx.drop q):=by refine gD (List.singleton_sublist.2 h6) ?_;rw[h5];exact List.Sublist.cons_cons _ (fp _)
  rwa[dK]at D
 have D:=((y.filter λc=>c.a==i).map (·.b));have h8:=Y.sublist D;simp[hb.1,M,hb.2,P]at h8
theorem Jy(h:jJ w aY g W V)(hl:W.bx.length<=1000000000){q:Nat}(hd:W.bx[q]?=some d)(ha:d.a=i)(hn:d.b=n)(hk:d.kind=1)(hf:d.fin=0)(L:∀(k:Nat) c,k<q->W.bx[k]?=some c->¬(c.a=i/\c.b=n)):ib 56 #[O g,I i,I n] w λen w'=>en=gG (.bool true)/\Bl w w':=by
 obtain⟨ca,cc,M⟩:=h.ca.row.E;have H:=fu h;have a6:=(aj.1 hd).1;obtain⟨Hd,a0,P⟩:=gV hd L M;clear h hd L M;go_enter func56,ntmps56;go_wp2_with fail;go_loopw[7](λj wr=>∃k:Nat,k<=q/\j=I k/\Hid (Bl w wr)) λj _=>W.bx.length-(Go.RowKit.intOf j).toNat
 case atStart=>exact⟨0,jd,rfl,jo⟩
 obtain⟨k,a7,rfl,HB⟩:=hrel;have Q:=H.bl (bp:=aY) HB λ_ _=>rfl;have iV:k<W.bx.length:=C;have a5:(k:Int)<(W.bx.length:Int):=C;have c7:=Q.cellAt 7 rfl;rw[P.o]at c7;have a8:=Q.lt;obtain⟨c,hc⟩:=m9 iV;have A:=Q.ca.row;rw[P.o]at A;obtain⟨cb,rfl,_,a9,y,_⟩:=A.cells C;obtain⟨tv,rv,e0,e1,e2,e3,e4,e5,e6,e7,e8,e9,S,Y,Z⟩:=Q.ca.c k c hc;have d0:=(y (k*11) C).H e0;have d1:=(y (k*11+1) C).H e1;have d2:=(y (k*11+2) C).H e2;have d3:=(y (k*11+3) C).H e3;have d4:=(y (k*11+4) C).H e4;have d5:=(y (k*11+5) C).H e5;have d6:=(y (k*11+6) C).H e6;have d7:=(y (k*11+7) C).H e7;have d8:=(y (k*11+8) C).H e8;have d9:=(y (k*11+9) C).H e9;have a1:=(y (k*11+10) C).H S;obtain⟨ta,tc,rfl⟩:=Y.E;obtain⟨ra,rc,rfl⟩:=Z.E;rw[ay]at a1;have Hc:=fu hc;clear Q y e0 e1 e2 e3 e4 e5 e6 e7 e8 e9 S Y Z hc A;by_cases a2:k=q
 .subst a2;have a3:c=d:=by have:=Hc.symm.H Hd;simpa using this
  subst a3;rw[hk]at d2;rw[hf]at d7;rw[ha]at d0;rw[hn]at d1;clear ha hn hk hf;go_wp2;go_ret;exact⟨rfl,HB.alloc _⟩
 have D:=a0 k c C Hc;by_cases F:c.a=i
 .have a4:¬((c.b:Int)=(n:Int)):=λe=>D ⟨F,C⟩;rw[F]at d0;clear F D ha hn hk hf;go_wp2;exact⟨⟨k+1,C,gX,HB.alloc _⟩,gW⟩
 have a4:¬((c.a:Int)=(i:Int)):=C;clear F D ha hn hk hf;go_wp2;exact⟨⟨k+1,C,gX,HB.alloc _⟩,gW⟩
def jJ.PN{cb len cc:Nat}(h:jJ w aY g W V)(Y:V.cv=dk (G cb) len cc)(a1:W.bx.length=len)(hd:W.bx[i]?=some d){tc:Nat}(a6:V.cs[i*11+5]?=some (dk ta d.c.length tc))(Z:Bl w W1){gg cp:Nat}(S:w5.ownsRow 0 3 1 (dk (G gg) (d.c.length+1) cp) (d.c.length+1) (d.c.map I++[I t]))(A:W1.grownBy w5 (dk ta d.c.length tc).ownBlock)(a7:(dk ta d.c.length tc).ownBlock=some gg\/w.heap.size<=gg):∃tag2,jq (λs=>s=4\/s=1000+i) w aY (w5.setCell (U cb (i*11+5)) (dk (G gg) (d.c.length+1) cp)) tag2/\jJ (w5.setCell (U cb (i*11+5)) (dk (G gg) (d.c.length+1) cp)) tag2 g {W with bx:=W.bx.set i {d with c:=d.c++[t]}} {V with cs:=V.cs.set (i*11+5) (dk (G gg) (d.c.length+1) cp)}:=by
 subst a1;have l2:=Z.lt;have l3:=A.size;have n1:=h.a;have n2:=h.an;have n3:=h.ht;have a8:=(aj.1 hd).1;have ap:V.cs.length=W.bx.length*11:=h.ca.row.gZ.1;have D:=h.ca.row;rw[Y]at D;obtain⟨tv,rv,e0,e1,e2,e3,e4,e5,e6,e7,e8,e9,a9,a2,aa⟩:=h.ca.c i d hd;have ab:tv=dk ta d.c.length tc:=by have:=e5.symm.H a6;simpa using this
 subst ab;have tl:=a2.aY;have ll:=λb F=>(a2.gZ.lt b F).2;have a0:=D.aY cb rfl;have a3:=(D.gZ.lt cb rfl).2;obtain⟨tag2,a4⟩:∃tag2:Nat->Nat,tag2=λb=>if b<w.heap.size then aY b else if b=gg then 1000+i else 9:=⟨_,rfl⟩
 have M:∀b,b<w.heap.size->tag2 b=aY b:=λb F=>by rw[a4];simp[F]
 have ac:tag2 gg=1000+i:=by
  obtain e|e:=a7
  .rw[M gg (ll gg e)];exact tl gg e
  rw[a4];dsimp only;rw[az C,aE rfl]
 have O5:bz (λb=>aY b=4\/aY b=1000+i) w w5:=(bz.E Z).H ((bz.B A).L λb _ e=>.inr (tl b e.symm));have oQ:bz (λb=>aY b=4\/aY b=1000+i) w (w5.setCell (U cb (i*11+5)) (dk (G gg) (d.c.length+1) cp)):=O5.setCell (U cb (i*11+5)) (.inl (.inl a0)) _;have k:jq (λs=>s=4\/s=1000+i) w aY (w5.setCell (U cb (i*11+5)) (dk (G gg) (d.c.length+1) cp)) tag2:=⟨oQ,M⟩;have P:w5.ownsRow 0 60 11 (dk (G cb) W.bx.length cc) W.bx.length V.cs:=by
  refine lD D.gZ λb F=>?_;have e:cb=b:=by simpa [Value.ownBlock]using F
  subst e;rw[A.block cb C λe=>by have:=tl cb e.symm;rw[a0]at this;omega,Z.heap a3]
 refine⟨tag2,k,(k.heap h.hg h.tg C).1,(k.heap h.hg h.tg C).2,h.J.B k C λj _ _=>C,h.E.B k C λj _ _=>C,⟨⟨by show World.ownsRow _ _ _ _ V.cv _ _;rw[Y,bK];exact rC P _ _,λb F=>?_⟩,λj y hy=>?_⟩,h.po.B k C C,h.ha.B k C,h.ms.B k C,n1,n2,n3⟩
 .have a5:V.cv.ownBlock=some b:=F;rw[Y]at a5;have e:cb=b:=by simpa [Value.ownBlock]using a5
  rw[<-e,M cb a3];exact a0
 by_cases hj:j=i
 .subst hj;rw[aQ a8]at hy;simp only[aJ]at hy;subst hy;have y:=λo (ho:o<11) (h5:o≠5)=>aH (l:=V.cs) (a:=dk (G gg) (d.c.length+1) cp) (show j*11+5≠j*11+o by omega);refine⟨dk (G gg) (d.c.length+1) cp,rv,(y 0 C C).H e0,(y 1 C C).H e1,(y 2 C C).H e2,(y 3 C C).H e3,(y 4 C C).H e4,aQ C,(y 6 C C).H e6,(y 7 C C).H e7,(y 8 C C).H e8,(y 9 C C).H e9,(y 10 C C).H a9,⟨?_,λb F=>?_⟩,aa.B k C⟩
  .simp only[aO,df,dA,aZ,bj,eT];refine lD S λb F=>Z8 _ _ _ _ λe=>?_;obtain⟨g',am,an,k1,_,k3,k4,_⟩:=(show mx w5 (λ_=>0) 0 60 11 (dk (G cb) W.bx.length cc) W.bx.length V.cs from⟨P,λ_ _=>rfl⟩).block C;simp only[bO,aJ,Z0,ZS,ZU]at k1;rw[<-k1.1]at k4;exact gJ S k4 au (j4 F e)
  have e:gg=b:=by simpa [Value.ownBlock]using F
  rw[<-e];exact ac
 rw[aH (Ne.symm hj)]at hy;obtain⟨ad,ag,z0,z1,z2,z3,z4,z5,z6,z7,z8,z9,ai,ak,al⟩:=(h.ca.c j y hy).B k C C;have Q:=λo (ho:o<11)=>aH (l:=V.cs) (a:=dk (G gg) (d.c.length+1) cp) (show i*11+5≠j*11+o by omega);exact⟨ad,ag,(Q 0 C).H z0,(Q 1 C).H z1,(Q 2 C).H z2,(Q 3 C).H z3,(Q 4 C).H z4,(Q 5 C).H z5,(Q 6 C).H z6,(Q 7 C).H z7,(Q 8 C).H z8,(Q 9 C).H z9,(Q 10 C).H ai,ak,al⟩
def jJ.RE{M:Nat}(h:jJ w aY g W {V with hv:=dk ha W.kS.length M})(D:Bl w W1){gg cp:Nat}(A:w5.ownsRow 0 3 1 (dk (G gg) (W.kS.length+1) cp) (W.kS.length+1) (W.kS.map I++[I t]))(j:W1.grownBy w5 (dk ha W.kS.length M).ownBlock)(S:(dk ha W.kS.length M).ownBlock=some gg\/w.heap.size<=gg):∃tag2,jq (λs=>s=1\/s=7) w aY (w5.setCell (U g 9) (dk (G gg) (W.kS.length+1) cp)) tag2/\jJ (w5.setCell (U g 9) (dk (G gg) (W.kS.length+1) cp)) tag2 g {W with kS:=W.kS++[t]} {V with hv:=dk (G gg) (W.kS.length+1) cp}:=by
 have lw:=h.lt;have l2:=D.lt;have l3:=j.size;have n1:=h.a;have n2:=h.an;have n3:V.tp=8\/V.tp=97:=h.ht;have Y:∀b,(dk ha W.kS.length M).ownBlock=some b->aY b=7:=h.ha.aY;have ll:=λb F=>(h.ha.gZ.lt b F).2;obtain⟨tag2,P⟩:∃tag2:Nat->Nat,tag2=λb=>if b<w.heap.size then aY b else if b=gg then 7 else 9:=⟨_,rfl⟩
 have y:∀b,b<w.heap.size->tag2 b=aY b:=λb F=>by rw[P];simp[F]
 have Z:tag2 gg=7:=by
  obtain e|e:=S
  .rw[y gg (ll gg e)];exact Y gg e
  rw[P];dsimp only;rw[az C,aE rfl]
 have oQ:bz (λb=>aY b=1\/aY b=7) w (w5.setCell (U g 9) (dk (G gg) (W.kS.length+1) cp)):=((bz.E D).H ((bz.B j).L λb _ e=>.inr (Y b e.symm))).setCell (U g 9) (.inl (.inl h.tg)) _;have k:jq (λs=>s=1\/s=7) w aY (w5.setCell (U g 9) (dk (G gg) (W.kS.length+1) cp)) tag2:=⟨oQ,y⟩;have Q:w5.heap[g]?=some (gO (Ek W {V with hv:=dk ha W.kS.length M}).toArray 66 (0,0)):=by rw[j.block g C λe=>by have:=Y g e.symm;rw[h.tg]at this;omega,D.heap lw];exact h.hg
 refine⟨tag2,k,iU 9 _ w5 _ Q,(y g lw).H h.tg,h.J.B k C λi _ _=>C,h.E.B k C λi _ _=>C,h.ca.B k C C λi _=>C,h.po.B k (show¬(V.tp=1\/V.tp=7) by omega) C,⟨?_,λb F=>?_⟩,h.ms.B k C,n1,n2,n3⟩
 .simp only[aO,df,dA,aZ,bj,eT];exact lD A λb F=>Z8 _ _ _ _ λe=>gJ A Q au (j4 F e)
 have e:gg=b:=by simpa [Value.ownBlock]using F
 rw[<-e];exact Z
def DS(h:jJ w aY g W V)(M:Wk W)(P:Sw W){A:Ac}(L:W.ac[i]?=some A){p:Nat}(D:ME V.aw i p A.up)(F:Cl w aY (100+32*i) p qb A.X):ib 57 #[O p] w λQ w'=>Q=gS/\∃bp,jq (Mc (100+32*i)) w aY w' bp/\jJ w' bp g (W.mM i A.X.kR) V:=by
 obtain⟨Z,S⟩:=F;have y:=(M.ac i A L).x;have j:=P.sm i;have ha:=y.d;have hk:=j.k;have hr:=y.JT j;refine gF (OF _ (RI S C (y.OJ j) (y.xn j) C C y.pl λc H=>by have:=(y.a c H).q.nl;omega)) λw' Y=>?_;obtain⟨bp,k,H⟩:=Y.B;exact⟨rfl,bp,k,h.mM k L D H⟩
theorem Ix(h:jJ w aY g W V)(hW:Wk W)(hS:W.iH+8+2422*300<=3000000000)(hC:W.bx.length<=9999999)(a0:Ki W.jU)(a4:0<W.ac.length):ib 30 #[O g] w λen w'=>en=gG (.bool W.mg.2)/\∃bp,jq Pw w aY w' bp/\Wy w' bp g W.mg.1 V.cv:=by
 have ad:=h.an;have HT:Hid (∀k,k<=W.ac.length->Wk (W.Z k)/\Sw (W.Z k)/\(W.Z k).ac.length=W.ac.length/\(W.Z k).jU=W.jU/\(W.Z k).iH<=W.iH+8/\(W.Z k).bx=W.bx):=λk hk=>by obtain⟨t1,t2,t3,t4,t5⟩:=ru hW k;exact⟨t1,⟨C,jP t5 hC⟩,t2.ac,t2.ms,C,t5⟩
 obtain⟨H,a5⟩:=fl h a0;clear h hW a0;go_enter func30,ntmps30;go_wp2_with fail;go_loopw[3](λi wr=>∃(k:Nat) (bp:Nat->Nat) (V':WV),k<=W.ac.length/\i=I k/\Hid (jq Pw w aY wr bp)/\Hid (jJ wr bp g (W.Z k) V')/\Hid (V'.cv=V.cv)) λi _=>W.ac.length-(Go.RowKit.intOf i).toNat
 case atStart=>exact⟨0,aY,V,jd,rfl,jq.refl,H,rfl⟩
 clear H;obtain⟨k,bp,V',hk,rfl,HK,M,P⟩:=hrel;obtain⟨t1,t2,t3,t4,t5,t6⟩:=HT k hk;obtain⟨aa,ac,Q⟩:=M.E.row.E;have c5:=M.cellAt 5 rfl;rw[Q,t3]at c5;have ag:=M.lt;by_cases iV:k<W.ac.length
 .have a9:(k:Int)<(W.ac.length:Int):=C;obtain⟨A,hA⟩:∃A,(W.Z k).ac[k]?=some A:=⟨_,ah C⟩;have y:=M.E.row;rw[Q,t3]at y;obtain⟨ab,rfl,_,ai,D,_⟩:=y.cells C;obtain⟨p,qb,L,a1⟩:=M.E.ac k A hA;have d1:=(D (k*3+1) C).H L.2.1;have d2:=(D (k*3+2) C).H L.2.2;have a2:=fu (DS M t1 t2 hA L a1);have j:W.Z (k+1)=(W.Z k).nz k:=uR W k;unfold Wd.nz at j;rw[hA]at j;dsimp only at j;obtain⟨up,a3⟩:=dS A.up;rw[a3]at d2 j;clear D y L a1 Q t1 t2 t3 t4 t5 t6 a3
  cases up with
  |true=>rw[aE rfl]at j;rw[<-j]at a2;clear j;go_wp2_with(go_at_call 57;refine a2.L ?_;rintro en w5⟨rfl,F,k5,h5⟩;obtain⟨S,Y⟩:=fl k5 h5;clear k5 h5);exact⟨⟨k+1,F,V',C,gX,HK.H (S.L λt e=>by unfold Mc at e;unfold Pw;omega),Y,P⟩,gW⟩
  |false=>rw[az aq]at j;have a6:=fu j;clear j;go_wp2;exact⟨⟨k+1,bp,V',C,gX,HK,jP a6.o M,P⟩,gW⟩
 have ak:¬((k:Int)<(W.ac.length:Int)):=C;have a7:k=W.ac.length:=C;subst a7;have HE:=fu (wY (W:=W.Z W.ac.length) M t1 300 jc C (jP t6 hC) (jP t4 a5) (jP t3 a4));have hb:Hid ((W.Z W.ac.length).lJ 300=W.mg):=rfl;rw[hb.o,P.o]at HE;clear t1 t2 t3 t4 t5 t6 hb;obtain⟨wb,Z⟩:=dS W.mg;rw[Z]at HE;have a8:=fu Z;clear Z;go_wp2_with(go_at_call 58;refine HE.L ?_;rintro en w5⟨rfl,F,k5,h5⟩;obtain⟨S,Y⟩:=fl k5 h5;clear k5 h5);go_ret;rw[a8.o];exact⟨rfl,F,HK.H S,Y⟩
def UF(h:jJ w aY g W V)(D:Wk W)(F:W.iH+8+2422*300<=3000000000)(H:W.bx.length<=9999999)(j:Ki W.jU)(y:0<W.ac.length):ib 30 #[O g] w λA w'=>A=gG (.bool W.mg.2)/\∃bp,jq Pw w aY w' bp/\Wx w' bp g W.mg.1:=by
 refine(Ix h D F H j y).L ?_;rintro A w'⟨rfl,bp,k,M,x,_⟩;exact⟨rfl,bp,k,M,x⟩
def Pg(t:Nat):Prop:=t=1\/t=4\/t=7\/(100<=t/\t<356)\/1000<=t
def PI(w:World)(x)(t):∀j u,[x][j]?=some u->(w.alloc (gO #[x] t)).cell? (((U w.heap.size 0):Addr).add j)=some u:=fW (cs:=#[x]) (t:=t) (fr:=(0,0)) (ao w _)
def As{X:Cx}(h:sL X):X.jl.Pairwise (·<·):=by unfold Cx.jl;exact cj.2 ((h.gH.sublist cE).imp λe=>e)
def Ij{p:Nat}{A:Ac}(M:Wk W)(P:Sw W)(Q:W.ac[i]?=some A)(S:n∈A.X.jl)(t)(Y:Cl w aY (100+32*i) p qb A.X):ib 25 #[O p,I n,I t] w λZ w'=>Z=gG (I 0)/\CS w aY (100+32*i) p qb (A.X.jv n t) w':=by
 obtain⟨VC,H⟩:=Y;have D:=(M.ac i A Q).x;have j:=P.sm i;obtain⟨c,hc,rfl⟩:=aD.1 S;obtain⟨F,L⟩:=aU.1 hc;have y:c.q.nodes.length<=100:=by have:=(D.a c F).q.nl;omega
 by_cases ha:A.X.F t
 .exact yR _ _ _ _ (Qf H C (D.OJ j) F L y t ha)
 refine yR _ _ _ _ (Ej H (D.OJ j) F L y t ?_);unfold Cx.F at ha;omega
theorem IS(h:jJ w aY g W V)(hW:Wk W)(hS:W.iH+2<=3000000000)(hC:W.bx.length<=9999999)(a D t:Int)(c0:Bb a)(c1:Bb D)(ds:0<W.ac.length):ib 29 #[O g,I a,I D,I t] w λen w'=>en=gG (.bool true)/\∃bp,jq Pg w aY w' bp/\Wy w' bp g (W.jv a D t) V.cv:=by
 obtain⟨i3,j3,r0,r1,r2⟩:=fx Tryz.sU;obtain⟨aa,ac,c2⟩:=h.E.row.E;obtain⟨ca,cc,c3⟩:=h.ca.row.E;obtain⟨ha,hc,c4⟩:=h.ha.E;obtain⟨pv,av,lv,cv,hv,mv,ps,aw,ls,cs,tp⟩:=V;simp only at c2 c3 c4;subst c2 c3 c4;have g7:=h.a;have g8:=h.an;obtain⟨i,hi⟩:=dS (jh a W.ac.length);have dt:i<W.ac.length:=by rw[<-hi];exact mS a ds
 have g9:(i:Int)<(W.ac.length:Int):=C;have am:pk a W.ac.length=(i:Int):=by have:=kI a W.ac.length C;rw[<-hi];unfold jh;omega
 obtain⟨A,hA⟩:=m9 dt;have b7:=fu λWm=>kQ a W.ac.length Wm c0.1 c0.2 C C;rw[am]at b7;obtain⟨ab,rfl,Rl,c6,a0,_⟩:=h.E.row.cells (by show 0<W.ac.length;omega);obtain⟨p,qb,ai,bo⟩:=h.E.ac i A hA;have d1:=(a0 (i*3+1) (by show i*3+1<W.ac.length*3;omega)).H ai.2.1;have d2:=(a0 (i*3+2) (by show i*3+2<W.ac.length*3;omega)).H ai.2.2;have c5:=h.cellAt 5 rfl;have lg:=h.lt;have hx:=(hW.ac i A hA).x;have a7:∀c∈A.X.dd,c.q.nodes.length<=100:=λc hc=>by have:=(hx.a c hc).q.nl;omega
 have bq:Hid (ib 24 #[O p] w λen w'=>∃a cap,en=gG (dk a A.X.jl.length cap)/\w'.ownsRow w.heap.size 3 1 (dk a A.X.jl.length cap) A.X.jl.length (A.X.jl.map λ(n:Nat)=>I (n:Int))/\Bl w w'):=by obtain⟨VC,hK⟩:=bo;exact AY hK hx.pl a7
 have b8:Hid (A.X.jl=[]->∀Wm,Bl w Wm->ib 25 #[O p,I 0,I 0] Wm λen w'=>en=gG (I 7)/\w'=Wm):=by intro he Wm hb;obtain⟨VC,hK⟩:=bo.bl hb (bp:=aY) λ_ _=>rfl;have:=yR 0 0 7 (λw'=>w'=Wm) (KA hK a7 0 (nI he) 0);exact this
 have an:=As hx.pd;obtain⟨L,Y⟩:=dS A.X.jl;have bs:Hid (A.up=true->∀n∈L,∃q d,W.bx[q]?=some d/\d.a=i/\d.b=n/\d.kind=1/\d.fin=0/\∀(k:Nat) c,k<q->W.bx[k]?=some c->¬(c.a=i/\c.b=n)):=λhu n hn=>Aq hW hA hu (jP Y hn);have fn:L.length<=8:=by rw[<-Y];unfold Cx.jl;rw[ay];exact aF (bF _ _) hx.pl
 have bl:Hid (∀n∈L,n<=1000000000):=λn hn=>by rw[<-Y]at hn;obtain⟨c,dv,rfl⟩:=aD.1 hn;have e1:=hx.pd.lt c (aU.1 dv).1;have e2:(A.X.res.length:Int)<=W.bx.length:=hx.f;omega
 rw[Y]at bq b8 an;have a8:W.jv a D t=if A.up=true/\L≠[]then(W.pA i A (L.getD (jh D L.length) 0) t).iY else W:=by unfold Wd.jv;rw[hi,hA];dsimp only;rw[Y]
 obtain⟨up,bv⟩:=dS A.up;rw[bv]at d2 a8 bs;obtain⟨H,ga,Hs⟩:=gV (And.intro h (And.intro hW (And.intro hA (And.intro ai Y)))) bv an;clear h hW hA ai bo hx a7 bv an Y a0 am hi;rw[a8];clear a8
 cases up with
 |false=>rw[az (λe=>lY e)];go_enter func29,ntmps29;go_wp2_with(first|(go_at_call 15;refine gF (b7 _) λw' P=>?_;have P:=P.symm;subst P));go_ret;exact⟨rfl,aY,jq.refl,⟨_,H.1,rfl⟩⟩
 |true=>
 generalize c8:(if true=true/\L≠[]then(W.pA i A (L.getD (jh D L.length) 0) t).iY else W)=WR;have cd:=fu c8;clear c8;go_enter func29,ntmps29;go_upto_region 5 with(first|(go_at_call 15;refine gF (b7 _) λw' P=>?_;have P:=P.symm;subst P)|(go_at_call 24;refine bq.L ?_;rintro en w1⟨wa,bm,rfl,ce,cf⟩;obtain⟨dw,dO⟩:=fl cf ce;clear cf ce));clear bq b7;go_wp2;go_loopw[11](λj wr=>∃k:Nat,k<=L.length/\j=I k/\Hid (Bl w1 wr)) λj _=>L.length-(Go.RowKit.intOf j).toNat
 case atStart=>exact⟨0,jd,rfl,jo⟩
 obtain⟨k,hk,rfl,HB⟩:=hrel;have bW:=dw.H HB;have a9:=(iD HB).iJ dO λ_ _ e=>e;by_cases iV:k<L.length
 .have fv:(k:Int)<(L.length:Int):=C;obtain⟨nk,b9⟩:=m9 iV;obtain⟨q,d,q1,q2,q3,q4,q5,q6⟩:=bs (by first|rfl|trivial) nk (aR b9);have cg:=fu (Jy (H.1.bl (bp:=aY) bW λ_ _=>rfl) (by show W.bx.length<=_;omega) q1 q2 q3 q4 q5 q6);obtain⟨gl,ch,ea,e1,_,ba,e4,_⟩:=(show mx wr (λ_=>0) 0 3 1 (lI wa L bm) L.length (L.map λ(n:Nat)=>I (n:Int))from⟨gL a9 λ_ _=>jd,λ_ _=>rfl⟩).block C;simp only[bO,ZU]at e1;obtain⟨rfl,rfl⟩:=e1;have ad:∀(jj n:Nat),L[jj]?=some n->wr.cell? (U gl jj)=some (I (n:Int)):=λjj n hn=>by have gb:=(aj.1 hn).1;have:=a9.cellAt jj C;rwa[aK,hn]at this
  have x0:=ad k nk b9;have bw:=fu ad;have eb:=bl nk (aR b9);clear q1 q2 q3 q4 q5 q6 a9 bW e4 ad;by_cases ec:k=0
  .subst ec;go_upto_region 9 with(go_at_call 56;refine ix cg λw2 bA=>?_);go_quiet(fail);go_wp2;exact⟨⟨1,C,gX,(HB.H bA).drewN _⟩,gW⟩
  obtain⟨nl,bB⟩:∃nl,L[k-1]?=some nl:=⟨_,ah C⟩;have ee:nl<nk:=by obtain⟨b1,f1⟩:=aj.1 bB;obtain⟨b2,f2⟩:=aj.1 b9;have:=dE.1 Hs (k-1) k b1 b2 C;rwa[f1,f2]at this
  have x1:=bw (k-1) nl bB;have fw:0<k:=C;have ci:(0:Int)<(k:Int):=C;have gc:decide ((0:Int)<(k:Int))=true:=iG ci;have bC:IntKind.i64.wrap ((k:Int)-1)=((k-1:Nat):Int):=Aj;have ck:((k-1:Nat):Int)<(L.length:Int):=C;have ef:¬((nk:Int)<=(nl:Int)):=C;have g0:decide ((nk:Int)<=(nl:Int))=false:=iG ef;obtain⟨km,cl⟩:=dS (k-1);rw[cl]at x1 bC ck;clear cl bB ee;go_upto_region 9 with(go_at_call 56;refine gF cg λw2 a2=>?_;have bA:=fu a2;obtain⟨gd,ge⟩:=a2.E ba x0 x1;have g1:=af ba a2.lt;clear a2);go_quiet(fail);go_wp2;exact⟨⟨k+1,C,gX,(HB.H bA).drewN _⟩,gW⟩
 have cn:¬((k:Int)<(L.length:Int)):=C;have HX:Hid (jJ wr (gN aY w.heap.size 9) g W ⟨pv,dk (G ab) W.ac.length ac,lv,dk ca W.bx.length cc,dk ha W.kS.length hc,mv,ps,aw,ls,cs,tp⟩):=H.1.bl (bp:=gN aY w.heap.size 9) bW λb hb=>fz _ _ _ _ hb;have bD:Hid (jq Pg w aY wr (gN aY w.heap.size 9)):=jq.E bW 9;have eg:=(bW.cell c6).H d1;have ei:=(bW.cell lg).H c5;have co:=af c6 bW.lt;have ap:=HX.lt;by_cases bE:L.length=0
 .have ar:L=[]:=aW.1 bE;have HG:=fu (b8 ar wr bW);have cq:(L.length:Int)=0:=C;have HR:Hid (W=WR):=by unfold Hid;rw[<-cd.o,az (λe=>e.2 ar)]
  clear bW a9 ar b8 cn;rw[bE];go_wp2_with(first|(go_at_call 25;refine gF HG λw' P=>?_;have P:=P.symm;subst P));go_ret;rw[<-HR.o];exact⟨rfl,_,bD,⟨_,HX,rfl⟩⟩
 have ej:0<L.length:=C;have cq:¬((L.length:Int)=0):=C;obtain⟨kk,bb⟩:=dS (jh D L.length);have ek:kk<L.length:=by rw[<-bb];exact mS D ej
 have am:pk D L.length=(kk:Int):=by have:=kI D L.length C;rw[<-bb];unfold jh;omega
 have bR:=fu λWm=>kQ D L.length Wm c1.1 c1.2 C C;rw[am]at bR;obtain⟨nn,bc⟩:=m9 ek;have cr:L.getD (jh D L.length) 0=nn:=by rw[bb,aS,bc];rfl
 have HR:Hid ((W.pA i A nn t).iY=WR):=by unfold Hid;rw[<-cd.o,aE ⟨by first|trivial|rfl,λe=>bE (by rw[e];rfl)⟩,cr]
 have a3:=aR bc;have eb:=bl nn a3;have ct:=fu a3;obtain⟨gl,ch,ea,e1,_,ba,e4,_⟩:=(show mx wr (λ_=>0) 0 3 1 (lI wa L bm) L.length (L.map λ(n:Nat)=>I (n:Int))from⟨gL a9 λ_ _=>jd,λ_ _=>rfl⟩).block C;simp only[bO,ZU]at e1;obtain⟨rfl,rfl⟩:=e1;have x0:wr.cell? (U gl kk)=some (I (nn:Int)):=by have:=a9.cellAt kk C;rwa[aK,bc]at this
 have gi:(kk:Int)<(L.length:Int):=C;obtain⟨el,b0,hA,ai,Y⟩:=H.o;have cx:=xY b0 hA (n:=nn) (jP Y a3) t;obtain⟨f,hf⟩:=dS ((λc=>if c.a=i/\c.b=nn then{c with c:=c.c++[t]}else c):Kl->Kl);have cP:∀c:Kl,(c.a=i/\c.b=nn)->f c={c with c:=c.c++[t]}:=λc hc=>by rw[<-hf];simp only[aE hc]
 have cS:∀c:Kl,¬(c.a=i/\c.b=nn)->f c=c:=λc hc=>by rw[<-hf];simp only[az hc]
 have Hf:=lZ hf cP cS;have em:Hid (∀c∈W.bx,c.c.length<=3000000000):=λc hc=>by have:=(b0.ca c hc).tk;omega
 have gj:Hid (∀(Wm:World) (b3:Nat->Nat),Cl Wm b3 (100+32*i) p qb A.X->ib 25 #[O p,I nn,I t] Wm λen w'=>en=gG (I 0)/\CS Wm b3 (100+32*i) p qb (A.X.jv nn t) w'):=λWm b3 ep=>Ij b0 ⟨C,hC⟩ hA (jP Y a3) t ep;have eq:=fu cx;have gm:=b0.hd;obtain⟨gn,g2⟩:=dS W.bx.length;clear bW a9 b8 cn am cr a3 bc hf cP cS cx el b0 ai Y e4 bs bb;go_upto_region 14 with(go_at_call 15;refine gF (bR _) λw' P=>?_;have P:=P.symm;subst P);clear bR x0 ba;go_wp2;go_loopw[14](λj wx=>∃(k:Nat) (bp:Nat->Nat) (b4:List Value),k<=W.bx.length/\j=I k/\Hid (jq Pg w aY wx bp)/\Hid (jJ wx bp g {W with bx:=oJ f W.bx k} ⟨pv,dk (G ab) W.ac.length ac,lv,dk ca W.bx.length cc,dk ha W.kS.length hc,mv,ps,aw,ls,b4,tp⟩)) λj _=>W.bx.length-(Go.RowKit.intOf j).toNat
 case atStart=>exact⟨0,_,cs,jd,rfl,bD,by rw[Gn];exact HX⟩
 clear HX bD ei eg co ap;obtain⟨j,bp,b4,hj,rfl,b5,Z⟩:=hrel;obtain⟨c7,c9⟩:=Z.M 7 9 rfl;have ap:=Z.lt;by_cases cV:j<W.bx.length
 .have go:(j:Int)<(W.bx.length:Int):=C;obtain⟨x,a4⟩:=m9 cV;have hx:(oJ f W.bx j)[j]?=some x:=by rw[Dr f W.bx j cV];exact a4
  have a5:=Z.ca.row;simp only[Bj f W.bx j hj]at a5;obtain⟨cb,rfl,_,d3,ak,bd⟩:=a5.cells C;obtain⟨tv,rv,e0,e1,e2,e3,e4,e5,e6,e7,e8,e9,bT,ag,bV⟩:=Z.ca.c j x hx;have d0:=(ak (j*11) C).H e0;have er:=(ak (j*11+1) C).H e1;have d5:=(ak (j*11+5) C).H e5;have f5:=bd (j*11+5);have gq:=fu a4;by_cases a6:x.a=i/\x.b=nn
  .obtain⟨ta,tc,rfl⟩:=ag.E;obtain⟨HT,es⟩:=fl ag e5;have d4:Hid ((dk ta x.c.length tc).ownBlock≠some cb):=λe=>by have t1:=ag.aY cb e;have t2:=Z.ca.row.aY cb rfl;omega
   have eu:Hid ((dk ta x.c.length tc).ownBlock≠some g):=λe=>by have t1:=ag.aY g e;have t2:=Z.tg;omega
   have gr:=em x (aR a4);have bX:Hid (x.c.length+1<=maxLen):=mQ;have a2:Hid ((x.c.length+1)*8<=140737488355328):=lQ;have ev:Hid (oJ f W.bx (j+1)=(oJ f W.bx j).set j {x with c:=x.c++[t]}):=by unfold Hid;rw[zr a4,Hf.2.1 x a6]
   have Hx:=fu hx;rw[a6.1]at d0;rw[a6.2]at er;clear ak bd e0 e1 e2 e3 e4 e5 e6 e7 e8 e9 bT ag bV a5 hx a4 a6;go_upto_region 18 with fail;go_region_law
    ((refine step_append_lies _ jz _ _ _ jz 0 3 i3 _ 1 8 underlying24 j3 r0 r1 r2 rfl C _ x.c.length (x.c.map I) jz ((HT.gZ.alloc _).drew) (U wr.heap.size 0) 1 1 [I t] jz jz (fW (cs:=#[I t]) (t:=3) (fr:=(0,0)) (ao wr _)) qR C bX a2 aq (wr.heap.size+1) aq ?_;intro gg cp w6 F y M S;have gs:=(zM (((Bl.refl wr).alloc _).drew) y (o:=j*11+5) d3 d4).1.H d5;have gt:=(zM (((Bl.refl wr).alloc _).drew) y (o:=j*11+5) d3 d4).2.H f5;have gu:=(zM (((Bl.refl wr).alloc _).drew) y (o:=7) ap eu).1.H c7;have ew:g<w6.heap.size:=(by have:=y.size;simp at this;omega);have g3:cb<w6.heap.size:=(by have:=y.size;simp at this;omega);have be:=ow F y M S;clear F y M S))
   all_goals(go_wp2_with fail)
   all_goals
    obtain⟨F,y,M,S⟩:=be.o;obtain⟨d6,p1,p2⟩:=Z.PN (cb:=cb) (len:=W.bx.length) (cc:=cc) rfl (Bj f W.bx j hj) Hx es (((Bl.refl wr).alloc (gO #[I t] 3)).drew) (gg:=gg) (cp:=cp) F y (M.imp (λe=>e) λe=>C);simp only at p2;rw[<-ev.o]at p2;exact⟨⟨j+1,d6,_,C,gX,b5.H (p1.L λs e=>by unfold Pg;omega),p2⟩,gW⟩
  have d7:Hid (oJ f W.bx (j+1)=oJ f W.bx j):=Mw a4 (Hf.2.2 x a6);by_cases bg:x.a=i
  .have ex:¬((x.b:Int)=(nn:Int)):=λe=>a6 ⟨bg,C⟩;rw[bg]at d0;clear ak bd e0 e1 e2 e3 e4 e5 e6 e7 e8 e9 bT ag bV a5 hx a4 a6 bg;go_wp2;exact⟨⟨j+1,bp,b4,C,gX,b5,jP d7.o Z⟩,gW⟩
  have ex:¬((x.a:Int)=(i:Int)):=C;clear ak bd e0 e1 e2 e3 e4 e5 e6 e7 e8 e9 bT ag bV a5 hx a4 a6 bg;go_wp2;exact⟨⟨j+1,bp,b4,C,gX,b5,jP d7.o Z⟩,gW⟩
 have g4:¬((j:Int)<(W.bx.length:Int)):=C;have d8:j=W.bx.length:=C;have al:=Z.o;rw[d8,Kv]at al;have d9:=fu al;have hh:=al.ha;have da:Hid ((dk ha W.kS.length hc).ownBlock≠some g):=gJ hh.gZ al.hg au;have f9:=al.F 9;have HH:=fu hh;have bX:Hid (W.kS.length+1<=maxLen):=mQ;have a2:Hid ((W.kS.length+1)*8<=140737488355328):=lQ;clear hh Z al d8;go_upto_region 19 with fail;go_upto_region 20 with(at_builtin;refine fm _ rfl _ _ 24 rfl 0 3 i3 (I 0) 1 8 underlying24 j3 r0 r1 r2 rfl au _ W.kS.length (W.kS.map I) rfl (HH.gZ.alloc _) (U wr.heap.size 0) 1 1 [I t] rfl rfl (PI _ _ _) qR au bX a2 aq (wr.heap.size+1) aq ?_;intro gg cp w6 F y M S;have ez:=(zM ((Bl.refl wr).alloc _) y (o:=9) ap da).1.H c9;have f0:=(zM ((Bl.refl wr).alloc _) y (o:=9) ap da).2.H f9;have ew:g<w6.heap.size:=(by have:=y.size;simp at this;omega);have be:=ow F y M S;clear F y M S);obtain⟨F,y,M,S⟩:=be.o;obtain⟨db,k7,h7⟩:=jJ.RE (V:=⟨pv,dk (G ab) W.ac.length ac,lv,dk ca W.bx.length cc,dk ha W.kS.length hc,mv,ps,aw,ls,b4,tp⟩) d9 ((Bl.refl wr).alloc (gO #[I t] 3)) (gg:=gg) (cp:=cp) F y (M.imp (λe=>e) λe=>C);obtain⟨W7,bi⟩:=dS (w6.setCell (U g 9) (dk (G gg) (W.kS.length+1) cp));rw[bi]at k7;simp only at h7;rw[bi]at h7;rw[bi];have h8:=h7.sd (a:=W.iH+1) pK;have f3:({W with iH:=W.iH+1,bx:=W.bx.map f,kS:=W.kS++[t]}:Wd)=({W with iH:=W.iH+1}:Wd).AS i nn t:=by unfold Wd.AS;rw[<-Hf.1]
 simp only at h8;rw[f3]at h8;have c5:=h8.cellAt 5 rfl;have gx:=h8.lt;obtain⟨h0,dc,_,g5,a0,_⟩:=h8.E.row.cells (by show 0<W.ac.length;omega);simp only[aJ,Z0,ZS]at dc;subst dc;have a1:=(a0 (i*3+1) (by show i*3+1<W.ac.length*3;omega)).H H.2.2.2.1.2.1;obtain⟨p7,h1,b6,bn⟩:=h8.E.ac i A H.2.2.1;have f4:p7=p:=by have e1:=b6.2.1.symm.H H.2.2.2.1.2.1;simpa using e1
 subst f4;have f6:=fu (Ij (w:=W7) (aY:=db) H.2.1 ⟨C,hC⟩ H.2.2.1 (n:=nn) (jP H.2.2.2.2 ct) t bn);have H7:=mF h8 b6;have f7:=fu (b5.H (k7.L (Q:=Pg) λs e=>by unfold Pg;omega));clear F y M S be k7 h7 h8 bi a0 ez f0 c7 c9 f9 d9 b5 HH bn b6;go_wp2_with(first|(go_at_call 25;refine gF f6 λw8 dg=>?_;obtain⟨g6,k8,dj⟩:=dg.B;have dl:=H7.1.mM k8 H.2.2.1 H7.2 dj;have f8:=fu (zv dl eq (by show W.iH+1+1<=_;omega) (by show(W.bx.map _).length<=_;rw[ay];omega));have fd:=fu (f7.H (k8.L (Q:=Pg) λs e=>by unfold Mc at e;unfold Pg;omega));clear dg dl k8 dj)|(go_at_call 53;refine f8.L ?_;rintro en w9⟨rfl,dn,k9,h9⟩;obtain⟨ff,fi⟩:=fl k9 h9;clear k9 h9));go_ret;rw[<-HR.o];exact⟨rfl,dn,fd.H (ff.L λs e=>by unfold OT at e;unfold Pg;omega),fi⟩
def Ns(h:jJ w aY g W V)(F:Wk W)(H:W.iH+2<=3000000000)(M:W.bx.length<=9999999)(a which t)(j:Bb a)(y:Bb which)(A:0<W.ac.length):ib 29 #[O g,I a,I which,I t] w λD w'=>D=gG (.bool true)/\∃bp,jq Pg w aY w' bp/\Wx w' bp g (W.jv a which t):=by
 refine(IS h F H M a which t j y A).L ?_;rintro D w'⟨rfl,bp,k,P,x,_⟩;exact⟨rfl,bp,k,P,x⟩
def oD(l:List Int)(t:Nat):Bool:=l.any λx=>x==(t:Int)
def Wd.oo(W:Wd):Nat:=((List.range W.lH).find? λt=> !(oD W.kS t)).getD W.lH
def Mj(y:k<W.lH)(h:∀t,t<k->oD W.kS t=true)(A:oD W.kS k=false):W.oo=k:=by unfold Wd.oo;rw[(List.find?_range_eq_some (p:=λt=> !(oD W.kS t)) (i:=k)).2 ⟨mY A,di.2 y,λj D=>by simp[h j D]⟩];rfl
def KP(h:∀t,t<W.lH->oD W.kS t=true):W.oo=W.lH:=by unfold Wd.oo;rw[bU.2 λt j=>by simp[h t (di.1 j)]];rfl
theorem UR(W:Wd):W.oo<=W.lH:=by
 unfold Wd.oo
 cases h:(List.range W.lH).find? λt=> !(oD W.kS t)with
 |none=>exact jc
 |some t=>have:=di.1 (bu h);simp;omega
def Mg{l:List Int}{m t:Nat}{x:Int}(h:l[m]?=some x):oD (l.take (m+1)) t=(oD (l.take m) t||x==(t:Int)):=by obtain⟨j,rfl⟩:=aj.1 h;unfold oD;rw[aM j,fB];simp
theorem Kw(h:jJ w aY g W V)(hk:Wk W)(hl:W.kS.length<=1000000000000):Calls prog 36 #[O g] w λen w'=>en=.returned (I W.oo)/\Bl w w':=by
 obtain⟨ha,hc,Q⟩:=h.ha.E;have F:=h.ha;rw[Q]at F;have c9:w.cell? (U g 9)=some (dk ha W.kS.length hc):=by rw[<-Q];exact h.cellAt 9 rfl
 have lg:=h.lt;have a2:∀(m:Nat) (x:Int),W.kS[m]?=some x->∃hb,ha=G hb/\hb<w.heap.size/\w.cell? (U hb m)=some (I x):=λm x S=>by have hm:=(aj.1 S).1;obtain⟨hb,e1,_,e2,e3,_⟩:=F.cells C;refine⟨hb,e1,e2,(e3 m C).H ?_⟩;rw[aK,S];rfl
 have P:=IV hk.n1.2 hk.c1.2;have ec:((W.lH:Nat):Int)=(W.n:Int)*W.ce:=by show((W.n*W.ce:Nat):Int)=_;simp
 have a3:W.lH<=48:=P;have Y:Hid (∀Wm,Bl w Wm->Calls prog 27 #[O g] Wm λen w'=>en=.returned (I (W.lH:Nat))/\Bl Wm w'):=λWm hb=>by have:=tz (h.bl (bp:=aY) hb λ_ _=>rfl) hk;rwa[<-ec]at this
 have aa:=fu a2;have Z:Hid (∀k,k<W.lH->(∀t,t<k->oD W.kS t=true)->oD W.kS k=false->W.oo=k):=λk a b c=>Mj a b c;have a0:Hid ((∀t,t<W.lH->oD W.kS t=true)->W.oo=W.lH):=λa=>KP a;have a4:Hid (∀t,oD (W.kS.take W.kS.length) t=oD W.kS t):=λt=>by rw[bZ]
 obtain⟨TT,a5⟩:=dS W.lH;rw[a5]at Y a3 Z a0;obtain⟨FR,a6⟩:=dS W.oo;rw[a6]at Z a0|-;clear h hk F a2 P ec a5 a6 Q;go_enter func36,ntmps36;go_wp2_with fail;go_loopw[3](λt wr=>∃k:Nat,k<=TT/\t=I k/\Hid (Bl w wr/\∀t,t<k->oD W.kS t=true)) λt _=>TT-(Go.RowKit.intOf t).toNat
 case atStart=>exact⟨0,jd,rfl,jo,λt ht=>absurd ht C⟩
 obtain⟨k,hk,rfl,HI⟩:=hrel;have ab:=fu (Y wr HI.1);by_cases iV:k<TT
 .have am:(k:Int)<(TT:Int):=C;go_wp2_with(go_at_call 27;refine ab.L ?_;rintro en w2⟨rfl,a7⟩;have A:=fu (HI.1.H a7);clear a7);have ar:=(A.cell lg).H c9;have av:=af lg A.lt;go_loopw[4,5](λb j wx=>∃m:Nat,m<=W.kS.length/\b=.bool (oD (W.kS.take m) k)/\j=I m/\wx=w2) λ_ j _=>W.kS.length-(Go.RowKit.intOf j).toNat
  case atStart=>exact⟨0,jd,by simp[oD],rfl,rfl⟩
  obtain⟨m,hm,rfl,rfl,rfl⟩:=hrel;by_cases ac:m<W.kS.length
  .have ad:(m:Int)<(W.kS.length:Int):=C;obtain⟨x,S⟩:=m9 ac;obtain⟨hb,rfl,a8,ag⟩:=aa m x S;have an:=(A.cell a8).H ag;have ap:=af a8 A.lt;have D:=Mg (t:=k) S
   cases y:oD (W.kS.take m) k with
   |true=>rw[y]at D;have M:=fu D;clear D y S;go_wp2;exact⟨⟨m+1,C,by rw[M.o];rfl,gX,by trivial⟩,gW⟩
   |false=>
    rw[y]at D;have M:=fu D;clear D y S;by_cases ai:x=(k:Int)
    .subst ai;go_wp2;exact⟨⟨m+1,C,nI M.o,gX,by trivial⟩,gW⟩
    go_wp2;exact⟨⟨m+1,C,nI M.o,gX,by trivial⟩,gW⟩
  have ad:¬((m:Int)<(W.kS.length:Int)):=C;have ak:m=W.kS.length:=C;subst ak;rw[a4.o k]
  cases y:oD W.kS k with
  |true=>
   have Hb:=fu y;clear y;go_wp2;exact⟨⟨k+1,C,gX,A,λt ht=>by
    by_cases e:t=k
    .rw[e];exact Hb
    .exact HI.2 t C⟩,gW⟩
  |false=>have Hb:=fu y;clear y;go_wp2;go_ret;exact⟨by rw[Z.o k iV HI.2 Hb.o];rfl,A⟩
 have aw:¬((k:Int)<(TT:Int)):=C;have al:k=TT:=C;subst al;go_wp2_with(go_at_call 27;refine(Y _ ?hb).L ?_;(case hb=>first|exact HI.1|exact a1);rintro en w3⟨rfl,a9⟩;have a1:Hid (Bl w w3):=Bl.H (by first|exact HI.1|exact a1) a9;clear a9);go_ret;exact⟨by rw[a0.o HI.2];rfl,a1⟩
namespace Wd
def nP(W:Wd)(i:Nat):Nat->Wd
 |0=>W
 |k+1=>(W.nP i k).jv i 0 (W.nP i k).oo
def mH(W:Wd)(i:Nat):Wd:=match W.ac[i]? with
 |none=>W
 |some A=>if A.up then(W.mM i A.X.kR).nP i A.X.kR.jl.length else W
def kK(W:Wd)(k:Nat):Wd:=(List.range k).foldl mH W
def round(W:Wd):Wd×Bool:=(W.kK W.ac.length).lJ 300
end Wd
structure Kp(d:Nat)(W W':Wd):Prop where
 k:Wk W'
 iH:W'.iH<=W.iH+d
 cl:W'.bx.length=W.bx.length
 ms:W'.jU=W.jU
 al:W'.ac.length=W.ac.length
 s:W'.n=W.n/\W'.m=W.m/\W'.v=W.v/\W'.ce=W.ce
def Kp.refl(h:Wk W):Kp 0 W W:=⟨h,jc,rfl,rfl,rfl,rfl,rfl,rfl,rfl⟩
def Kp.H{d e:Nat}(h:Kp d W W')(k:Kp e W' W2):Kp (d+e) W W2:=⟨k.k,by have:=h.iH;have:=k.iH;omega,k.cl.H h.cl,k.ms.H h.ms,k.al.H h.al,k.s.1.H h.s.1,k.s.2.1.H h.s.2.1,k.s.2.2.1.H h.s.2.2.1,k.s.2.2.2.H h.s.2.2.2⟩
def Kp.L{d e:Nat}(h:Kp d W W')(j:d<=e):Kp e W W':=⟨h.k,gI h.iH,h.cl,h.ms,h.al,h.s⟩
def MJ(W:Wd)(a which t):(W.jv a which t).n=W.n/\(W.jv a which t).m=W.m/\(W.jv a which t).v=W.v/\(W.jv a which t).ce=W.ce:=by
 obtain e|⟨A,n,_,_,_,e⟩:=uw W a which t
 .rw[e];exact⟨rfl,rfl,rfl,rfl⟩
 rw[e];exact⟨rfl,rfl,rfl,rfl⟩
def Kp.jv(h:Wk W)(a which t):Kp 2 W (W.jv a which t):=by obtain⟨j,y,A,D,F,_⟩:=xQ h a which t;exact⟨j,y,A,D,F,MJ W a which t⟩
theorem Kp.nP(h:Wk W)(i):∀k,Kp (2*k) W (W.nP i k)
 |0=>Kp.refl h
 |k+1=>(Kp.nP h i k).H (Kp.jv (Kp.nP h i k).k _ _ _)
def Kp.kR(h:Wk W){A:Ac}(j:W.ac[i]?=some A):Kp 1 W (W.mM i A.X.kR):=
 ⟨h.mM j (h.ac i A j).kR,jc,rfl,rfl,cy ..,rfl,rfl,rfl,rfl⟩
def AQ{X:Cx}(h:X.dd.length<=8):X.jl.length<=8:=by unfold Cx.jl;rw[ay];exact aF (bF _ _) h
def II(h:Wk W){A:Ac}(j:W.ac[i]?=some A):A.X.kR.dd.length<=8:=((h.ac i A j).kR).1.pl
def Kp.mH(h:Wk W)(i):Kp 17 W (W.mH i):=by
 unfold Wd.mH;split
 .exact(Kp.refl h).L C
 rename_i A j;split
 .have y:=Kp.kR h j;have:=AQ (II h j);exact(y.H (Kp.nP y.k i _)).L C
 exact(Kp.refl h).L C
def ri(W:Wd)(k):W.kK (k+1)=(W.kK k).mH k:=by unfold Wd.kK;rw[dp,dN];rfl
theorem Kp.kK(h:Wk W):∀k,Kp (17*k) W (W.kK k)
 |0=>Kp.refl h
 |k+1=>by rw[ri];exact(Kp.kK h k).H (Kp.mH (Kp.kK h k).k k)
def Pr(t:Nat):Prop:=Pw t\/Pg t
theorem TS(h:jJ w aY g W V)(hW:Wk W)(hS:W.iH+136+2422*300<=3000000000)(hC:W.bx.length<=9999999)(ap:Ki W.jU)(ar:0<W.ac.length):ib 37 #[O g] w λen w'=>en=gG (.bool W.round.2)/\∃bp,jq Pr w aY w' bp/\Wx w' bp g W.round.1:=by
 have bB:=h.an;have HT:Hid (∀k,k<=W.ac.length->Kp (17*k) W (W.kK k)):=λk _=>Kp.kK hW k;obtain⟨H,bd⟩:=fl h ap;clear h hW ap;go_enter func37,ntmps37;go_wp2_with fail;go_loopw[3](λi wr=>∃(k:Nat) (bp:Nat->Nat) (V':WV),k<=W.ac.length/\i=I k/\Hid (jq Pr w aY wr bp)/\Hid (jJ wr bp g (W.kK k) V')) λi _=>W.ac.length-(Go.RowKit.intOf i).toNat
 case atStart=>exact⟨0,aY,V,jd,rfl,jq.refl,H⟩
 clear H;obtain⟨k,bp,V',hk,rfl,HK,HX⟩:=hrel;have F:=fu (HT k hk);obtain⟨aa,ac,a7⟩:=HX.E.row.E;have c5:=HX.cellAt 5 rfl;rw[a7,F.al]at c5;have bC:=HX.lt;by_cases iV:k<W.ac.length
 .have bv:(k:Int)<(W.ac.length:Int):=C;obtain⟨A,hA⟩:∃A,(W.kK k).ac[k]?=some A:=⟨_,ah (by rw[F.al];exact iV)⟩;have Q:=HX.E.row;rw[a7,F.al]at Q;obtain⟨ab,rfl,_,bD,S,_⟩:=Q.cells C;obtain⟨p,qb,a1,av⟩:=HX.E.ac k A hA;have d1:=(S (k*3+1) C).H a1.2.1;have d2:=(S (k*3+2) C).H a1.2.2;have aw:Sw (W.kK k):=⟨gI F.iH,by rw[F.cl];exact hC⟩;have a8:=fu (DS HX F.k aw hA a1 av);have y:W.kK (k+1)=(W.kK k).mH k:=ri W k;unfold Wd.mH at y;rw[hA]at y;dsimp only at y;obtain⟨up,b0⟩:=dS A.up;rw[b0]at d2 y;have HA:=fu hA;clear S Q a1 av a7 b0 hA aw
  cases up with
  |true=>
   rw[aE rfl]at y;obtain⟨W2,a2⟩:=dS ((W.kK k).mM k A.X.kR);have a3:Kp (17*k+1) W W2:=by rw[<-a2];exact F.H (Kp.kR F.k HA)
   have a4:W2.ac[k]?=some {A with X:=A.X.kR}:=by rw[<-a2];show((W.kK k).ac.modify k _)[k]?=_;rw[bS,HA.o];simp
   have b1:=AQ (II F.k HA);rw[a2]at y a8;have a9:=(a3.k.ac k _ a4).x;have ad:Hid (A.X.kR.dd.length<=8/\∀c∈A.X.kR.dd,c.q.nodes.length<=100):=⟨a9.pl,λc hc=>by have:=(a9.a c hc).q.nl;omega⟩;obtain⟨XT,b2⟩:=dS A.X.kR;rw[b2]at y b1 a4 ad;have HG:Hid (∀j,j<=XT.jl.length->Kp (17*k+17) W (W2.nP k j)):=λj hj=>(a3.H (Kp.nP a3.k k j)).L C;obtain⟨ag,be⟩:=fl y a4;clear y a3 a4 a2 a9 b2;go_upto_region 6 with(go_at_call 57;refine a8.L ?_;rintro en w5⟨rfl,Y,k5,h5⟩;obtain⟨ai,M⟩:=fl k5 h5;clear k5 h5);obtain⟨p5,bE,a5,a6⟩:=M.E.ac k _ be;have b3:Hid (ib 24 #[O p5] w5 λen w'=>∃a cap,en=gG (dk a XT.jl.length cap)/\w'.ownsRow w5.heap.size 3 1 (dk a XT.jl.length cap) XT.jl.length (XT.jl.map λ(n:Nat)=>I (n:Int))/\Bl w5 w'):=by obtain⟨VC,hK⟩:=a6;exact AY hK ad.1 ad.2
   obtain⟨bR,bT,Z⟩:=M.E.row.E;have ak:W2.ac.length=W.ac.length:=(HG 0 jd).al;have bg:=M.cellAt 5 rfl;rw[Z,ak]at bg;have P:=M.E.row;rw[Z,ak]at P;obtain⟨bV,rfl,_,bw,a0,_⟩:=P.cells C;have e1:=(a0 (k*3+1) C).H a5.2.1;have bW:=M.lt;clear a0 P a5 a6 Z ak a8 c5 d1 d2;obtain⟨nw,b4⟩:=dS XT.jl.length;rw[b4]at b3 b1 HG;go_upto_region 7 with(go_at_call 24;refine b3.L ?_;rintro en w6⟨wa,bA,rfl,_,b5⟩;have b6:=fu b5;clear b5);go_wp2;go_loopw[5](λt wx=>∃(j:Nat) (D:Nat->Nat) (Vj:WV),j<=nw/\t=I j/\Hid (jq Pr w aY wx D)/\Hid (jJ wx D g (W2.nP k j) Vj)) λt _=>nw-(Go.RowKit.intOf t).toNat
   case atStart=>exact⟨0,Y,_,jd,rfl,(HK.H (ai.L λt e=>.inl (by unfold Mc at e;unfold Pw;omega))).H (jq.B b6 λ_ _=>rfl),M.bl b6 λ_ _=>rfl⟩
   obtain⟨j,D,Vj,hj,rfl,b7,am⟩:=hrel;by_cases bX:j<nw
   .have bi:(j:Int)<(nw:Int):=C;have kj:=HG j hj;have HF:=fu (Kw am kj.k (by have:=kj.k.hd;have:=kj.iH;omega));have b8:=kj.iH;have b9:Hid (∀w7,Bl wr w7->ib 29 #[O g,I k,I 0,I (W2.nP k j).oo] w7 λen w'=>en=gG (.bool true)/\∃bp,jq Pg w7 D w' bp/\Wx w' bp g (W2.nP k (j+1))):=λw7 bl=>Ns (am.bl (bp:=D) bl λ_ _=>rfl) kj.k C (by rw[kj.cl];exact hC) k 0 _ ⟨C,C⟩ ⟨C,C⟩ (by rw[kj.al];exact ar);obtain⟨fr,ba⟩:=dS ((W2.nP k j).oo);rw[ba]at HF b9;clear kj ba;go_wp2_with(first|(go_at_call 36;refine ix HF λw7 bb=>?_)|(go_at_call 29;refine(b9 _ bb).L ?_;rintro en w8⟨rfl,bc,k8,h8⟩;obtain⟨bm,bn⟩:=fl k8 h8;clear k8 h8));obtain⟨V8,h8⟩:=bn.o;exact⟨⟨j+1,bc,V8,C,gX,(b7.H (jq.B (bp:=D) bb λ_ _=>rfl)).H (bm.L λt e=>.inr e),h8⟩,gW⟩
   have bi:¬((j:Int)<(nw:Int)):=C;have bo:j=nw:=C;subst bo;go_wp2;exact⟨⟨k+1,D,Vj,C,gX,b7,by rw[ag.o,b4];exact am⟩,gW⟩
  |false=>rw[az aq]at y;have ag:=fu y;clear y;go_wp2;exact⟨⟨k+1,bp,V',C,gX,HK,jP ag.o HX⟩,gW⟩
 have c0:¬((k:Int)<(W.ac.length:Int)):=C;have bq:k=W.ac.length:=C;subst bq;have kk:=F.o;have b8:=kk.iH;have HE:=fu (C4 (W:=W.kK W.ac.length) HX kk.k 300 jc C (by rw[kk.cl];exact hC) (by rw[kk.ms];exact bd) (by rw[kk.al];exact ar));have hb:Hid ((W.kK W.ac.length).lJ 300=W.round):=rfl;rw[hb.o]at HE;clear hb kk;obtain⟨wb,an⟩:=dS W.round;rw[an]at HE;have bs:=fu an;clear an;go_wp2_with(go_at_call 58;refine HE.L ?_;rintro en w5⟨rfl,Y,k5,h5⟩;obtain⟨ai,M⟩:=fl k5 h5;clear k5 h5);go_ret;rw[bs.o];exact⟨rfl,Y,HK.H (ai.L λt e=>.inl e),M⟩
def kT(W W':Wd):Prop:=∃a,W'={W with iH:=a}
def kT.refl(W:Wd):kT W W:=⟨W.iH,rfl⟩
def kT.symm(h:kT W W'):kT W' W:=by obtain⟨a,rfl⟩:=h;exact⟨W.iH,rfl⟩
def kT.H(h:kT W W')(k:kT W' W2):kT W W2:=by obtain⟨a,rfl⟩:=h;obtain⟨b,rfl⟩:=k;exact⟨b,rfl⟩
def kT.kE(h:kT W W')(k:Nat):kT (W.kE k) (W'.kE k):=by
 obtain⟨a,rfl⟩:=h;unfold Wd.kE;dsimp only;split;all_goals
  split
  .exact⟨_,rfl⟩
  split<;>exact⟨_,rfl⟩
theorem kT.foldl{α:Type}(f:Wd->α->Wd)(j:∀W W' x,kT W W'->kT (f W x) (f W' x)):∀(l:List α) {W W':Wd},kT W W'->kT (l.foldl f W) (l.foldl f W')
 |[],_,_,h=>h
 |x::l,_,_,h=>kT.foldl f j l (j _ _ x h)
def kT.iE(h:kT W W'):kT W.iE W'.iE:=by
 have j:W'.pl.length+W'.ac.length=W.pl.length+W.ac.length:=by obtain⟨a,rfl⟩:=h;rfl
 unfold Wd.iE;rw[j];refine kT.foldl _ (λ_ _ k h=>h.kE k) _ ?_;obtain⟨a,rfl⟩:=h;exact⟨_,rfl⟩
def kT.iY(h:kT W W'):kT W.iY W'.iY:=by obtain⟨a,rfl⟩:=h;exact⟨_,rfl⟩
def kT.mO(h:kT W W')(l:Le):kT (W.mO l) (W'.mO l):=by obtain⟨a,rfl⟩:=h;unfold Wd.mO;have:({W with iH:=a}:Wd).jL l.fr l.tt=W.jL l.fr l.tt:=rfl;rw[this];split<;>exact⟨_,rfl⟩
def kT.kW(h:kT W W')(j:List Le):kT (W.kW j) (W'.kW j):=kT.foldl _ (λ_ _ l h=>h.mO l) j h
def kT.iq(h:kT W W'):W'.iq=W.iq:=by obtain⟨a,rfl⟩:=h;rfl
def kT.bx(h:kT W W'):W'.bx=W.bx:=by obtain⟨a,rfl⟩:=h;rfl
def kT.ac(h:kT W W'):W'.ac=W.ac:=by obtain⟨a,rfl⟩:=h;rfl
def kT.pl(h:kT W W'):W'.pl=W.pl:=by obtain⟨a,rfl⟩:=h;rfl
def kT.step(h:kT W W'):kT W.step W'.step:=by unfold Wd.step;rw[h.iE.iq];refine kT.kW ?_ _;obtain⟨a,e⟩:=h.iE;exact⟨a,by rw[e,h.iq]⟩
theorem kT.lJ:∀(k:Nat) {W W':Wd},kT W W'->kT (W.lJ k).1 (W'.lJ k).1/\(W'.lJ k).2=(W.lJ k).2
 |0,_,_,h=>⟨h,rfl⟩
 |k+1,W,W',h=>by
  unfold Wd.lJ;rw[h.iE.iq];split
  .exact⟨h.step,rfl⟩
  exact kT.lJ k h.step
def kT.mM(h:kT W W')(i:Nat)(X:Cx):kT (W.mM i X) (W'.mM i X):=by obtain⟨a,rfl⟩:=h;exact⟨_,rfl⟩
def kT.jv(h:kT W W')(x y t:Int):kT (W.jv x y t) (W'.jv x y t):=by
 obtain⟨a,rfl⟩:=h;unfold Wd.jv;dsimp only;split
 .exact⟨_,rfl⟩
 split<;>exact⟨_,rfl⟩
def kT.oo(h:kT W W'):W'.oo=W.oo:=by obtain⟨a,rfl⟩:=h;rfl
theorem kT.nP(h:kT W W')(i:Nat):∀k,kT (W.nP i k) (W'.nP i k)
 |0=>h
 |k+1=>by unfold Wd.nP;rw[(kT.nP h i k).oo];exact(kT.nP h i k).jv _ _ _
theorem kT.mH(h:kT W W')(i:Nat):kT (W.mH i) (W'.mH i):=by
 unfold Wd.mH;rw[h.ac];split
 .omega
 split
 .exact(h.mM _ _).nP _ _
 grind
def kT.round(h:kT W W'):kT W.round.1 W'.round.1/\W'.round.2=W.round.2:=by unfold Wd.round;rw[h.ac];exact kT.lJ 300 (kT.foldl _ (λ_ _ i h=>h.mH i) _ h)
def kT.call(h:kT W W')(k x y:Int):kT (W.call k x y) (W'.call k x y):=by
 obtain⟨a,rfl⟩:=h;unfold Wd.call;dsimp only;split
 .exact⟨_,rfl⟩
 split
 .split<;>exact⟨_,rfl⟩
 exact⟨_,rfl⟩
def kT.mW(h:kT W W'):kT W.mW W'.mW:=by obtain⟨a,rfl⟩:=h;unfold Wd.mW;split<;>exact⟨_,rfl⟩
def Pl.rest(P:Pl):Pl:=if P.up then P.jt else P
def Ac.gone(A:Ac):Ac:=if A.up then{A with X:=A.X.jt}else A
def Ac.E(A:Ac):Ac:=if A.up then{A with X:=A.X.kR}else A
namespace Wd
def rest(W:Wd):Wd:={W with pl:=W.pl.map Pl.rest,ac:=W.ac.map λA=>A.E.gone}
def idle(W:Wd):Bool:=(W.pl.all λP=> !P.up||P.q.isEmpty)&&W.ac.all λA=> !A.up||(A.X.dd.isEmpty&& !A.X.jg.mP)
def C6(W:Wd):Nat->Wd
 |0=>W
 |k+1=>(W.C6 k).round.1
end Wd
def rX{X:Cx}(h:X.dd=[]):X.kR={X with wl:=X.wb,kH:=0,mv:=Mv.zero,dd:=[]}:=by obtain⟨n,m,j,ce,y,A,lay,res,dd,D,F,kH,H,mv,L,wl⟩:=X;subst h;rfl
theorem vj(h:∀(i:Nat) (A:Ac),W.ac[i]?=some A->A.up=true->A.X.dd=[]):∀k,kT {W with ac:=W.ac.mapIdx λi A=>if i<k then A.E else A} (W.kK k)
 |0=>by
  refine⟨W.iH,?_⟩;have:(W.ac.mapIdx λi A=>if i<0 then A.E else A)=W.ac:=by
   refine bJ λi=>?_;rw[gz]
   cases W.ac[i]?<;>simp
  rw[this];rfl
 |k+1=>by
  rw[ri];have P:=vj h k;have Q:=P.mH k;refine kT.H ?_ Q;unfold Wd.mH;dsimp only;rw[gz];have H:∀f:Ac->Ac,(∀A,W.ac[k]?=some A->f A=A.E)->((W.ac.mapIdx λi A=>if i<k then A.E else A).modify k f)=W.ac.mapIdx λi A=>if i<k+1 then A.E else A:=by
   intro f L;refine bJ λi=>?_
   grind
  have M:(∀A,W.ac[k]?=some A->A.E=A)->(W.ac.mapIdx λi A=>if i<k then A.E else A)=W.ac.mapIdx λi A=>if i<k+1 then A.E else A:=by intro L;rw[<-H id λA j=>(L A j).symm];refine bJ λi=>?_;rw[bS];simp
  cases j:W.ac[k]? with
  |none=>simp only[Option.map_none];rw[M λA y=>by rw[j]at y;cases y];exact kT.refl _
  |some A=>
   simp only[bG,fQ,if_false];by_cases D:A.up=true
   .rw[aE D];have S:=h k A j D;have Y:A.X.kR.jl.length=0:=by rw[rX S];rfl
    rw[Y];refine⟨W.iH+1,?_⟩;show Wd.mM _ _ _=_;unfold Wd.mM;rw[H (λB=>{B with X:=A.X.kR}) λB F=>by rw[j]at F;cases F;unfold Ac.E;rw[aE D]]
   rw[az D,M λB F=>by rw[j]at F;cases F;unfold Ac.E;rw[az D]];exact kT.refl _
theorem wO(hp:∀(i:Nat) (P:Pl),W.pl[i]?=some P->P.up=true->P.q=[])(ha:∀(i:Nat) (A:Ac),W.ac[i]?=some A->A.up=true->A.X.iE=[]):∀k,kT {W with iq:=[],pl:=W.pl.mapIdx λi P=>if i<k then P.rest else P,ac:=W.ac.mapIdx λi A=>if i+W.pl.length<k then A.gone else A} (W.M k)
 |0=>by
  refine⟨W.iH,?_⟩;have L:(W.pl.mapIdx λi P=>if i<0 then P.rest else P)=W.pl:=by
   refine bJ λi=>?_;rw[gz]
   cases W.pl[i]?<;>simp
  have M:(W.ac.mapIdx λi A=>if i+W.pl.length<0 then A.gone else A)=W.ac:=by
   refine bJ λi=>?_;rw[gz]
   cases W.ac[i]?<;>simp
  rw[L,M];rfl
 |k+1=>by
  rw[pf];refine kT.H ?_ ((wO hp ha k).kE k);unfold Wd.kE;dsimp only;rw[dJ];by_cases S:k<W.pl.length
  .rw[aE S,gz];have M:(W.ac.mapIdx λi A=>if i+W.pl.length<k+1 then A.gone else A)=W.ac.mapIdx λi A=>if i+W.pl.length<k then A.gone else A:=by refine bJ λi=>?_;rw[gz,gz];simp only[show¬i+W.pl.length<k+1 by omega,show¬i+W.pl.length<k by omega,if_false]
   obtain⟨P,hP⟩:=m9 S;have Y:W.pl[k]=P:=(aj.1 hP).2;rw[hP];simp only[bG,fQ,if_false];have L:∀Q,Q=P.rest->(W.pl.mapIdx λi P=>if i<k then P.rest else P).set k Q=W.pl.mapIdx λi P=>if i<k+1 then P.rest else P:=by
    intro Q hQ;refine bJ λi=>?_;rw[List.getElem?_set,gz,gz,dJ];by_cases e:k=i
    .subst e;simp[S,hQ,Y]
    cases F:W.pl[i]? with
    |none=>simp[e]
    |some R=>
     by_cases D:i<k
     .simp[e,D,Nat.lt_succ_of_lt D]
     simp[e,D,show¬i<k+1 by omega]
   by_cases y:P.up=true
   .rw[aE y,L P.jt (by unfold Pl.rest;rw[aE y]),hp k P hP y,M];exact⟨_,rfl⟩
   rw[az y];have Z:=L P (by unfold Pl.rest;rw[az y]);have e4:(W.pl.mapIdx λi P=>if i<k then P.rest else P).set k P=W.pl.mapIdx λi P=>if i<k then P.rest else P:=by
    refine bJ λi=>?_;rw[List.getElem?_set,gz,dJ];by_cases e:k=i
    .subst e;simp[S,Y]
    simp[e]
   rw[M,<-Z,e4];exact kT.refl _
  rw[az S];have L:(W.pl.mapIdx λi P=>if i<k+1 then P.rest else P)=W.pl.mapIdx λi P=>if i<k then P.rest else P:=by
   refine bJ λi=>?_;rw[gz,gz]
   cases F:W.pl[i]? with
   |none=>rfl
   |some R=>have:=(aj.1 F).1;simp only[bG,show i<k+1 by omega,show i<k by omega,if_true]
  obtain⟨j,rfl⟩:∃j,k=j+W.pl.length:=⟨k-W.pl.length,C⟩;rw[Nat.add_sub_cancel,gz];have M:∀B,(∀A,W.ac[j]?=some A->B=A.gone)->(W.ac.mapIdx λi A=>if i+W.pl.length<j+W.pl.length then A.gone else A).set j B=W.ac.mapIdx λi A=>if i+W.pl.length<j+W.pl.length+1 then A.gone else A:=by
   intro B H;refine bJ λi=>?_;rw[List.getElem?_set,gz,gz,dJ]
   cases F:W.ac[i]? with
   |none=>
    have:=List.getElem?_eq_none_iff.1 F;by_cases e:j=i
    .subst e;simp;omega
    simp[e]
   |some R=>
    have a0:=(aj.1 F).1;by_cases e:j=i
    .subst e;simp[a0,H R F]
    by_cases D:i<j
    .simp[e,D,show i+W.pl.length<j+W.pl.length+1 by omega]
    simp[e,D,show¬i+W.pl.length<j+W.pl.length+1 by omega]
  have Z:(∀A,W.ac[j]?=some A->A.gone=A)->(W.ac.mapIdx λi A=>if i+W.pl.length<j+W.pl.length+1 then A.gone else A)=W.ac.mapIdx λi A=>if i+W.pl.length<j+W.pl.length then A.gone else A:=by
   intro hf;refine bJ λi=>?_;rw[gz,gz]
   cases F:W.ac[i]? with
   |none=>rfl
   |some R=>
    by_cases e:i=j
    .subst e;simp[hf R F]
    by_cases D:i<j
    .simp[D,show i+W.pl.length<j+W.pl.length+1 by omega]
    simp[D,show¬i+W.pl.length<j+W.pl.length+1 by omega]
  rw[L]
  cases hA:W.ac[j]? with
  |none=>simp only[Option.map_none];rw[Z λA h=>by rw[hA]at h;cases h];exact kT.refl _
  |some A=>
   simp only[bG,fQ,if_false];by_cases y:A.up=true
   .rw[aE y,M _ λB H=>by rw[hA]at H;cases H;unfold Ac.gone;rw[aE y],ha j A hA y];exact⟨_,rfl⟩
   rw[az y,Z λB H=>by rw[hA]at H;cases H;unfold Ac.gone;rw[az y]];exact kT.refl _
theorem QF(h:W.idle=true)(i:Nat)(P:Pl)(j:W.pl[i]?=some P)(y:P.up=true):P.q=[]:=by
 unfold Wd.idle at h
 grind
theorem CR(h:W.idle=true)(i:Nat)(A:Ac)(j:W.ac[i]?=some A)(y:A.up=true):A.X.dd=[]/\A.X.jg.mP=false:=by
 unfold Wd.idle at h
 grind
def JC{X:Cx}(h:X.dd=[])(j:X.jg.mP=false):X.kR.iE=[]:=by rw[rX h];unfold Cx.iE;simp[Qn.iE,j,Mv.zero,Qn.zero]
theorem ug{α:Type}(l:List α)(f:α->α)(c:Nat->Prop)[DecidablePred c](j:∀i,i<l.length->c i):(l.mapIdx λi a=>if c i then f a else a)=l.map f:=by
 refine bJ λi=>?_
 grind
def kT.rest(h:kT W W'):kT W.rest W'.rest:=by obtain⟨a,rfl⟩:=h;exact⟨_,rfl⟩
def kT.idle(h:kT W W'):W'.idle=W.idle:=by obtain⟨a,rfl⟩:=h;rfl
theorem um(h:W.idle=true):W.round.2=true/\kT W.rest W.round.1:=by
 have hp:=QF h;have ha:=CR h;have M:=vj (λi A H D=>(ha i A H D).1) W.ac.length;rw[ug W.ac Ac.E (λi=>i<W.ac.length) λi Q=>Q]at M;obtain⟨W1,j⟩:=dS ({W with ac:=W.ac.map Ac.E}:Wd);rw[j]at M;have L:=wO (W:=W1) (λi P Y D=>hp i P (by rwa[<-j]at Y) D) (λi A H D=>by
  rw[<-j]at H
  have F:(W.ac.map Ac.E)[i]?=some A:=H
  rw[aK]at F
  obtain⟨B,Z,rfl⟩:=bN.1 F
  have y:B.up=true:=by
   unfold Ac.E at D
   grind
  unfold Ac.E
  rw[aE y]
  exact JC (ha i B Z y).1 (ha i B Z y).2) (W1.pl.length+W1.ac.length)
 rw[ug W1.pl Pl.rest _ λi Q=>C,ug W1.ac Ac.gone _ λi Q=>C,<-xX]at L;have hx:W1.lJ 300=(W1.step,true):=by show W1.lJ (299+1)=_;unfold Wd.lJ;rw[aE (by rw[L.iq];rfl)]
 have S:=kT.lJ 300 M;rw[hx]at S;refine⟨S.2,kT.H ?_ S.1⟩;unfold Wd.step;rw[L.iq];obtain⟨a,e⟩:=L;refine⟨a,?_⟩;rw[e];subst j;unfold Wd.rest;simp only[br];rfl
theorem PX(P:Pl):P.rest.rest=P.rest:=by
 unfold Pl.rest;by_cases h:P.up=true
 .rw[aE h,aE (show P.jt.up=true from h)];obtain⟨j,q,y,A⟩:=P
  cases j<;>rfl
 grind
def Ka{X:Cx}(h:X.dd=[]):X.kR.jt.kR.jt=X.kR.jt:=by
 have j:X.kR.jt.dd=[]:=by rw[rX h];rfl
 rw[rX h];rfl
theorem Qp{A:Ac}(h:A.up=true->A.X.dd=[]):A.E.gone.E.gone=A.E.gone:=by
 obtain⟨X,j⟩:=A
 cases j with
 |false=>rfl
 |true=>show(⟨X.kR.jt.kR.jt,true⟩:Ac)=⟨X.kR.jt,true⟩;rw[Ka (h rfl)]
def Kq(h:W.idle=true):W.rest.rest=W.rest:=by
 have j:(W.pl.map Pl.rest).map Pl.rest=W.pl.map Pl.rest:=by rw[br];exact bf λP _=>PX P
 have y:(W.ac.map λA=>A.E.gone).map (λA=>A.E.gone)=W.ac.map λA=>A.E.gone:=by rw[br];refine bf λA D=>?_;obtain⟨i,F⟩:=List.mem_iff_getElem?.1 D;exact Qp λH=>((CR h) i A F H).1
 show({W with pl:=(W.pl.map Pl.rest).map Pl.rest,ac:=(W.ac.map λA=>A.E.gone).map λA=>A.E.gone}:Wd)=_;rw[j,y];rfl
theorem KU(h:W.idle=true):W.rest.idle=true:=by
 refine bL _ _▸⟨List.all_eq_true.2 λP j=>?_,List.all_eq_true.2 λA y=>?_⟩
 .obtain⟨Q,L,rfl⟩:=aD.1 (show P∈W.pl.map Pl.rest from j);unfold Pl.rest;split
  .simp[Pl.jt]
  grind
 obtain⟨B,D,rfl⟩:=aD.1 (show A∈W.ac.map λA=>A.E.gone from y);obtain⟨i,F⟩:=List.mem_iff_getElem?.1 D;obtain⟨X,H⟩:=B
 cases H with
 |false=>rfl
 |true=>have:=((CR h) i _ F rfl).1;obtain⟨n,m,M,ce,S,Y,lay,res,Z,iu,jg,kH,jB,mv,wb,wl⟩:=X;subst this;rfl
theorem Fb (h:W.idle=true):∀r,(∀k,k≤r→(W.C6 k).round.2=true)∧kT W.rest (W.C6 (r+1))
 |0=>⟨fun k hk=>(by obtain rfl:k=0:=(by omega);exact(um h).1),(um h).2⟩
 |r+1=>by
  obtain⟨h1,h2⟩:=Fb h r
  have hi:(W.C6 (r+1)).idle=true:=by rw[h2.idle];exact KU h
  obtain⟨h3,h4⟩:=um hi
  refine⟨fun k hk=> ?_, ?_⟩
  ·grind
  ·have:=h2.rest
   rw[Kq h] at this
   exact this.H h4
theorem wj(W:Wd):∀k,W.C6 (k+1)=(W.round.1).C6 k
 |0=>rfl
 |k+1=>by show(W.C6 (k+1)).round.1=((W.round.1).C6 k).round.1;rw[wj W k]
def Wd.RL(W:Wd):Nat->Option Wd
 |0=>none
 |k+1=>if W.idle then .some W.rest else if W.round.2 then W.round.1.RL k else none
theorem Fg:∀(f:Nat) {W W2:Wd},W.RL f=some W2->∀r,f<=r->(∀k,k<r->(W.C6 k).round.2=true)/\kT W2 (W.C6 r)
 |0,_,_,h,_,_=>by cases h
 |f+1,W,W2,h,r,F=>by
  obtain⟨r,rfl⟩:∃q,r=q+1:=⟨r-1,C⟩;unfold Wd.RL at h;by_cases j:W.idle=true
  .rw[aE j]at h
   cases h;obtain⟨H,y⟩:=Fb j r
   grind
  rw[az j]at h;by_cases y:W.round.2=true
  .rw[aE y]at h;obtain⟨A,D⟩:=Fg f h r C;refine⟨λk L=>?_,by rw[wj];exact D⟩
   cases k with
   |zero=>exact y
   |succ k=>rw[wj];exact A k C
  grind
theorem kT.C6(h:kT W W'):∀k,kT (W.C6 k) (W'.C6 k)
 |0=>h
 |k+1=>((kT.C6 h k).round).1
def U9(h:kT W W')(ha:W.RL 80=some W2):(∀k,k<80->(W'.C6 k).round.2=true)/\kT W2 (W'.C6 80):=by obtain⟨j,y⟩:=Fg 80 ha 80 jc;exact⟨λk A=>by rw[((h.C6 k).round).2];exact j k A,y.H (h.C6 80)⟩
def Wd.F(W:Wd)(ls:List Le)(id:Int):List Le:=ls.filter λl=>l.tt==id&& !W.jL l.fr l.tt
def Pl.E(n m v ce:Nat)(P:Pl)(ls:List Le):Pl:=ls.foldl (λP l=>P.recv n m v ce l.fr l.pk) P
def Cx.E(X:Cx)(ls:List Le):Cx:=ls.foldl (λX l=>X.recv l.fr l.pk) X
def Pl.B(n m v ce:Nat)(P:Pl)(ls:List Le):Pl:=if P.up then P.E n m v ce ls else P
def Ac.B(A:Ac)(ls:List Le):Ac:=if A.up then{A with X:=A.X.E ls}else A
theorem OX(n m v ce:Nat)(P:Pl)(fr:Int)(p:Pk):(P.recv n m v ce fr p).up=P.up/\(P.recv n m v ce fr p).qk=P.qk:=by
 unfold Pl.recv
 grind
def EX(W:Wd)(l:Le):(W.mO l).jL=W.jL:=by have h:=(pM W l).1;unfold Wd.jL;rw[h.ms,h.ac]
theorem Qt(W:Wd)(l:Le)(j:Nat):(W.mO l).pl[j]?=(W.pl[j]?).map λ(P:Pl)=>P.B W.n W.m W.v W.ce (W.F [l] (jZ W.n W.m j)):=by
 unfold Wd.mO Wd.F;by_cases y:W.jL l.fr l.tt=true
 .rw[aE y];have:([l].filter λl=>l.tt==jZ W.n W.m j&& !W.jL l.fr l.tt)=[]:=mY y;rw[this]
  cases W.pl[j]? with
  |none=>rfl
  |some P=>simp[Pl.B,Pl.E]
 rw[az y];show(W.pY l W.pl.length)[j]?=_;rw[oE]
 cases D:W.pl[j]? with
 |none=>rfl
 |some P=>
  simp only[((aj.1 D).1)];by_cases e:l.tt=jZ W.n W.m j
  .by_cases F:P.up=true
   .have A:W.jL l.fr (jZ W.n W.m j)=false:=by rw[<-e];simpa using y
    simp[e,A,Pl.B,Pl.E]
   simp[F,Pl.B]
  have H:¬jZ W.n W.m j=l.tt:=λh=>e h.symm;simp[e,H,Pl.B,Pl.E]
theorem PA(W:Wd)(l:Le)(i:Nat):(W.mO l).ac[i]?=(W.ac[i]?).map λ(A:Ac)=>A.B (W.F [l] (iM i)):=by
 unfold Wd.mO Wd.F;by_cases j:W.jL l.fr l.tt=true
 .rw[aE j];have:([l].filter λl=>l.tt==iM i&& !W.jL l.fr l.tt)=[]:=mY j;rw[this]
  cases W.ac[i]? with
  |none=>rfl
  |some A=>simp[Ac.B,Cx.E]
 rw[az j];show(W.rF l W.ac.length)[i]?=_;rw[ot]
 cases D:W.ac[i]? with
 |none=>rfl
 |some A=>
  simp only[((aj.1 D).1)];by_cases e:l.tt=iM i
  .by_cases F:A.up=true
   .have y:W.jL l.fr (iM i)=false:=by rw[<-e];simpa using j
    simp[e,y,Ac.B,Cx.E]
   simp[F,Ac.B]
  have H:¬iM i=l.tt:=λh=>e h.symm;simp[e,H,Ac.B,Cx.E]
theorem AP(W:Wd)(l:Le)(j:List Le)(id:Int):W.F (l::j) id=W.F [l] id++W.F j id:=by
 unfold Wd.F
 grind
theorem zF(n m v ce:Nat):∀(j:List Le) (P:Pl),(P.E n m v ce j).up=P.up
 |[],_=>rfl
 |l::j,P=>(zF n m v ce j _).H (OX n m v ce P l.fr l.pk).1
def U1(n m v ce:Nat)(P:Pl)(j:List Le):(P.B n m v ce j).up=P.up:=by
 unfold Pl.B;split
 .exact zF n m v ce j P
 rfl
theorem JF(n m v ce:Nat)(P:Pl)(a b:List Le):P.B n m v ce (a++b)=(P.B n m v ce a).B n m v ce b:=by
 unfold Pl.B;by_cases j:P.up=true
 .rw[aE j,aE j,aE (by rw[zF];exact j)];unfold Pl.E
  grind
 grind
theorem J3(A:Ac)(a b:List Le):A.B (a++b)=(A.B a).B b:=by
 unfold Ac.B;by_cases j:A.up=true
 .unfold Cx.E
  grind
 grind
theorem Az:∀(y:List Le) (W:Wd),(∀j:Nat,(W.kW y).pl[j]?=(W.pl[j]?).map λ(P:Pl)=>P.B W.n W.m W.v W.ce (W.F y (jZ W.n W.m j)))/\∀i:Nat,(W.kW y).ac[i]?=(W.ac[i]?).map λ(A:Ac)=>A.B (W.F y (iM i))
 |[],W=>by
  refine⟨λj=>?_,λi=>?_⟩
  .show W.pl[j]?=_
   cases W.pl[j]? with
   |none=>rfl
   |some P=>simp[Wd.F,Pl.B,Pl.E]
  show W.ac[i]?=_
  cases W.ac[i]? with
  |none=>rfl
  |some P=>simp[Wd.F,Ac.B,Cx.E]
 |l::y,W=>by
  obtain⟨L,M⟩:=Az y _;have D:=(pM W l).1;have H:∀id,(W.mO l).F y id=W.F y id:=λid=>by unfold Wd.F;rw[EX]
  refine⟨λj=>?_,λi=>?_⟩
  .show((W.mO l).kW y).pl[j]?=_;rw[L j,Qt,D.n,D.m,D.v,D.ce,H,Option.map_map];congr 1;funext P;rw[AP W l y,JF];rfl
  show((W.mO l).kW y).ac[i]?=_;rw[M i,PA,H,Option.map_map];congr 1;funext P;rw[AP W l y,J3];rfl
def Wd.Dv(W:Wd)(i:Nat):List Le:=match W.pl[i]? with
 |none=>[]
 |some P=>if P.up then P.q.map λe=>⟨jZ W.n W.m i,e.cl,e.pk⟩else []
def Wd.xB(W:Wd)(i:Nat):List Le:=match W.ac[i]? with
 |none=>[]
 |some A=>if A.up then A.X.iE.map λz=>⟨iM i,z.1,.req z.2⟩else []
def Wd.uy(W:Wd):List Le:=(List.range W.pl.length).flatMap W.Dv
def Wd.nK(W:Wd):List Le:=(List.range W.ac.length).flatMap W.xB
theorem zl(W:Wd):∀k,(∀j:Nat,(W.M k).pl[j]?=(W.pl[j]?).map λ(P:Pl)=>if j<k then P.rest else P)/\(∀i:Nat,(W.M k).ac[i]?=(W.ac[i]?).map λ(A:Ac)=>if i+W.pl.length<k then A.gone else A)/\(W.M k).iq=(List.range (min k W.pl.length)).flatMap W.Dv++(List.range (k-W.pl.length)).flatMap W.xB/\nW W (W.M k)/\(W.M k).bx=W.bx/\(W.M k).a=W.a
 |0=>by
  refine⟨λj=>?_,λi=>?_,by simp[Wd.M],⟨rfl,rfl,rfl,rfl,rfl,rfl,rfl,rfl,rfl,jc,iI⟩,rfl,rfl⟩
  .show W.pl[j]?=_
   cases W.pl[j]?<;>simp
  show W.ac[i]?=_
  cases W.ac[i]?<;>simp
 |k+1=>by
  obtain⟨h1,h2,H,S,h5,h6⟩:=zl W k;rw[pf];obtain⟨V,hV⟩:=dS (W.M k);rw[hV]at h1 h2 H S h5 h6|-;obtain⟨s1,s2,s3⟩:=yD V k;have Y:=S.pl;have a0:(V.kE k).bx=V.bx:=by unfold Wd.kE;(repeat' split)<;>rfl
  refine⟨λj=>?_,λi=>?_,?_,S.H s1,a0.H h5,s3.H h6⟩
  .have M:(V.kE k).pl[j]?=(V.pl[j]?).map λ(P:Pl)=>if j=k then P.rest else P:=by
    unfold Wd.kE;by_cases F:k<V.pl.length
    .rw[aE F];obtain⟨P,hP⟩:=m9 F;rw[hP];dsimp only;by_cases y:P.up=true
     .rw[aE y];show(V.pl.set k P.jt)[j]?=_;by_cases e:k=j
      .subst e;rw[aQ F,hP];simp[Pl.rest,y]
      rw[aH e]
      cases V.pl[j]?<;>simp[Ne.symm e]
     rw[az y]
     cases hj:V.pl[j]? with
     |none=>rfl
     |some R=>
      by_cases e:j=k
      .subst e;rw[hP]at hj;cases hj;simp[Pl.rest,y]
      simp[e]
    rw[az F];have:∀Q:Wd,Q.pl=V.pl->Q.pl[j]?=(V.pl[j]?).map λ(P:Pl)=>if j=k then P.rest else P:=λQ hU=>by
     rw[hU]
     cases hj:V.pl[j]? with
     |none=>rfl
     |some R=>have:=(aj.1 hj).1;simp[show¬j=k by omega]
    split
    .exact this _ rfl
    split
    .exact this _ rfl
    exact this _ rfl
   rw[M,h1 j,Option.map_map];congr 1;funext P;simp only[Function.comp];by_cases e:j=k
   .subst e;simp
   by_cases L:j<k
   .simp[e,L,Nat.lt_succ_of_lt L]
   simp[e,L,show¬j<k+1 by omega]
  .have M:(V.kE k).ac[i]?=(V.ac[i]?).map λ(A:Ac)=>if i+V.pl.length=k then A.gone else A:=by
    unfold Wd.kE;have fu:∀Q:Wd,Q.ac=V.ac->¬i+V.pl.length=k->Q.ac[i]?=(V.ac[i]?).map λ(A:Ac)=>if i+V.pl.length=k then A.gone else A:=λQ hU hn=>by
     rw[hU]
     cases V.ac[i]?<;>simp[hn]
    by_cases F:k<V.pl.length
    .rw[aE F];split
     .exact fu _ rfl C
     split
     .exact fu _ rfl C
     exact fu _ rfl C
    rw[az F];by_cases e:i+V.pl.length=k
    .have L:k-V.pl.length=i:=C;rw[L]
     cases Z:V.ac[i]? with
     |none=>simpa using Z
     |some A=>
      have hl:=(aj.1 Z).1;dsimp only;by_cases y:A.up=true
      .rw[aE y];show(V.ac.set i _)[i]?=_;rw[aQ hl];simp[e,Ac.gone,y]
      rw[az y,Z];simp[e,Ac.gone,y]
    have hf:=fu V rfl e;simp only[e,if_false]at hf|-;split
    .exact hf
    rename_i A Z;split
    .show(V.ac.set _ _)[i]?=_;rw[aH C];exact hf
    exact hf
   rw[M,h2 i,Option.map_map,Y];congr 1;funext P;simp only[Function.comp];by_cases e:i+W.pl.length=k
   .rw[aE e,az C,aE C]
   by_cases L:i+W.pl.length<k
   .rw[az e,aE L,aE C]
   rw[az e,az L,az C]
  unfold Wd.kE;by_cases F:k<V.pl.length
  .rw[aE F,show min (k+1) W.pl.length=k+1 by omega,dp,eZ,show k+1-W.pl.length=0 by omega];rw[show min k W.pl.length=k by omega,show k-W.pl.length=0 by omega]at H;simp only[List.range_zero,List.flatMap_nil,cF]at H|-;have D:=h1 k;simp only[fQ,if_false,Option.map_id']at D;simp only[dP,List.flatMap_nil,cF];unfold Wd.Dv at H|-;rw[D]
   cases hP:W.pl[k]? with
   |none=>simp[H]
   |some P=>
    dsimp only;by_cases y:P.up=true
    .rw[aE y,aE y,<-H,S.n,S.m]
    rw[az y,az y,cF];exact H
  rw[az F,show min (k+1) W.pl.length=W.pl.length by omega,show k+1-W.pl.length=(k-W.pl.length)+1 by omega,dp,eZ];rw[show min k W.pl.length=W.pl.length by omega]at H;simp only[dP,List.flatMap_nil,cF];rw[<-eJ,<-H,Y];have D:=h2 (k-W.pl.length);rw[show k-W.pl.length+W.pl.length=k by omega]at D;simp only[fQ,if_false,Option.map_id']at D;unfold Wd.xB;rw[D]
  cases Z:W.ac[k-W.pl.length]? with
  |none=>simp
  |some A=>
   dsimp only;by_cases y:A.up=true
   .rw[aE y,aE y]
   rw[az y,az y,cF]
theorem qT(W:Wd):(∀j:Nat,W.iE.pl[j]?=(W.pl[j]?).map Pl.rest)/\(∀i:Nat,W.iE.ac[i]?=(W.ac[i]?).map Ac.gone)/\W.iE.iq=W.uy++W.nK/\nW W W.iE/\W.iE.bx=W.bx/\W.iE.a=W.a:=by
 obtain⟨D,F,y,A⟩:=zl W _;rw[xX];refine⟨λj=>?_,λi=>?_,?_,A⟩
 .grind
 .grind
 rw[y,show min (W.pl.length+W.ac.length) W.pl.length=W.pl.length by omega,show W.pl.length+W.ac.length-W.pl.length=W.ac.length by omega];rfl
theorem Db(W:Wd):(∀j:Nat,W.step.pl[j]?=(W.pl[j]?).map λ(P:Pl)=>P.rest.B W.n W.m W.v W.ce (W.F (W.uy++W.nK) (jZ W.n W.m j)))/\(∀i:Nat,W.step.ac[i]?=(W.ac[i]?).map λ(A:Ac)=>A.gone.B (W.F (W.uy++W.nK) (iM i))):=by
 obtain⟨D,Q,H,y,_⟩:=qT W;unfold Wd.step;obtain⟨L,S⟩:=Az W.iE.iq _;have M:∀id,({W.iE with iq:=W.iq}:Wd).F W.iE.iq id=W.F _ id:=λid=>by unfold Wd.F Wd.jL;rw[H,y.ms,y.ac]
 refine⟨λj=>?_,λi=>?_⟩
 .rw[L j,M];rw[D j,Option.map_map,y.n,y.m,y.v,y.ce];rfl
 grind
def R8(c:jf):Prop:=c.q.nodes≠[]->c.q.a.ln=c.im
structure kO(X:Cx):Prop where
 c:∀c∈X.dd,R8 c
 p:X.jg.nodes≠[]->X.jg.a.ln=8
 s:X.mv.b.nodes≠[]->X.mv.b.a.ln=9
 v:X.mv.a.nodes≠[]->X.mv.a.a.ln=9
section
variable{X:Cx}{c:jf}
def kO.put(h:kO X)(A:R8 c):kO (X.put c):=⟨λd j=>by
 obtain⟨e,y,rfl⟩:=aD.1 (show d∈X.dd.map λd=>if d.gH=c.gH then c else d from j)
 split
 .omega
 .exact h.c e y,h.p,h.s,h.v⟩
def kO.qF(h:kO X)(j:List Int)(y A:Int)(t:Ct):kO (X.qF c j y A t):=
 kO.put ⟨h.c,h.p,h.s,h.v⟩ λ_=>rfl
def kO.fin(h:kO X)(r:Rz):kO (X.fin c r):=⟨λd j=>h.c d (aU.1 (show d∈X.dd.filter λd=>d.gH !=c.gH from j)).1,h.p,h.s,h.v⟩
def kO.jO(h:kO X):kO (X.jO c):=by
 unfold Cx.jO;repeat' split
 .exact h.qF ..
 all_goals exact h.fin _
def kO.ld(h:kO X)(j:R8 c)(A:An):kO (X.ld c A):=by
 have y:∀c:jf,R8 {c with q:=Qn.zero}:=λ_ e=>absurd rfl e;unfold Cx.ld Cx.lj Cx.mN Cx.oe Cx.kU;repeat' split
 all_goals first|exact h.qF .. |exact h.fin _|exact h.jO|exact h.put j|exact h.put (y c)
def kO.dO(h:kO X):kO (X.dO c):=by
 unfold Cx.dO;repeat' split
 all_goals first|exact h.qF .. |exact h
def kO.lT(h:kO X):kO (X.lT c):=by
 unfold Cx.lT Cx.kF;repeat' split
 all_goals first|exact h.fin _|exact h|exact h.dO
theorem kO.D7:∀(l:List jf) {X:Cx},kO X->kO (l.foldl Cx.lT X)
 |[],_,h=>h
 |_::l,_,h=>kO.D7 l h.lT
def kO.kD(h:kO X)(j y:Int)(val:List Int):kO (X.kD j y val):=⟨h.c,h.p,h.s,λ_=>rfl⟩
def kO.jn(h:kO X):kO X.jn:=by refine kO.kD ?_ _ _ _;exact⟨h.c,h.p,λe=>absurd rfl e,λe=>absurd rfl e⟩
def kO.iz(h:kO X)(e:Int):kO (X.iz e):=by
 unfold Cx.iz;repeat' split
 .omega
 .exact kO.jn ⟨h.c,h.p,h.s,h.v⟩
 exact⟨h.c,h.p,h.s,h.v⟩
def kO.kL(h:kO X):kO X.kL:=by
 unfold Cx.kL;split
 .omega
 refine kO.kD ?_ _ _ _;exact⟨h.c,h.p,h.s,h.v⟩
def kO.kC(h:kO X):kO X.kC:=by
 unfold Cx.kC;split
 .exact⟨h.c,h.p,h.s,h.v⟩
 refine kO.kL ?_;split
 .exact⟨h.c,h.p,h.s,h.v⟩
 exact⟨h.c,h.p,λ_=>rfl,h.v⟩
def kO.nL(h:kO X)(v:List Int):kO (X.nL v):=by
 unfold Cx.nL;split
 .exact⟨h.c,h.p,λe=>absurd rfl e,λe=>absurd rfl e⟩
 dsimp only;rename_i l _;have:=kO.D7 X.dd (X:={X with c:=X.mv.c,lay:=l,mv:=Mv.zero,wb:=false,wl:=false}) ⟨h.c,h.p,λe=>absurd rfl e,λe=>absurd rfl e⟩;split
 .exact this.jn
 omega
def kO.ko(h:kO X):kO X.ko:=by
 unfold Cx.ko;dsimp only;split
 .omega
 refine kO.kD ?_ _ _ _;exact⟨h.c,h.p,h.s,h.v⟩
def kO.lU(h:kO X):kO X.lU:=by
 unfold Cx.lU;split
 .exact h.nL _
 omega
def kO.lF(h:kO X):kO X.lF:=by
 unfold Cx.lF;dsimp only;repeat' split
 all_goals first|exact h.nL _|exact h.kC|exact h
def kO.lE(h:kO X):kO X.lE:=by
 unfold Cx.lE;repeat' split
 all_goals first|exact h.kL|exact h.ko|exact h
def kO.pT(h:kO X)(fr D j:Int)(v:Vo):kO (X.pT fr D j v):=by
 unfold Cx.pT;split
 .dsimp only;have y:=h.iz j;split
  .have A:∀B,kO {X.iz j with mv:={(X.iz j).mv with a:=(X.iz j).mv.a.add fr v,E:=B}}:=λB=>⟨y.c,y.p,y.s,y.v⟩;generalize (if(X.iz j).mv.a.a.kd=7/\(X.iz j).mv.E≠[]then(X.iz j).mv.a.B++[_]else(X.iz j).mv.E)=B;repeat' split
   all_goals first|exact(A B).lF|exact(A B).ko|exact(A B).lU|exact A B
  exact y
 exact h
def kO.jA(h:kO X)(fr y:Int)(A:An):kO (X.jA fr y A):=by
 unfold Cx.jA;repeat' split
 .exact h.iz _
 .exact⟨h.c,h.p,h.s,h.v⟩
 .exact h.iz _
 .refine kO.lE ?_;exact⟨h.c,h.p,h.s,h.v⟩
 .omega
 .exact h.iz _
 rename_i c D _;have j:R8 {c with q:=c.q.add fr A}:=h.c c (bu D);exact(h.put j).ld j A
def kO.recv(h:kO X)(fr:Int)(p:Pk):kO (X.recv fr p):=by
 unfold Cx.recv;split
 .exact h.jA ..
 .exact h.pT ..
 omega
theorem kO.kR(h:kO X):kO X.kR:=by
 unfold Cx.kR;dsimp only;have j:kO {X with wl:=X.wb,kH:=0,mv:=Mv.zero,dd:=X.dd.map λ(c:jf)=>{c with q:={c.q with mP:=true}}}:=⟨λc y=>by
  obtain⟨d,A,rfl⟩:=aD.1 y
  exact h.c d A,h.p,λe=>absurd rfl e,λe=>absurd rfl e⟩
 have D:∀{Y:Cx},kO Y->kO Y.jR:=λh=>⟨h.c,λ_=>rfl,h.s,h.v⟩;repeat' split
 .exact(D j).jn
 .grind
 .exact j.jn
 omega
def kO.jt(h:kO X):kO X.jt:=⟨λc j=>by
 obtain⟨d,y,rfl⟩:=aD.1 (show c∈X.dd.map λ(c:jf)=>{c with q:=c.q.jt}from j)
 exact h.c d y,h.p,h.s,h.v⟩
def kO.iW(h:kO X)(j:R8 c):kO (X.iW c):=⟨λd hd=>by
 obtain hd|hd:=aT.1 (show d∈X.dd++[c]from hd)
 .exact h.c d hd
 .rw[cw.1 hd];exact j,h.p,h.s,h.v⟩
def kO.Z(h:kO X)(k p:Int)(v:List Int):kO (X.Z k p v):=by
 have j:∀c:jf,c.q=Qn.zero->R8 c:=λc D F=>absurd (by rw[D];rfl) F;unfold Cx.Z Cx.append Cx.yU Cx.fill Cx.rV Cx.change;dsimp only;repeat' split
 .exact h.iW (j _ rfl)
 .exact(h.iW (j _ rfl)).dO
 .exact(h.iW (j _ rfl)).dO
 .exact(h.iW (j _ rfl)).dO
 all_goals
  have y:=h.iW (c:={X.iy 5 with unit:=p}) (j _ rfl);have A:kO ((X.iW {X.iy 5 with unit:=p}).kF {X.iy 5 with unit:=p}):=by
   unfold Cx.kF;repeat' split
   all_goals first|exact y.fin _|exact y
  first|exact A.jn|exact A
def kO.jv(h:kO X)(k:Nat)(t:Int):kO (X.jv k t):=by
 unfold Cx.jv;split
 .omega
 rename_i c j;split
 .exact(h.put (c:={c with iS:=t}) (h.c c (bu j))).dO
 exact h.fin _
def kO.new(n m j ce:Nat)(y:Int):kO (Cx.new n m j ce y):=⟨λc A=>absurd A (by simp[Cx.new]),λe=>absurd rfl e,λe=>absurd rfl e,λe=>absurd rfl e⟩
end
def mJ.qF(n m v ce:Nat)(p:mJ)(r:Rq):Pk×mJ:=match p with
 | .unit ch s h=>(.rep r.nr (my n m v ce ch s r).1,.unit ch (my n m v ce ch s r).2 (h++[(my n m v ce ch s r).2]))
 | .voter s h=>(.vot r.nr (uB s r).2.lt (uB s r).1,.voter (uB s r).2 (h++[(uB s r).2]))
def mJ.J(n m v ce:Nat)(p:mJ):List (Int×Rq)->List Qe×mJ
 |[]=>([],p)
 |z::rs=>(⟨z.1,z.2.ln,z.2.nr,(p.qF n m v ce z.2).1⟩::((p.qF n m v ce z.2).2.J n m v ce rs).1,((p.qF n m v ce z.2).2.J n m v ce rs).2)
def Nw(n m v ce:Nat)(P:Pl)(fr:Int)(r:Rq):P.recv n m v ce fr (.req r)={P with part:=(P.part.qF n m v ce r).2,q:=xL P.q ⟨fr,r.ln,r.nr,(P.part.qF n m v ce r).1⟩}:=by
 obtain⟨part,q,j,y⟩:=P
 cases part<;>rfl
def QQ(z:Int×Rq):Int×Int:=(z.1,z.2.ln)
def Qe.kk(e:Qe):Int×Int:=(e.cl,e.ln)
theorem L7{q:List Qe}{a:Qe}(h:a.kk∉q.map Qe.kk):xL q a=q++[a]:=by
 unfold xL;have:q.find? (λb=>b.is a.cl a.ln)=none:=by rw[bU];intro b y j;unfold Qe.is at j;simp at j;exact h (aD.2 ⟨b,y,by unfold Qe.kk;rw[j.1,j.2]⟩)
 grind
def Qq(tt:Int)(z:Int×Rq):Le:=⟨z.1,tt,.req z.2⟩
theorem AI(n m v ce:Nat)(tt:Int):∀(rs:List (Int×Rq)) (P:Pl),(P.q.map Qe.kk++rs.map QQ).Nodup->P.E n m v ce (rs.map (Qq tt))={P with part:=(P.part.J n m v ce rs).2,q:=P.q++(P.part.J n m v ce rs).1}
 |[],P,_=>by simp[Pl.E,mJ.J]
 |z::rs,P,j=>by
  have y:=AI n m v ce tt rs (P.recv n m v ce z.1 (.req z.2));show(P.recv n m v ce z.1 (.req z.2)).E n m v ce _=_;have A:QQ z∉P.q.map Qe.kk:=λe=>by grind
  have ha:xL P.q ⟨z.1,z.2.ln,z.2.nr,(P.part.qF n m v ce z.2).1⟩=P.q++[⟨z.1,z.2.ln,z.2.nr,(P.part.qF n m v ce z.2).1⟩]:=L7 A;rw[Nw,ha]at y|-;rw[y (by simp at j|-;exact j)];simp[mJ.J]
def Wd.reqs(W:Wd)(j:Nat):List (Int×Rq):=((W.F W.nK (jZ W.n W.m j)).filterMap λl=>match l.pk with
 | .req r=>some (l.fr,r)
 |_=>none)
def Wd.tD(W:Wd):List Le:=(List.range W.pl.length).flatMap λj=>match W.pl[j]? with
 |none=>[]
 |some P=>(P.part.J W.n W.m W.v W.ce (W.reqs j)).1.map λe=>⟨jZ W.n W.m j,e.cl,e.pk⟩
structure Up(W:Wd):Prop where
 p:∀P∈W.pl,P.up=true
 a:∀A∈W.ac,A.up=true
 q:∀P∈W.pl,P.q=[]
 ln:∀A∈W.ac,kO A.X
 r:∀P∈W.pl,P.part.jt=P.part
theorem AL(h:l∈W.nK):∃(i:Nat) (A:Ac) (z:Int×Rq),W.ac[i]?=some A/\A.up=true/\z∈A.X.iE/\l=⟨iM i,z.1,.req z.2⟩:=by
 obtain⟨i,_,j⟩:=eB.1 h;unfold Wd.xB at j
 grind
theorem NZ(y:Wk W)(h:l∈W.nK):l.tt<1000:=by obtain⟨i,A,z,D,_,F,rfl⟩:=AL h;have j:=(y.ac i A D).x;have L:=tE j.n1.2 j.m1.2;have M:=j.v1;rcases(j.iE).1 z F with⟨⟨_,H⟩,_⟩|⟨⟨_,H⟩,_⟩;all_goals grind
def Io(i:Nat):1000<=iM i:=by unfold iM;omega
theorem PJ(j:Wk W)(i:Nat):W.F W.nK (iM i)=[]:=by
 unfold Wd.F;rw[List.filter_eq_nil_iff];intro l y;have:=NZ j y;have:=Io i
 grind
theorem Ky(W:Wd)(j:Nat):W.F W.nK (jZ W.n W.m j)=(W.reqs j).map (Qq (jZ W.n W.m j)):=by
 unfold Wd.reqs;have H:∀y:List Le,(∀l∈y,l.tt=jZ W.n W.m j/\∃r,l.pk=.req r)->y=(y.filterMap λl=>match l.pk with
  | .req r=>some (l.fr,r)
  |_=>none).map (Qq (jZ W.n W.m j)):=λy=>by
  induction y with
  |nil=>intro _;rfl
  |cons l y L=>intro h;obtain⟨F,r,D⟩:=h l (aN ..);have:=L λx M=>h x (aX _ M);obtain⟨fr,tt,pk⟩:=l;simp only at F D;subst F D;simp only[List.filterMap_cons,bj,Qq];rw[<-this]
 refine H _ λl P=>?_;obtain⟨F,D⟩:=aU.1 P;simp only[bL,ZT]at D;obtain⟨i,A,z,_,_,_,rfl⟩:=AL F;exact⟨D.1,z.2,rfl⟩
def Wd.FT(W:Wd)(j i:Nat):List (Int×Rq):=match W.ac[i]? with
 |none=>[]
 |some A=>(A.X.iE.filter λz=>z.1==jZ W.n W.m j&& !W.jL (iM i) z.1).map λz=>(iM i,z.2)
theorem sD{α β γ:Type}(f:α->List β)(g:β->Option γ):∀l:List α,(l.flatMap f).filterMap g=l.flatMap λa=>(f a).filterMap g
 |[]=>rfl
 |a::l=>by rw[dP,dP,List.filterMap_append,sD f g l]
theorem wS{α β:Type}(f:α->List β)(g:β->Bool):∀l:List α,(l.flatMap f).filter g=l.flatMap λa=>(f a).filter g
 |[]=>rfl
 |a::l=>by rw[dP,dP,cz,wS f g l]
theorem rG{α β:Type}{f g:α->List β}{l:List α}(h:∀a∈l,f a=g a):l.flatMap f=l.flatMap g:=by
 induction l with
 |nil=>rfl
 |cons a l j=>rw[dP,dP,h a (aN ..),j λb y=>h b (aX _ y)]
theorem Cp(D:∀A∈W.ac,A.up=true)(j:Nat):W.reqs j=(List.range W.ac.length).flatMap (W.FT j):=by
 unfold Wd.reqs Wd.F Wd.nK;rw[wS,sD];refine rG λi L=>?_;unfold Wd.xB Wd.FT
 cases F:W.ac[i]? with
 |none=>rfl
 |some A=>
  dsimp only;rw[aE (D A (aR F)),dZ,List.filterMap_map];generalize y:A.X.iE.filter (λz=>z.1==jZ W.n W.m j&& !W.jL _ z.1)=l;have:A.X.iE.filter ((λl:Le=>l.tt==jZ W.n W.m j&& !W.jL l.fr l.tt)∘λz=>(⟨iM i,z.1,.req z.2⟩:Le))=l:=by rw[<-y];rfl
  rw[this];clear y this;induction l with
  |nil=>rfl
  |cons z l H=>simp;rw[<-H]
theorem yA{α:Type}{q:Qn α}(A:q.nodes.Nodup)(j:Int):(q.iE.filter λz=>z.1==j)=[]\/((q.iE.filter λz=>z.1==j)=[(j,q.a)]/\j∈q.nodes/\q.mP=true):=by
 unfold Qn.iE;split
 .rw[dZ,List.filter_filter];have y:∀l:List Int,l.Nodup->l.filter (λa=>((λz:Int×Rq=>z.1==j)∘λj=>(j,q.a)) a&& !q.M a)=[]\/(l.filter (λa=>((λz:Int×Rq=>z.1==j)∘λj=>(j,q.a)) a&& !q.M a)=[j]/\j∈l):=λl=>by
   induction l with
   |nil=>intro _;exact .inl rfl
   |cons x l D=>grind
  grind
 simp
theorem Rj{b:Bd}{X:Cx}(j:Xk b X)(D:kO X)(y:Int):((X.iE.filter λz=>z.1==y).map λz=>z.2.ln).Nodup:=by
 have h9:(X.n:Int)*X.m<=9:=by exact_mod_cast tE j.n1.2 j.m1.2
 have F:∀{α:Type} {q:Qn α} (L:Int),q.nodes.Nodup->(q.nodes≠[]->q.a.ln=L)->((q.iE.filter λz=>z.1==y).map λz=>z.2.ln).Sublist [L]:=fun{α} {q} L H P=>by
  obtain h|⟨h,Q,_⟩:=yA H y
  .rw[h];exact fp _
  rw[h];show [q.a.ln].Sublist [L];rw[P (bM Q)];exact dy _
 have Z:∀l:List jf,(∀c∈l,c.q.nodes.Nodup/\R8 c)->(((l.flatMap λc=>c.q.iE).filter λz=>z.1==y).map λz=>z.2.ln).Sublist (l.map λc=>(c.im:Int)):=λl=>by
  induction l with
  |nil=>intro _;exact fp _
  |cons c l ih=>intro h;have H:=h c (aN ..);rw[dP,cz,aZ,bj];exact(F (c.im:Int) H.1 H.2).append (ih λd hd=>h d (aX _ hd))
 have hp:=Z X.dd λc M=>⟨(j.a c M).q.nd,D.c c M⟩;have P:=F 8 j.pr.nd D.p;have h3:=F 9 j.sl.nd D.s;have h4:=F 9 j.vt.nd D.v;unfold Cx.iE;rw[cz,cz,cz,aZ,aZ,aZ];have S:((X.mv.b.iE.filter λz=>z.1==y).map λz=>z.2.ln)=[]\/((X.mv.a.iE.filter λz=>z.1==y).map λz=>z.2.ln)=[]:=by
  obtain h|⟨_,Q,_⟩:=yA j.sl.nd y
  .left;rw[h];rfl
  obtain h|⟨_,Y,_⟩:=yA j.vt.nd y
  .right;rw[h];rfl
  have:=(j.sl.id y Q).2;have:=(j.vt.id y Y).1;omega
 have hs:(((X.mv.b.iE.filter λz=>z.1==y).map λz=>z.2.ln)++((X.mv.a.iE.filter λz=>z.1==y).map λz=>z.2.ln)).Sublist [9]:=by
  obtain e|e:=S
  .rw[e];exact h4
  rw[e,cF];exact h3
 have A:=((hp.append P).append hs);rw[eJ (_++_)];refine List.Nodup.sublist A ?_;rw[eJ,cX];refine⟨?_,au,λa ha b hb=>?_⟩
 .unfold List.Nodup;rw[cj];exact j.pd.im.imp λh e=>h C
 obtain⟨c,M,rfl⟩:=aD.1 ha;have:=j.pd.a c M;simp at hb;omega
theorem GM{α β:Type}{f:α->List β}:∀{l:List α},(∀a∈l,(f a).Nodup)->l.Pairwise (λa b=>∀x∈f a,∀y∈f b,x≠y)->(l.flatMap f).Nodup
 |[],_,_=>fH
 |a::l,h,j=>by
  obtain⟨A,D⟩:=cI.1 j
  grind
def Ld(Y:Wk W)(Q:Up W)(j:Nat):((W.reqs j).map QQ).Nodup:=by
 rw[Cp Q.a,List.map_flatMap];refine GM (λi _=>?_) ?_
 .unfold Wd.FT;split
  .exact fH
  rename_i A S;have L:=Rj (Y.ac i A S).x (Q.ln A (aR S)) (jZ W.n W.m j);have D:(A.X.iE.filter λz=>z.1==jZ W.n W.m j&& !W.jL (iM i) z.1).Sublist (A.X.iE.filter λz=>z.1==jZ W.n W.m j):=by
   have:(A.X.iE.filter λz=>z.1==jZ W.n W.m j&& !W.jL (iM i) z.1)=(A.X.iE.filter λz=>z.1==jZ W.n W.m j).filter λz=> !W.jL (iM i) z.1:=by rw[List.filter_filter];congr 1;funext z;exact Bool.and_comm ..
   rw[this];exact cE
  have F:=List.Nodup.sublist (D.map λz=>z.2.ln) L;rw[br];unfold List.Nodup at F|-;rw[cj]at F|-;exact F.imp λh e=>h (Z5 Prod.snd e)
 have Z:(List.range W.ac.length).Pairwise (·<·):=List.pairwise_lt_range;refine Z.imp fun{a b} a0 x P y hy e=>?_;have H:∀i,∀x∈(W.FT j i).map QQ,x.1=iM i:=λi x P=>by
  obtain⟨z,M,rfl⟩:=aD.1 P;unfold Wd.FT at M;split at M
  .simp at M
  obtain⟨y,_,rfl⟩:=aD.1 M;rfl
 have L:=H a x P;have F:=H b y hy;rw[e,F]at L;unfold iM at L;omega
def JH(X:Cx):X.jt.iE=[]:=by
 unfold Cx.iE;have j:(X.jt.dd.flatMap λc=>c.q.iE)=[]:=by rw[List.flatMap_eq_nil_iff];intro c y;obtain⟨d,_,rfl⟩:=aD.1 y;rfl
 rw[j];rfl
def Ko(X:Cx):X.jt.jt=X.jt:=by unfold Cx.jt;simp only[br];rfl
theorem Ri(j:Up W){P:Pl}(y:P∈W.pl):P.rest=P:=by
 unfold Pl.rest;unfold Pl.jt;rw[j.r P y];have:=j.q P y;obtain⟨A,q,D,F⟩:=P
 grind
def zx(j:Up W):W.uy=[]:=by
 unfold Wd.uy;rw[List.flatMap_eq_nil_iff];intro i _;unfold Wd.Dv;split
 .rfl
 rename_i P y;rw[j.q P (aR y)];simp
theorem DH(F:Wk W)(y:Up W):(∀j:Nat,W.step.pl[j]?=(W.pl[j]?).map λ(P:Pl)=>{P with part:=(P.part.J W.n W.m W.v W.ce (W.reqs j)).2,q:=(P.part.J W.n W.m W.v W.ce (W.reqs j)).1})/\∀i:Nat,W.step.ac[i]?=(W.ac[i]?).map λ(A:Ac)=>{A with X:=A.X.jt}:=by
 obtain⟨H,L⟩:=Db W;rw[zx y,dz]at H L;refine⟨λj=>?_,λi=>?_⟩
 .rw[H j]
  cases M:W.pl[j]? with
  |none=>rfl
  |some P=>have D:=aR M;simp;rw[Ri y D,Ky];unfold Pl.B;rw[aE (y.p P D),AI _ _ _ _ _ _ _ (by rw[y.q P D];exact Ld F y j),y.q P D,dz]
 rw[L i,PJ F]
 cases Q:W.ac[i]? with
 |none=>rfl
 |some A=>simp;have:=y.a A (aR Q);unfold Ac.gone Ac.B;rw[aE this,aE this];rfl
theorem zt:∀(j:List Le) (W:Wd),nW W (W.kW j)
 |[],W=>nW.refl W
 |l::j,W=>(pM W l).1.H (zt j (W.mO l))
def oh(W:Wd):nW W W.step:=by have h:=(qT W).2.2.2.1;have j:nW W ({W.iE with iq:=W.iq}:Wd):=⟨h.n,h.m,h.v,h.ce,h.pl,h.ac,h.ca,h.hd,h.ms,h.iH,h.a⟩;exact j.H (zt W.iE.iq {W.iE with iq:=W.iq})
theorem Cd(n m v ce:Nat):∀(rs:List (Int×Rq)) (p:mJ),∀e∈(p.J n m v ce rs).1,∃z∈rs,e.cl=z.1/\e.ln=z.2.ln/\e.nr=z.2.nr/\∃p',e.pk=(mJ.qF n m v ce p' z.2).1
 |[],_,e,he=>by simp[mJ.J]at he
 |z::rs,p,e,he=>by
  obtain rfl|he:=bh.1 (show e∈_::_ from he)
  .exact⟨z,aN ..,rfl,rfl,rfl,p,rfl⟩
  obtain⟨y,j,h⟩:=Cd n m v ce rs _ e he
  grind
theorem Mt(D:∀A∈W.ac,A.up=true){j:Nat}{z:Int×Rq}(y:z∈W.reqs j):∃(i:Nat) (A:Ac),W.ac[i]?=some A/\z.1=iM i/\(jZ W.n W.m j,z.2)∈A.X.iE/\W.jL (iM i) (jZ W.n W.m j)=false:=by
 rw[Cp D]at y;obtain⟨i,_,F⟩:=eB.1 y;unfold Wd.FT at F
 grind
def Lm(n m v ce:Nat):∀(rs:List (Int×Rq)) (p:mJ),(p.J n m v ce rs).2.jt.jt=(p.J n m v ce rs).2.jt:=λrs p=>by
 cases(p.J n m v ce rs).2<;>rfl
theorem OR(F:Wk W)(H:Up W):W.step.iE.iq=W.tD/\(∀j:Nat,W.step.step.pl[j]?=(W.pl[j]?).map λ(P:Pl)=>{P with part:=(P.part.J W.n W.m W.v W.ce (W.reqs j)).2.jt,q:=[]})/\∀i:Nat,W.step.step.ac[i]?=(W.ac[i]?).map λ(A:Ac)=>{A with X:=A.X.jt.E (W.F W.tD (iM i))}:=by
 obtain⟨a1,a2⟩:=DH F H;have D:=oh W;have L:W.step.nK=[]:=by
  unfold Wd.nK;rw[List.flatMap_eq_nil_iff];intro i _;unfold Wd.xB;rw[a2 i]
  cases W.ac[i]? with
  |none=>rfl
  |some A=>simp[JH]
 have M:W.step.uy=W.tD:=by
  unfold Wd.uy Wd.tD;rw[D.pl];refine rG λj _=>?_;unfold Wd.Dv;rw[a1 j,D.n,D.m]
  cases Q:W.pl[j]? with
  |none=>rfl
  |some P=>simp only[bG];rw[aE (H.p P (aR Q))]
 have S:∀id,W.step.F W.tD id=W.F W.tD id:=λid=>by unfold Wd.F Wd.jL;rw[D.ms,D.ac]
 obtain⟨Z,h2⟩:=Db W.step;rw[M,L,cF]at Z h2;refine⟨by rw[(qT W.step).2.2.1,M,L,cF],λj=>?_,λi=>?_⟩
 .rw[Z j,a1 j,S,D.n,D.m]
  cases Q:W.pl[j]? with
  |none=>rfl
  |some P=>
   have hj:=(aj.1 Q).1;have a0:W.F W.tD (jZ W.n W.m j)=[]:=by
    unfold Wd.F;rw[List.filter_eq_nil_iff];intro l Y;obtain⟨k,hk,Y⟩:=eB.1 Y;split at Y
    .simp at Y
    rename_i P Q;obtain⟨e,he,rfl⟩:=aD.1 Y;obtain⟨z,hz,Z,_⟩:=Cd _ _ _ _ _ _ e he;obtain⟨i,A,_,h2,_⟩:=Mt H.a hz;have h3:=Io i;have h9:W.n*W.m<=9:=tE F.n1.2 F.m1.2;have hv:=F.v1;simp only[bL,ZT,not_and];intro e1;exfalso;have:=F.pl;have:jZ W.n W.m j<1000:=by unfold jZ;split<;>omega
    omega
   have y:=H.p P (aR Q);simp only[bG,aJ];rw[a0];unfold Pl.rest Pl.B;rw[aE y];split<;>rfl
 rw[h2 i,a2 i,S]
 cases hA:W.ac[i]? with
 |none=>rfl
 |some A=>have y:=H.a A (aR hA);simp only[bG,aJ];unfold Ac.gone Ac.B;rw[aE y,aE y];simp only[Ko]
theorem GA(S:Wk W)(F:Up W):Up W.step.step:=by
 obtain⟨_,h1,h2⟩:=OR S F;have L:∀P∈W.step.step.pl,∃(j:Nat) (Q:Pl),Q∈W.pl/\P={Q with part:=(Q.part.J W.n W.m W.v W.ce (W.reqs j)).2.jt,q:=[]}:=λP y=>by
  obtain⟨j,Y⟩:=List.mem_iff_getElem?.1 y
  grind
 have ha:∀A∈W.step.step.ac,∃(i:Nat) (B:Ac),B∈W.ac/\A={B with X:=B.X.jt.E (W.F W.tD (iM i))}:=λP y=>by
  obtain⟨j,Y⟩:=List.mem_iff_getElem?.1 y
  grind
 refine⟨λP y=>?_,λA M=>?_,λP y=>?_,λA M=>?_,λP y=>?_⟩
 .obtain⟨j,Q,D,rfl⟩:=L P y;exact F.p Q D
 .obtain⟨j,Q,D,rfl⟩:=ha A M;exact F.a Q D
 .obtain⟨j,Q,D,rfl⟩:=L P y;rfl
 .obtain⟨j,Q,D,rfl⟩:=ha A M;have:∀(H:List Le) {X:Cx},kO X->kO (X.E H):=λH=>by
   induction H with
   |nil=>intro X h;exact h
   |cons l H Z=>intro X h;exact Z (h.recv ..)
  exact this _ (F.ln Q D).jt
 obtain⟨j,Q,D,rfl⟩:=L P y;exact Lm ..
theorem D5(y:Wk W)(j:Up W)(k:Nat):W.lJ (k+2)=if W.nK=[]then(W.step,true)else if W.tD=[]then(W.step.step,true)else W.step.step.lJ k:=by
 obtain⟨A,_,_⟩:=OR y j;have D:W.iE.iq=W.nK:=by rw[(qT W).2.2.1,zx j,dz]
 show(if W.iE.iq.length=0 then(W.step,true)else if W.step.iE.iq.length=0 then(W.step.step,true)else W.step.step.lJ k)=_
 grind
structure So (W:Wd) (X:Cx) (T:Nat→St):Prop where
 ac:W.ac=[⟨X,true⟩]
 ms:W.jU=[]
 un:∀j,j<W.n*W.m→W.pl[j]?=some ⟨.unit ((j/W.m:Nat):Int) (T j) [T j],[],true,false⟩
 vo:∀j P,W.n*W.m≤j→W.pl[j]?=some P→P.up=true∧P.q=[]∧P.part.jt=P.part
 lx:kO X
section
variable{X:Cx}
theorem So.J (h:So W X T) {P:Pl} (hP:P∈W.pl):P.up=true∧P.q=[]∧P.part.jt=P.part:=by
 obtain⟨j,hj,rfl⟩:=List.mem_iff_getElem.1 hP
 have e:W.pl[j]?=some W.pl[j]:=List.getElem?_eq_getElem hj
 by_cases hl:j<W.n*W.m
 ·rw[h.un j hl] at e
  rw[←Option.some.inj e]
  exact⟨rfl,rfl,rfl⟩
 ·exact h.vo j _ (by omega) e
theorem So.up (h:So W X T):Up W:=⟨fun P hP=>(h.J hP).1,fun A hA=>by rw[h.ac] at hA;simp at hA;rw[hA],fun P hP=>(h.J hP).2.1,fun A hA=>by rw[h.ac] at hA;simp at hA;rw[hA];exact h.lx,fun P hP=>(h.J hP).2.2⟩
theorem So.jL (h:So W X T) (a b:Int):W.jL a b=false:=by
 unfold Wd.jL
 rw[h.ms]
 simp
theorem So.reqs (h:So W X T) (j:Nat):W.reqs j=(X.iE.filter fun z=>z.1==jZ W.n W.m j).map fun z=>(iM 0,z.2):=by
 rw[Cp h.up.a,h.ac]
 simp only[List.length_singleton,List.range_one,List.flatMap_cons,List.flatMap_nil,List.append_nil]
 unfold Wd.FT
 rw[h.ac]
 simp only[List.getElem?_cons_zero]
 congr 1
 refine List.filter_congr fun z _=> ?_
 rw[h.jL]
 simp
def TP (X:Cx) (j:Nat):List (Int×Rq):=(X.iE.filter fun z=>z.1==(j:Int)).map fun z=>(iM 0,z.2)
def TR (n m v ce:Nat) (X:Cx) (T:Nat→St) (j:Nat):List Le:=((mJ.unit ((j/m:Nat):Int) (T j) [T j]).J n m v ce (TP X j)).1.map fun e=>⟨(j:Int),e.cl,e.pk⟩
theorem AM (n m v ce:Nat) (ch:Int):∀(rs:List (Int×Rq)) (s:St) (hs:List St),∃s' hs',(mJ.unit ch s hs).J n m v ce rs=(((mJ.unit ch s hs).J n m v ce rs).1,.unit ch s' hs')
 |[],s,hs=>⟨s,hs,rfl⟩
 |z::rs,s,hs=>by
  obtain⟨s',hs',e⟩:=AM n m v ce ch rs (my n m v ce ch s z.2).2 (hs++[(my n m v ce ch s z.2).2])
  exact⟨s',hs',by show(_,_)=_;rw[show((mJ.unit ch s hs).qF n m v ce z.2).2= .unit ch (my n m v ce ch s z.2).2 (hs++[(my n m v ce ch s z.2).2]) from rfl,e];rfl⟩
theorem N9 {α:Type} {f:Nat→List α} (a b:Nat) (h:∀j,a≤j→f j=[]):(List.range (a+b)).flatMap f=(List.range a).flatMap f:=by
 rw[List.range_add,List.flatMap_append]
 have:((List.range b).map (a+·)).flatMap f=[]:=by
  rw[List.flatMap_eq_nil_iff]
  intro j hj
  obtain⟨i,_,rfl⟩:=List.mem_map.1 hj
  exact h _ (Nat.le_add_right _ _)
 rw[this,List.append_nil]
def mJ.st:mJ→St
 | .unit _ s _=>s
 | .voter .. =>St.first
theorem So.VI (hW:Wk W) (h:So W X T) (hO:∀z∈X.iE,0≤z.1∧z.1<W.n*W.m):
 W.tD=(List.range (W.n*W.m)).flatMap (TR W.n W.m W.v W.ce X T)∧So W.step.step (X.jt.E ((List.range (W.n*W.m)).flatMap (TR W.n W.m W.v W.ce X T))) (fun j=>((mJ.unit ((j/W.m:Nat):Int) (T j) [T j]).J W.n W.m W.v W.ce (TP X j)).2.st):=by
 have hu:=h.up
 obtain⟨_,w2,w3⟩:=OR hW hu
 have s2:=(oh W).H (oh W.step)
 have h9:=tE hW.n1.2 hW.m1.2
 have id1:∀j,j<W.n*W.m→jZ W.n W.m j=j:=fun j hj=>by unfold jZ;rw[if_pos hj]
 have r1:∀j,j<W.n*W.m→W.reqs j=TP X j:=fun j hj=>by rw[h.reqs j,id1 j hj];rfl
 have r2:∀j,W.n*W.m≤j→W.reqs j=[]:=fun j hj=>by
  rw[h.reqs j,List.map_eq_nil_iff,List.filter_eq_nil_iff]
  intro z hz e
  have:=hO z hz
  have e2:jZ W.n W.m j=100+j-(W.n*W.m:Nat):=by unfold jZ;rw[if_neg (by omega)]
  rw[e2] at e
  simp at e
  have:((W.n*W.m:Nat):Int)=(W.n:Int)*W.m:=by simp
  omega
 have ha:W.tD=(List.range (W.n*W.m)).flatMap (TR W.n W.m W.v W.ce X T):=by
  unfold Wd.tD
  rw[hW.pl,N9 _ _ fun j hj=>by rw[r2 j hj];split<;>rfl]
  refine rG fun j hj=> ?_
  have hj:=List.mem_range.1 hj
  rw[h.un j hj,r1 j hj,id1 j hj]
  rfl
 have ht:W.F W.tD (iM 0)=W.tD:=by
  unfold Wd.F
  rw[List.filter_eq_self]
  intro l hl
  rw[h.jL]
  unfold Wd.tD at hl
  obtain⟨j,hj,hl⟩:=List.mem_flatMap.1 hl
  split at hl
  ·simp at hl
  ·obtain⟨e,he,rfl⟩:=List.mem_map.1 hl
   obtain⟨z,hz,e1,_⟩:=Cd _ _ _ _ _ _ e he
   rw[h.reqs j] at hz
   obtain⟨y,_,rfl⟩:=List.mem_map.1 hz
   simp[e1]
 refine⟨ha, ?_,by rw[s2.ms];exact h.ms,fun j hj=> ?_,fun j P hj hP=> ?_, ?_⟩
 ·refine List.ext_getElem? fun i=> ?_
  rw[w3 i,h.ac]
  match i with
  |0=>simp only[List.getElem?_cons_zero,Option.map_some];rw[ht,ha]
  |i+1=>simp
 ·rw[s2.n,s2.m] at hj
  rw[w2 j,h.un j hj,s2.m]
  obtain⟨s',hs',e⟩:=AM W.n W.m W.v W.ce ((j/W.m:Nat):Int) (W.reqs j) (T j) [T j]
  rw[←r1 j hj]
  simp only[Option.map_some]
  rw[e]
  rfl
 ·have hP':=hP
  rw[w2 j] at hP'
  obtain⟨Q,hQ,rfl⟩:=Option.map_eq_some_iff.1 hP'
  have:=(GA hW hu)
  exact⟨h.up.p Q (List.mem_of_getElem? hQ),rfl,(GA hW hu).r _ (List.mem_of_getElem? hP)⟩
 ·have:=(GA hW hu).ln ⟨X.jt.E (W.F W.tD (iM 0)),true⟩ (List.mem_of_getElem? (i:=0) (by rw[w3 0,h.ac];rfl))
  rw[ht,ha] at this
  exact this
end
namespace Cx
def wp (X:Cx) (p:Qn An):Cx:={X with jg:=p}
section
variable(X:Cx)(p:Qn An)(c:jf)(A:An)
theorem yX:(X.wp p).jO c=(X.jO c).wp p:=by
 simp only[jO,apply_ite (fun Y=>wp Y p)];rfl
theorem Nx (t:Ct):(X.wp p).oe c t=(X.oe c t).wp p:=by
 simp only[oe,apply_ite (fun Y=>wp Y p),←yX];rfl
theorem GY:(X.wp p).kU c A=(X.kU c A).wp p:=by
 simp only[kU,apply_ite (fun Y=>wp Y p)];rfl
theorem NF:(X.wp p).mN c A=(X.mN c A).wp p:=by
 simp only[mN,apply_ite (fun Y=>wp Y p),yX,Nx,GY];rfl
theorem LL:(X.wp p).lj c A=(X.lj c A).wp p:=by
 simp only[lj,apply_ite (fun Y=>wp Y p)];rfl
theorem QG:(X.wp p).ld c A=(X.ld c A).wp p:=by
 simp only[ld,apply_ite (fun Y=>wp Y p),LL,NF];rfl
theorem KX:(X.ld c A).mv=X.mv∧(X.ld c A).jg=X.jg:=by
 unfold ld lj mN oe kU jO
 repeat' split
 all_goals exact⟨rfl,rfl⟩
end
def qg (X:Cx) (fr nr:Int) (A:An):Cx:=match X.dd.find? fun c=>c.q.E nr fr with
 |none=>X
 |some c=>(X.put {c with q:=c.q.add fr A}).ld {c with q:=c.q.add fr A} A
theorem Ly (X:Cx) (fr nr:Int) (A:An):(X.qg fr nr A).mv=X.mv∧(X.qg fr nr A).jg=X.jg:=by
 unfold qg
 split
 ·exact⟨rfl,rfl⟩
 ·exact KX _ _ _
theorem Rp (X:Cx) (p:Qn An) (fr nr:Int) (A:An):(X.wp p).qg fr nr A=(X.qg fr nr A).wp p:=by
 unfold qg
 show(match X.dd.find? fun c=>c.q.E nr fr with
  |none=>X.wp p
  |some c=>((X.put {c with q:=c.q.add fr A}).wp p).ld {c with q:=c.q.add fr A} A)=_
 split
 ·rfl
 ·exact QG _ _ _ _
theorem Cv {X:Cx} {fr nr:Int} {A:An} (h1:X.jg.a.nr≠nr) (h2:X.mv=Mv.zero) (hA:A.wh≠5):X.jA fr nr A=X.qg fr nr A:=by
 unfold jA qg
 rw[if_neg (by unfold Qn.E;simp[h1]),if_neg (by rw[h2];simp[Qn.E,Mv.zero,Qn.zero])]
 cases X.dd.find? fun c=>c.q.E nr fr with
 |none=>rfl
 |some c=>exact if_neg hA
theorem zi {X:Cx} {fr nr:Int} {A:An} (h1:X.jg.E nr fr=true) (hA:A.wh≠5):X.jA fr nr A=X.wp (X.jg.add fr A):=by
 unfold jA
 rw[if_pos h1,if_neg hA]
 rfl
end Cx
def TQ (nr nrp:Int) (A:Nat→An) (B:An) (i:Nat→Bool) (b:Bool) (j:Nat):List Le:=(if i j then [⟨(j:Int),iM 0,.rep nr (A j)⟩] else [])++(if b then [⟨(j:Int),iM 0,.rep nrp B⟩] else [])
theorem ER {nr nrp:Int} (hne:nrp≠nr) {A:Nat→An} (hA:∀j,(A j).wh≠5) {B:An} (hB:B.wh≠5) (i:Nat→Bool) (b:Bool):∀(js:List Nat) (Y:Cx) (p:Qn An),js.Nodup→Y.mv=Mv.zero→p.a.nr=nrp→p.mP=false→(b=true→∀j∈js,(j:Int)∈p.nodes∧∀z∈p.B,z.1≠j)→
 ∃p',p'.mP=false∧p'.a.nr=nrp∧(Y.wp p).E (js.flatMap (TQ nr nrp A B i b))=((js.filter i).foldl (fun Y j=>Y.qg j nr (A j)) Y).wp p'
 |[],Y,p,_,_,h1,h2,_=>⟨p,h2,h1,rfl⟩
 |j::js,Y,p,hn,hm,h1,h2,hb=>by
  have hn':=List.nodup_cons.1 hn
  obtain⟨Y1,e1,m1,f1⟩:∃Y1,(Y.wp p).E (if i j then [⟨(j:Int),iM 0,.rep nr (A j)⟩] else [])=Y1.wp p∧Y1.mv=Mv.zero∧((j::js).filter i).foldl (fun Y j=>Y.qg j nr (A j)) Y=(js.filter i).foldl (fun Y j=>Y.qg j nr (A j)) Y1:=by
   cases hi:i j with
   |false=>exact⟨Y,by simp[Cx.E],hm,by rw[List.filter_cons_of_neg (by simp[hi])]⟩
   |true=>
    refine⟨Y.qg j nr (A j), ?_,(Cx.Ly _ _ _ _).1.H hm,by rw[List.filter_cons_of_pos hi];rfl⟩
    show(Y.wp p).jA j nr (A j)=_
    rw[Cx.Cv (X:=Y.wp p) (by show p.a.nr≠nr;rw[h1];exact hne) hm (hA j),Cx.Rp]
  obtain⟨p1,e2,g1,g2,g3⟩:∃p1,(Y1.wp p).E (if b then [⟨(j:Int),iM 0,.rep nrp B⟩] else [])=Y1.wp p1∧p1.mP=false∧p1.a.nr=nrp∧(b=true→∀j∈js,(j:Int)∈p1.nodes∧∀z∈p1.B,z.1≠j):=by
   cases hbb:b with
   |false=>exact⟨p,by simp[Cx.E],h2,h1,fun e=>by simp at e⟩
   |true=>
    have hj:=hb hbb j (List.mem_cons_self ..)
    refine⟨p.add j B, ?_,h2,h1,fun _ k hk=>⟨(hb hbb k (List.mem_cons_of_mem _ hk)).1,fun z hz e=> ?_⟩⟩
    ·show(Y1.wp p).jA j nrp B=_
     rw[Cx.zi (X:=Y1.wp p) (Qn.pW.2 ⟨h1,hj.1,hj.2⟩) hB]
     rfl
    ·rcases List.mem_append.1 (show z∈p.B++[((j:Int),B)] from hz) with hz|hz
     ·exact(hb hbb k (List.mem_cons_of_mem _ hk)).2 z hz e
     ·simp at hz
      rw[hz] at e
      have:j=k:=by have e:(j:Int)=k:=e;omega
      exact hn'.1 (this▸hk)
  obtain⟨p',k1,k2,k3⟩:=ER hne hA hB i b js Y1 p1 hn'.2 m1 g2 g1 g3
  refine⟨p',k1,k2, ?_⟩
  rw[f1,←k3]
  show((if i j then [(⟨(j:Int),iM 0,.rep nr (A j)⟩:Le)] else [])++(if b then [(⟨(j:Int),iM 0,.rep nrp B⟩:Le)] else [])++js.flatMap (TQ nr nrp A B i b)).foldl (fun(X:Cx) (l:Le)=>X.recv l.fr l.pk) (Y.wp p)=_
  rw[List.foldl_append,List.foldl_append]
  have e1':(if i j then [(⟨(j:Int),iM 0,.rep nr (A j)⟩:Le)] else []).foldl (fun(X:Cx) (l:Le)=>X.recv l.fr l.pk) (Y.wp p)=Y1.wp p:=e1
  have e2':(if b then [(⟨(j:Int),iM 0,.rep nrp B⟩:Le)] else []).foldl (fun(X:Cx) (l:Le)=>X.recv l.fr l.pk) (Y1.wp p)=Y1.wp p1:=e2
  rw[e1',e2']
  rfl
def sx (n m v ce:Nat) (res:List Rz) (dd:List jf) (ak:Int) (pb:Qn An):Cx:=⟨n,m,v,ce,iM 0,0,jC n m,res,dd,ak,pb,0,0,Mv.zero,false,false⟩
def us (n m:Nat):List Int:=(List.range (n*m)).map fun(j:Nat)=>(j:Int)
theorem s9 {n m:Nat} (hn:1≤n∧n≤3) (hm:1≤m∧m≤3):kz (jC n m)=us n m:=by
 obtain rfl|rfl|rfl:n=1∨n=2∨n=3:=by omega
 all_goals
  obtain rfl|rfl|rfl:m=1∨m=2∨m=3:=by omega
  all_goals rfl
theorem filter_one {α:Type} (r:α) (u:Int):∀{ns:List Int},ns.Nodup→((ns.map fun nd=>(nd,r)).filter fun z=>z.1==u)=if u∈ns then [(u,r)] else []
 |[],_=>rfl
 |x::ns,h=>by
  have h':=List.nodup_cons.1 h
  have ih:=filter_one r u h'.2
  rw[List.map_cons]
  by_cases e:x=u
  ·subst e
   rw[List.filter_cons_of_pos (by simp),ih,if_neg h'.1,if_pos (List.mem_cons_self ..)]
  ·rw[List.filter_cons_of_neg (by simp[e]),ih]
   simp[Ne.symm e]
theorem EU {α:Type} (ns:List Int) (r:Rq):(Qn.new ns r:Qn α).iE=ns.map fun nd=>(nd,r):=by
 show(ns.filter fun nd=> !(([]:List (Int×α)).any fun z=>z.1==nd)).map _=_
 rw[List.filter_eq_self.2 (by simp)]
 rfl
theorem wA {n m:Nat} {j:Nat} (hj:j<n*m):(j:Int)∈us n m:=List.mem_map.2 ⟨j,List.mem_range.2 hj,rfl⟩
theorem EI (n m:Nat):(us n m).Nodup:=by
 unfold us List.Nodup
 rw[List.pairwise_map]
 exact List.nodup_range.imp fun h e=>h (by omega)
theorem Ig {n m v ce:Nat} {ch:Int} {s:St} {r:Rq} (hs:s.ep=0) (hr:r.ep=0):(my n m v ce ch s r).2.ep=0∧(my n m v ce ch s r).1.wh≠5:=by
 have hl:(tN n m v ce ch s r.pl).wh≠5:=by
  unfold tN jQ
  repeat' split
  all_goals simp
 unfold my uM tM r9 xq tK
 simp only[hs,hr]
 repeat' split
 all_goals first|(simp[an];done)|exact⟨rfl,hl⟩|(exfalso;omega)
def A9 (a:Int):Rq:=⟨1,8,a,0,0,no⟩
theorem S7 (a:Int):(A9 a).nr=a:=rfl
theorem zI {n m v ce:Nat} {ch:Int} {s:St} (hs:s.ep=0) (a:Int):my n m v ce ch s (A9 a)=(an 1 0 0,s):=by
 unfold my uM tM A9
 obtain⟨e,mk,ct⟩:=s
 simp at hs
 subst hs
 simp
section
variable{res:List Rz}{c:jf}{ak:Int}{pb:Qn An}{ns:List Int}{r:Rq}
theorem Pb (n m v ce:Nat) (hq:c.q=Qn.new ns r):(sx n m v ce res [c] ak pb).iE=(ns.map fun nd=>(nd,r))++pb.iE:=by
 show([c].flatMap fun c=>c.q.iE)++pb.iE++[]++[]=_
 simp[hq,EU]
def yP (n m v ce:Nat) (T:Nat→St) (ns:List Int) (r:Rq) (Y:Cx):Cx:=((List.range (n*m)).filter fun(j:Nat)=>decide ((j:Int)∈ns)).foldl (fun(Y:Cx) (j:Nat)=>Y.qg j r.nr (my n m v ce ((j/m:Nat):Int) (T j) r).1) Y
def pE (n m v ce:Nat) (T:Nat→St) (ns:List Int) (r:Rq):Nat→St:=fun j=>if(j:Int)∈ns then(my n m v ce ((j/m:Nat):Int) (T j) r).2 else T j
theorem So.Ve (hW:Wk W) (h:So W (sx W.n W.m W.v W.ce res [c] ak pb) T) (hq:c.q=Qn.new ns r) (hns:ns.Nodup) (hnu:∀u∈ns,0≤u∧u<W.n*W.m) (hne:ns≠[]) (hep:r.ep=0) (hT:∀j,(T j).ep=0) (hpb:pb.mP=false∨pb=Qn.new (us W.n W.m) (A9 pb.a.nr)) (hnr:pb.a.nr≠r.nr):
 ∃pb',pb'.mP=false∧pb'.a.nr=pb.a.nr∧So W.step.step ((yP W.n W.m W.v W.ce T ns r (sx W.n W.m W.v W.ce res [{c with q:=c.q.jt}] ak Qn.zero)).wp pb') (pE W.n W.m W.v W.ce T ns r)∧∀k,W.lJ (k+2)=W.step.step.lJ k:=by
 obtain⟨X,hX⟩:∃X,sx W.n W.m W.v W.ce res [c] ak pb=X:=⟨_,rfl⟩
 have hO:X.iE=(ns.map fun nd=>(nd,r))++pb.iE:=by rw[←hX];exact Pb _ _ _ _ hq
 rw[hX] at h
 have hcast:((W.n*W.m:Nat):Int)=(W.n:Int)*W.m:=by simp
 obtain⟨b,hb,hbd⟩:∃b:Bool,pb.iE=(if b then(us W.n W.m).map fun nd=>(nd,A9 pb.a.nr) else [])∧(b=true→pb=Qn.new (us W.n W.m) (A9 pb.a.nr)):=by
  rcases hpb with e|e
  ·exact⟨false,by simp[Qn.iE,e],fun e=>by simp at e⟩
  ·exact⟨true,by rw[e];exact EU _ _,fun _=>e⟩
 have hOu:∀z∈X.iE,0≤z.1∧z.1<(W.n:Int)*W.m:=fun z hz=>by
  rw[hO,hb] at hz
  rcases List.mem_append.1 hz with hz|hz
  ·obtain⟨u,hu,rfl⟩:=List.mem_map.1 hz
   exact hnu u hu
  ·split at hz
   ·obtain⟨u,hu,rfl⟩:=List.mem_map.1 hz
    obtain⟨j,hj,rfl⟩:=List.mem_map.1 hu
    have:=List.mem_range.1 hj
    exact⟨by show(0:Int)≤j;omega,by show(j:Int)<_;omega⟩
   ·simp at hz
 obtain⟨w1,w2⟩:=h.VI hW hOu
 have hr:∀j,j<W.n*W.m→TP X j=(if(j:Int)∈ns then [(iM 0,r)] else [])++(if b then [(iM 0,A9 pb.a.nr)] else []):=fun j hj=>by
  unfold TP
  rw[hO,List.filter_append,List.map_append,filter_one r _ hns,hb]
  congr 1
  ·split<;>rfl
  ·cases b with
   |false=>rfl
   |true=>
    simp only[if_true]
    rw[filter_one _ _ (EI _ _),if_pos (wA hj)]
    rfl
 have hbk:∀j,j<W.n*W.m→TR W.n W.m W.v W.ce X T j=TQ r.nr pb.a.nr (fun j=>(my W.n W.m W.v W.ce ((j/W.m:Nat):Int) (T j) r).1) (an 1 0 0) (fun j=>decide ((j:Int)∈ns)) b j∧((mJ.unit ((j/W.m:Nat):Int) (T j) [T j]).J W.n W.m W.v W.ce (TP X j)).2.st=pE W.n W.m W.v W.ce T ns r j:=fun j hj=>by
  unfold TR TQ pE
  rw[hr j hj]
  by_cases e:(j:Int)∈ns<;>cases b<;>simp[e,mJ.J,mJ.qF,mJ.st,zI (Ig (hT j) hep).1,zI (hT j),S7]
 have hflat:(List.range (W.n*W.m)).flatMap (TR W.n W.m W.v W.ce X T)=(List.range (W.n*W.m)).flatMap (TQ r.nr pb.a.nr (fun j=>(my W.n W.m W.v W.ce ((j/W.m:Nat):Int) (T j) r).1) (an 1 0 0) (fun j=>decide ((j:Int)∈ns)) b):=rG fun j hj=>(hbk j (List.mem_range.1 hj)).1
 have hsent:X.jt=(sx W.n W.m W.v W.ce res [{c with q:=c.q.jt}] ak Qn.zero).wp pb.jt:=by rw[←hX];rfl
 obtain⟨p',p1,p2,p3⟩:=ER (A:=fun j=>(my W.n W.m W.v W.ce ((j/W.m:Nat):Int) (T j) r).1) (B:=an 1 0 0) hnr (fun j=>(Ig (hT j) hep).2) (by simp[an]) (fun j=>decide ((j:Int)∈ns)) b (List.range (W.n*W.m)) (sx W.n W.m W.v W.ce res [{c with q:=c.q.jt}] ak Qn.zero) pb.jt List.nodup_range rfl rfl rfl (fun e j hj=>by
  rw[hbd e]
  exact⟨wA (List.mem_range.1 hj),fun z hz=>by simp[Qn.jt,Qn.new] at hz⟩)
 have w2':=w2
 rw[hflat,hsent,p3] at w2'
 refine⟨p',p1,p2, ?_,fun k=> ?_⟩
 ·refine⟨w2'.ac,w2'.ms,fun j hj=> ?_,w2'.vo,w2'.lx⟩
  have s2:=(oh W).H (oh W.step)
  have:=w2'.un j hj
  rw[s2.n,s2.m] at hj
  rw[this,(hbk j hj).2]
 ·rw[D5 hW h.up k,if_neg ?_,if_neg ?_]
  ·intro e
   rw[w1,hflat,List.flatMap_eq_nil_iff] at e
   obtain⟨u,hu⟩:=List.exists_mem_of_ne_nil _ hne
   have hu2:=hnu u hu
   have:=e u.toNat (List.mem_range.2 (by omega))
   unfold TQ at this
   have hut:((u.toNat:Nat):Int)=u:=by omega
   rw[List.append_eq_nil_iff,if_pos (decide_eq_true (by rw[hut];exact hu))] at this
   exact absurd this.1 (by simp)
  ·intro e
   have:W.nK=X.iE.map fun z=>⟨iM 0,z.1,.req z.2⟩:=by
    unfold Wd.nK
    rw[h.ac]
    simp[Wd.xB,h.ac]
   rw[this,List.map_eq_nil_iff,hO] at e
   simp at e
   exact hne e.1
end
end Go.Proofs.YtbghhbpacijmmaaGreat
