import Derived.Test.YtbghhbpacijmmaaGreatL11
open Go.Proofs.Tryz
namespace Go.Proofs.YtbghhbpacijmmaaGreat
set_option maxRecDepth 99999
set_option maxHeartbeats 0
set_option linter.defProp false
variable {e u E b e' E':Int} {c c':jn} {t ij:Ct} {X X' X2:Cx} {Q v l1 l2 v1:List Int} {P:Nat->Prop} {l:List (List Int)} {r:Rq} {F:Int->St} {G:Ct->Int->Prop} {s:St} {iQ:Int->Prop}
structure Cf where
 n:Nat
 m:Nat
 v:Nat
 ce:Nat
 ok:oE n m v ce=true
def Cf.A(S:Cf):(1<=S.n/\S.n<=3)/\(1<=S.m/\S.m<=3)/\(1<=S.v/\S.v<=5)/\(1<=S.ce/\S.ce<=16):=by have:=S.ok;simp[oE]at this;omega
def Cf.mf(S:Cf):Nat:=S.v/2+1
structure Kn where
 a:List (List (List Int))
 D:Int->St
 c:Int->VS
 d:Int->Int->Int->Prop
 b:Int->Int->List Int->Prop
 cb:Nat->Int
 cq:Nat->List Int
 P0:Ct->Int->Int->Prop
 Fu:Ct->Prop
namespace Kn
variable(S:Cf)(K:Kn)
def lay(e:Int):List (List Int):=K.a.getD e.toNat []
def C(e a:Int):List Int:=(K.lay e).getD (a%S.n).toNat []
def In(e:Int):Prop:=0<=e/\e<K.a.length
def zp(u a:Int)(t:Ct):Prop:=(K.D u).ct (cell S.n a)=t
def kY(F:Int->St):Kn:={K with D:=F}
end Kn
structure BJ(s s':Ep):Prop where
 pr:s.pr<=s'.pr
 ba:(s'.ba=s.ba/\s'.val=s.val)\/s.pr<=s'.ba
def BJ.refl(s):BJ s s:=⟨iG,.inl ⟨rfl,rfl⟩⟩
def BJ.H{s s' s2:Ep}(h:BJ s s')(k:BJ s' s2):BJ s s2:=by
 refine⟨bt h.pr k.pr,?_⟩;obtain⟨k1,j⟩|k1:=k.ba
 .obtain⟨h1,y⟩|h1:=h.ba
  .simp_all
  omega
 exact .inr (bt h.pr k1)
structure mE(S:Cf)(K K':Kn):Prop where
 ls:∃l,K'.a=K.a++l
 d:∀u,xb (K.D u) (K'.D u)
 dv:∀q e,BJ ((K.c q).E e) ((K'.c q).E e)
 av:∀q e b,K.d q e b->K'.d q e b
 an:∀q e b,K'.d q e b->K.d q e b\/((K.c q).E e).pr<=b
 f:∀e b l,K.b e b l->K'.b e b l
 cb:∀e:Nat,e<K.a.length->K'.cb e=K.cb e/\K'.cq e=K.cq e
 p0:∀t a e,K.P0 t a e->K'.P0 t a e
 fu:∀t,K.Fu t->K'.Fu t
section
variable{S:Cf}{K K' K2:Kn}
def mE.refl(S)(K):mE S K K:=⟨⟨[],bz⟩,λ_=>xb.refl ..,λ_ _=>BJ.refl _,λ_ _ _ h=>h,λ_ _ _ h=>.inl h,λ_ _ _ h=>h,λ_ _=>⟨rfl,rfl⟩,λ_ _ _ h=>h,λ_ h=>h⟩
def mE.len(h:mE S K K'):K.a.length<=K'.a.length:=by obtain⟨l,e⟩:=h.ls;simp_all
theorem mE.H(h:mE S K K')(k:mE S K' K2):mE S K K2:=by
 refine⟨?_,λu=>(h.d u).H (k.d u),λq e=>(h.dv q e).H (k.dv q e),λq e b x=>k.av q e b (h.av q e b x),λq e b x=>?_,λe b l x=>k.f _ _ _ (h.f _ _ _ x),λe j=>?_,λt a e x=>k.p0 _ _ _ (h.p0 _ _ _ x),λt x=>k.fu t (h.fu t x)⟩
 .obtain⟨l,e⟩:=h.ls;obtain⟨y,e'⟩:=k.ls
  grind
 .obtain x|x:=k.an q e b x
  .exact h.an q e b x
  exact .inr (bt (h.dv q e).pr x)
 obtain⟨A,L⟩:=h.cb e j;obtain⟨M,T⟩:=k.cb e (gM h.len)
 grind
def Kn.In.L(h:K.In e)(k:mE S K K'):K'.In e:=⟨h.1,by have:=h.2;have:=k.len;omega⟩
def mE.lay(k:mE S K K')(h:K.In e):K'.lay e=K.lay e:=by obtain⟨l,j⟩:=k.ls;have y:=h.1;have A:=h.2;unfold Kn.lay;rw[j,aS,aS,aB C]
def mE.C(k:mE S K K')(h:K.In e)(a):K'.C S e a=K.C S e a:=by unfold Kn.C;rw[k.lay h]
def Kn.zp.L{a:Int}(h:K.zp S u a t)(j:t.kd≠0)(k:mE S K K'):K'.zp S u a t:=by unfold Kn.zp at h|-;rw[(k.d u).ct _ (jf h j),h]
end
def xO(S:Cf)(K:Kn)(e b:Int)(val:List Int):Prop:=
 ∃Q:List Int,(Q.Nodup/\S.mf<=Q.length/\∀q∈Q,n9 S.v q)/\∃bm,0<=bm/\bm<b/\(bm=0\/K.b e bm val)/\∀q∈Q,b<=((K.c q).E e).pr/\∀b2,K.d q e b2->b2<b->b2<=bm
structure Kv(S:Cf)(K:Kn):Prop where
 l0:K.a[0]?=some (iR S.n S.m)
 ls:∀(e:Nat) R L,K.a[e]?=some L->K.a[e+1]?=some R->oj R L
 lc:∀e:Nat,1<=e->e<K.a.length->K.b e (K.cb e) (kB (K.lay e))/\((K.cq e).Nodup/\S.mf<=(K.cq e).length/\∀q∈K.cq e,n9 S.v q)/\∀q∈K.cq e,K.d q e (K.cb e)
 f:∀e b val,K.b e b val->(1<=e/\e<=K.a.length)/\1<=b/\(∃l,val=kB l/\oj l (K.lay (e-1)))/\xO S K e b val
 au:∀e b val val',K.b e b val->K.b e b val'->val=val'
 av:∀q e b,K.d q e b->0<b/\b<=((K.c q).E e).ba
 pu:∀t t' a a' e e',K.P0 t a e->K.P0 t' a' e'->t.cl=t'.cl->t.ca=t'.ca->t=t'
section
variable{S:Cf}{K K':Kn}
def yg(S:Cf):(kB (iR S.n S.m)).Nodup/\(kB (iR S.n S.m)).length=S.n*S.m/\(∀u∈kB (iR S.n S.m),0<=u/\u<S.n*S.m)/\(iR S.n S.m).length=S.n/\(∀ch∈iR S.n S.m,ch.length=S.m):=by obtain⟨h,j,_⟩:=S.A;exact_mod_cast tH S.n (xP h) S.m (xP j)
def oj.self{L:List (List Int)}(h:∀c∈L,c≠[]):oj L L:=⟨rfl,λi r ch y j=>by rw[y]at j;simp at j;subst j;exact⟨dy _,h _ (aR y)⟩⟩
def oj.ne{R L:List (List Int)}(h:oj R L):∀c∈R,c≠[]:=λc j=>by obtain⟨ch,_,_,y⟩:=h.mem j;omega
def Kv.pos(h:Kv S K):1<=K.a.length:=by have:=(aj.1 h.l0).1;omega
theorem Kv.Xj(h:Kv S K):∀(e:Nat),e<K.a.length->oj (K.lay e) (iR S.n S.m)
 |0,_=>by
  have y:K.lay (0:Nat)=iR S.n S.m:=by unfold Kn.lay;rw[aS,show((0:Nat):Int).toNat=0 from rfl,h.l0];rfl
  rw[y];refine oj.self λc A=>?_;have j:=(yg S).2.2.2.2 c A;have:=S.A;intro e;rw[e]at j;simp at j;omega
 |e+1,H=>by
  refine oj.H (h.ls e _ (K.lay e) ?_ ?_) (h.Xj e C)
  .unfold Kn.lay;rw[aS,et,ah C];rfl
  unfold Kn.lay;simp_all
theorem Kv.YG(h:Kv S K)(e):∀(d:Nat),e+d<K.a.length->oj (K.lay (e+d:Nat)) (K.lay e)
 |0,j=>oj.self (h.Xj e C).ne
 |d+1,j=>by
  refine oj.H (h.ls (e+d) (K.lay (e+(d+1):Nat)) (K.lay (e+d:Nat)) ?_ ?_) (h.YG e d C)
  .unfold Kn.lay;rw[aS,et,ah C];rfl
  unfold Kn.lay;rw[aS,et,show e+(d+1)=e+d+1 from rfl,ah (show e+d+1<_ by omega)];rfl
def Kv.sub(h:Kv S K)(j:K.In e)(y:0<=e')(A:e'<=e):oj (K.lay e) (K.lay e'):=by have H:=j.2;have:=h.YG e'.toNat (e-e').toNat C;rwa[show((e'.toNat+(e-e').toNat:Nat):Int)=e by omega]at this
def Kv.Rp(h:Kv S K)(j:K.In e):oj (K.lay e) (iR S.n S.m):=by have y:=j.1;have A:=j.2;have:=h.Xj e.toNat C;rwa[show(e.toNat:Int)=e by omega]at this
def Kv.len(h:Kv S K)(j:K.In e):(K.lay e).length=S.n:=(h.Rp j).1.H (yg S).2.2.2.1
def ixn(S:Cf){a:Int}:(a%S.n).toNat<S.n:=by have:=S.A;have h:=de a (show(0:Int)<S.n by omega);omega
def Kv.get(h:Kv S K)(j:K.In e)(a:Int):(K.lay e)[(a%S.n).toNat]?=some (K.C S e a):=by have y:=h.len j;have:=ixn S (a:=a);unfold Kn.C;simp_all
def Kv.mem(h:Kv S K)(j:K.In e)(a):K.C S e a∈K.lay e:=aR (h.get j a)
def Kv.IU(h:Kv S K)(j:K.In e)(y:0<=e')(A:e'<=e)(a):(K.C S e a).Sublist (K.C S e' a):=
 ((h.sub j y A).2 _ _ _ (h.get j a) (h.get ⟨y,gM j.2⟩ a)).1
def Kv.ne(h:Kv S K)(j:K.In e)(a):K.C S e a≠[]:=(h.Rp j).ne _ (h.mem j a)
def Kv.all(h:Kv S K)(j:K.In e):(kB (K.lay e)).Nodup/\∀u∈kB (K.lay e),nN S.n S.m u:=by obtain⟨y,_,A,_⟩:=yg S;have:=(h.Rp j).all;exact⟨y.sublist this,λu H=>A u (this.subset H)⟩
def Kv.Yu(h:Kv S K)(j:K.In e){a:Int}(y:u∈K.C S e a):u∈kB (K.lay e):=fq.2 ⟨_,h.mem j a,y⟩
def Kv.nd(h:Kv S K)(j:K.In e)(a):(K.C S e a).Nodup:=(h.all j).1.sublist (fE (h.mem j a))
def Kv.un(h:Kv S K)(j:K.In e){a:Int}(y:u∈K.C S e a):nN S.n S.m u:=(h.all j).2 u (h.Yu j y)
def Kv.chn(h:Kv S K)(y:K.In e){a:Int}(A:u∈K.C S e a):u/S.m=a%S.n:=by
 have V:=ixn S (a:=a);have H:(iR S.n S.m)[(a%S.n).toNat]?=some ((List.range S.m).map λi=>(((a%S.n).toNat*S.m+i:Nat):Int)):=by unfold iR;simp_all
 have L:=((h.Rp y).2 _ _ _ (h.get y a) H).1.subset A;obtain⟨i,M,T⟩:=aD.1 L;have j:=di.1 M;have W:=dq a (show(S.n:Int)≠0 by have:=S.A;omega);rw[<-T];rw[show((_:Int))/S.m=_ by norm_cast];rw[cN,Nat.mul_add_div C,Nat.div_eq_of_lt j];omega
def Kv.T(h:Kv S K)(j:K.In e){a:Int}(y:u∈K.C S e a)(A:0<=a)(H:a<S.n*S.ce):Lk S.n S.ce (u/S.m) a:=
 ⟨S.A.1.1,A,H,(h.chn j y).symm⟩
theorem UC{T:List Int}(A:T.Sublist (l1++u::l2))(H:(l1++u::l2).Nodup)(L:u∈T):∃g l,T=g::l/\(g=u\/g∈l1):=by
 obtain⟨M,s2,rfl,V,W⟩:=List.sublist_append_iff.1 A
 cases M with
 |cons g s=>exact⟨g,s++s2,rfl,.inr (V.subset (aN ..))⟩
 |nil=>
  have h:u∈s2:=je L
  cases s2 with
  |nil=>simp at h
  |cons g s=>
   refine⟨g,s,rfl,.inl ?_⟩;have j:(u::l2).Nodup:=(cX.1 H).2.1
   cases W with
   |cons _ y=>exact absurd (y.subset h) (bY.1 j).1
   |cons_cons _ y=>rfl
structure Rt(S:Cf)(K:Kn)(u a:Int)(t:Ct)(e e0 e1:Int)(l1 l2:List Int):Prop where
 kd:t.kd≠0
 z0:0<=e0
 Xl:e0<=e1
 z1:e1<=e
 Y6:e1<K.a.length
 p:K.P0 t a e0
 c:K.C S e1 a=l1++u::l2
 has:∀x∈l1,K.zp S x a t
 hd:∀e',e0<=e'->e'<=e1->∃g l,K.C S e' a=g::l/\(g=u\/K.zp S g a t)
def Iy(S:Cf)(K:Kn)(u a:Int)(t:Ct)(e:Int):Prop:=∃e0 e1 l1 l2,Rt S K u a t e e0 e1 l1 l2
def Iy.L{a:Int}(h:Iy S K u a t e)(k:mE S K K'):Iy S K' u a t e:=by
 obtain⟨H,j,l1,l2,h⟩:=h;have M:∀e',H<=e'->e'<=j->K.In e':=λe' y A=>⟨gM h.z0,gM h.Y6⟩;refine⟨H,j,l1,l2,h.kd,h.z0,h.Xl,h.z1,by have:=h.Y6;have:=k.len;omega,k.p0 _ _ _ h.p,?_,λx T=>(h.has x T).L h.kd k,λe' y A=>?_⟩
 .rw[k.C (M j h.Xl iG)];exact h.c
 rw[k.C (M e' y A)];obtain⟨g,l,V,W⟩:=h.hd e' y A;exact⟨g,l,V,W.imp (λe=>e) λe=>e.L h.kd k⟩
def Iy.up{a:Int}(h:Iy S K u a t e)(k:e<=e'):Iy S K u a t e':=by obtain⟨j,y,l1,l2,h⟩:=h;exact⟨j,y,l1,l2,h.kd,h.z0,h.Xl,bt h.z1 k,h.Y6,h.p,h.c,h.has,h.hd⟩
def Rt.SH{a:Int}{A j:Int}(h:Rt S K u a t e A j l1 l2)(H:Kv S K)(M:A<=e')(T:e'<K.a.length)(V:u∈K.C S e' a):∃g l,K.C S e' a=g::l/\(g=u\/K.zp S g a t):=by
 by_cases W:e'<=j
 .exact h.hd e' M W
 have y:K.In e':=⟨gM h.z0,T⟩;have h1:=h.Xl;have h2:=h.z0;have L:=H.IU y (e':=j) C C a;rw[h.c]at L;obtain⟨g,l,Y,Z⟩:=UC L (by rw[<-h.c];exact H.nd ⟨C,h.Y6⟩ a) V;exact⟨g,l,Y,Z.imp (λe=>e) λe=>h.has g e⟩
structure IF(S:Cf)(K:Kn)(a:Int)(t:Ct)(E e0:Int):Prop where
 kd:t.kd≠0
 z0:0<=e0
 z1:e0<=E
 p:K.P0 t a e0
 hd:∀e',e0<=e'->e'<=E->∃g l,K.C S e' a=g::l/\K.zp S g a t
def IF.L{a:Int}{e0:Int}(h:IF S K a t E e0)(k:mE S K K')(M:E<K.a.length):IF S K' a t E e0:=
 ⟨h.kd,h.z0,h.z1,k.p0 _ _ _ h.p,λe' j y=>by
  have A:K.In e':=⟨gM h.z0,C⟩
  rw[k.C A]
  obtain⟨g,l,H,L⟩:=h.hd e' j y
  exact⟨g,l,H,L.L h.kd k⟩⟩
def Iy.root{a:Int}(h:Iy S K u a t E)(j:Kv S K)(y:K.In E)(A:u∈K.C S E a)(T:K.zp S u a t):∃e0,IF S K a t E e0:=by
 obtain⟨e0,V,l1,l2,h⟩:=h;have W:=h.Xl;have Y:=h.z1;refine⟨e0,h.kd,h.z0,C,h.p,λe' H L=>?_⟩;have Z:=y.2;have h0:=h.z0;obtain⟨g,l,M,h4⟩:=h.SH j H C ((j.IU y C L a).subset A);refine⟨g,l,M,?_⟩;obtain h4|h4:=h4
 .simp_all
 omega
end
def Mj(S:Cf)(Q:List Int):Prop:=Q.Nodup/\S.mf<=Q.length/\∀q∈Q,n9 S.v q
section
variable{S:Cf}{K K':Kn}
def Ri{Q1 Q2:List Int}(h:Mj S Q1)(j:Mj S Q2):∃q,q∈Q1/\q∈Q2:=by
 refine bk λA=>?_;have H:(Q1++Q2).Nodup:=cX.2 ⟨h.1,j.1,λx hx y L e=>A ⟨x,hx,jf e L⟩⟩;have:=oG (m:=(List.range S.v).map λi:Nat=>100+i) H λx hx=>by
  have:n9 S.v x:=by
   obtain hx|hx:=aT.1 hx
   .exact h.2.2 x hx
   exact j.2.2 x hx
  unfold n9 at this;exact aD.2 ⟨(x-100).toNat,di.2 C,C⟩
 have M:=h.2.1;have T:=j.2.1;unfold Cf.mf at M T;simp at this;omega
theorem uF(j:Kv S K){b1:Int}(A:K.b e b1 v1)(T:Mj S Q)(V:∀q∈Q,K.d q e b1):∀(k:Nat) (h:Int) (y:List Int),h.toNat<=k->b1<=h->K.b e h y->y=v1
 |0,h,y,W,Y,H=>by have:=(j.f _ _ _ A).2.1;omega
 |k+1,h,y,W,Y,H=>by
  by_cases Z:h=b1
  .subst Z;exact j.au _ _ _ _ H A
  obtain⟨Q2,L,bm,m0,m1,m2,m3⟩:=(j.f _ _ _ H).2.2.2;obtain⟨q,q1,q2⟩:=Ri T L;have M:=(m3 q q2).2 b1 (V q q1) C;have:=(j.f _ _ _ A).2.1;obtain m2|m2:=m2
  .omega
  exact uF j A T V k bm y C M m2
def NR(j:Kv S K){val:List Int}(A:K.In e)(V:1<=e)(h:K.b e b val)(H:Mj S Q)(L:∀q∈Q,K.d q e b):val=kB (K.lay e):=by
 have M:=A.2;obtain⟨c1,c2,y⟩:=j.lc e.toNat C C;rw[show(e.toNat:Int)=e by omega]at c1 y;by_cases T:b<=K.cb e.toNat
 .exact(uF j h H L _ _ _ jr T c1).symm
 exact uF j c1 c2 y _ _ _ jr C h
def NS(j:Kv S K){val:List Int}(A:K.In e)(M:1<=e)(h:K.b e b val)(H:K.cb e.toNat<=b):val=kB (K.lay e):=by have L:=A.2;obtain⟨c1,c2,y⟩:=j.lc e.toNat C C;rw[show(e.toNat:Int)=e by omega]at c1 y;exact uF j c1 c2 y _ _ _ jr H h
theorem rK:∀(ch r d:List Int),r.Sublist ch->ch.Nodup->(∀x∈d,x∉ch)->jd ch (r++d)=(r,d)
 |[],r,d,h,_,_=>by have:r=[]:=List.sublist_nil.1 h;subst this;rfl
 |u::us,[],d,_,L,H=>by
  have T:=rK us [] d (fp _) (bY.1 L).2 λx M h=>H x M (aX _ h)
  cases d with
  |nil=>simpa [jd]using T
  |cons x d=>have:x≠u:=λe=>H x (aN ..) (J1 e);simp only[dz,jd];rw[az this];simpa using T
 |u::us,y::r,d,h,L,H=>by
  have j:=bY.1 L;have A:∀x∈d,x∉us:=λx M h=>H x M (aX _ h)
  cases h with
  |cons _ h=>have:y≠u:=λe=>j.1 (by grind);simp only[dV,jd];rw[az this];exact rK us (y::r) d h j.2 A
  |cons_cons _ h=>simp only[dV,jd];rw[rK us r d h j.2 A];simp
theorem zZ:∀{L R:List (List Int)},oj R L->(kB L).Nodup->within L (kB R)=some R
 |[],R,h,_=>by have:R=[]:=aW.1 h.1;subst this;rfl
 |ch::L,[],h,_=>by have:=h.1;simp at this
 |ch::L,r::R,h,y=>by obtain⟨A,H,M⟩:=cX.1 y;obtain⟨T,V⟩:=h.2 0 r ch rfl rfl;have j:oj R L:=⟨by have:=h.1;simpa using this,λi a b Z hb=>h.2 (i+1) a b ‹_› ‹_›⟩;show within (ch::L) (r++kB R)=_;simp only[within];rw[(rK ch r _ T A λx W Y=>M x Y x (j.all.subset W) rfl)];rw[az V,zZ j H];rfl
structure Ow(S:Cf)(K:Kn)(u:Int)(s:St):Prop where
 e0:0<=s.ep
 e1:s.ep<=K.a.length
 mr:s.mark<=0
 c0:∀i,(s.ct i).kd=0->s.ct i=no
 rt:∀a,Lk S.n S.ce (u/S.m) a->(s.ct (cell S.n a)).kd≠0->Iy S K u a (s.ct (cell S.n a)) s.ep
structure Vi(K:Kn)(s:VS):Prop where
 b0:∀e,0<=(s.E e).ba
 bp:∀e,(s.E e).ba<=(s.E e).pr
 f:∀e,0<(s.E e).ba->K.b e (s.E e).ba (s.E e).val
 lt:s.lt<=K.a.length
def Ow.L(h:Ow S K u s)(k:mE S K K'):Ow S K' u s:=⟨h.e0,by have:=h.e1;have:=k.len;omega,h.mr,h.c0,λa j y=>(h.rt a j y).L k⟩
def Vi.L{s:VS}(h:Vi K s)(k:mE S K K'):Vi K' s:=⟨h.b0,h.bp,λe j=>k.f _ _ _ (h.f e j),by have:=h.lt;have:=k.len;omega⟩
structure Kw(S:Cf)(K:Kn):Prop extends Kv S K where
 sd:∀u,nN S.n S.m u->Ow S K u (K.D u)
 vd:∀q,n9 S.v q->Vi K (K.c q)
 va:∀q e,n9 S.v q->0<((K.c q).E e).ba->K.d q e ((K.c q).E e).ba
def Ok(S:Cf)(a:Int):Prop:=0<=a/\a<S.n*S.ce
def uW(S:Cf)(K:Kn)(a:Int)(t:Ct):Prop:=(t.kd≠0/\Ok S a)/\∃e,K.In e/\∀u∈K.C S e a,K.zp S u a t/\e<=(K.D u).ep
def XO(S:Cf)(K:Kn)(F:Int->St)(a:Int):Prop:=∃e,K.In e/\(∀u∈K.C S e a,(F u).ep<=e)/\∃u∈K.C S e a,((F u).ct (cell S.n a)).kd=0
def Gu(S:Cf)(K:Kn)(ij:Ct)(a:Int):Prop:=(∀e0,¬K.P0 ij a e0)\/(Ok S a/\∃e',K.In e'/\(∀e0,K.P0 ij a e0->e0<=e')/\∃g l,K.C S e' a=g::l/\(K.D g).ct (cell S.n a)≠ij/\((K.D g).ct (cell S.n a)).kd≠0)
def uW.L{a:Int}(h:uW S K a t)(k:mE S K K'):uW S K' a t:=by obtain⟨y,e,A,H⟩:=h;refine⟨y,e,A.L k,λu j=>?_⟩;rw[k.C A]at j;exact⟨(H u j).1.L y.1 k,bt (H u j).2 (k.d u).ep⟩
def XO.L{a:Int}(h:XO S K F a)(k:mE S K K'):XO S K' F a:=by obtain⟨e,j,y,A⟩:=h;exact⟨e,j.L k,by rw[k.C j];exact y,by rw[k.C j];exact A⟩
theorem Gu.L{a:Int}(h:Gu S K ij a)(k:mE S K K')(y:∀e,K'.P0 ij a e->K.P0 ij a e):Gu S K' ij a:=by
 obtain h|⟨H,e',A,L,g,l,M,V,T⟩:=h
 .exact .inl λj x=>h j (y j x)
 refine .inr ⟨H,e',A.L k,λj x=>L j (y j x),g,l,by rw[k.C A];exact M,?_⟩;rw[(k.d g).ct _ T]
 grind
def uW.eq{a:Int}{t':Ct}(M:Kv S K)(h:uW S K a t)(W:uW S K a t'):t=t':=by
 have j:∀{t t':Ct} {e e':Int},K.In e->K.In e'->e<=e'->(∀u∈K.C S e a,K.zp S u a t/\e<=(K.D u).ep)->(∀u∈K.C S e' a,K.zp S u a t'/\e'<=(K.D u).ep)->t=t':=fun{t t' e e'} Y T L H Z=>by obtain⟨g,l,hg⟩:=bQ (M.ne T a);have m:g∈K.C S e' a:=J1 hg;exact((H g ((M.IU T Y.1 L a).subset m)).1).symm.H (Z g m).1
 obtain⟨_,e,V,H⟩:=h;obtain⟨_,e',y,A⟩:=W;by_cases L:e<=e'
 .exact j V y L H A
 exact(j y V C A H).symm
def Gu.no{a:Int}(j:Kw S K)(h:Gu S K ij a)(hf:uW S K a ij):False:=by
 obtain⟨⟨hk,Y⟩,Z,H,h1⟩:=hf;obtain⟨T,l2,V⟩:=bQ (j.ne H a);have L:T∈K.C S Z a:=J1 V;have M:=(h1 T L).1;have A:=(j.sd T (j.un H L)).rt a (j.T H L Y.1 Y.2) (by unfold Kn.zp at M;rw[M];exact hk);unfold Kn.zp at M;rw[M]at A;obtain⟨e0,e1,l1,l3,A⟩:=A;obtain h|⟨_,e',y,h3,g,l,g1,g3,_⟩:=h
 .exact h e0 A.p
 have h4:=h3 e0 A.p;have mg:g∈K.C S e' a:=J1 g1;by_cases hl:Z<=e'
 .exact g3 (h1 g ((j.IU y H.1 hl a).subset mg)).1
 obtain⟨g',l',W,q2⟩:=A.SH j.toKv h4 y.2 ((j.IU H y.1 C a).subset L);rw[g1]at W;simp at W;obtain q2|q2:=q2
 .simp_all
 exact g3 (jf W.1 q2)
theorem XO.no{a:Int}(H:Kv S K)(h:XO S K F a)(Y:uW S (K.kY F) a t):False:=by
 obtain⟨e,T,Z,u,hu,hk⟩:=h;obtain⟨h0,L,y,V⟩:=Y;have j:=y;by_cases hl:L<=e
 .have:(F u).ct _=t:=(V u ((H.IU T y.1 hl a).subset hu)).1
  grind
 obtain⟨A,l',M⟩:=bQ (H.ne j a);have W:A∈K.C S L a:=J1 M;have:L<=(F A).ep:=(V A W).2;have:=Z A ((H.IU j T.1 C a).subset W);omega
end
abbrev Fl:=Int->St
abbrev Jq:=Nat->Int->Ct->Int->Int->Prop
def xU(S:Cf)(K:Kn)(F:Fl)(u:Int)(r:Rq)(A:An):Prop:=
 ∃s0,s0.mark<=0/\xb (F u) s0/\A=(mh S.n S.m S.v S.ce (u/S.m) s0 r).1/\Ow S K u (mh S.n S.m S.v S.ce (u/S.m) s0 r).2/\xb (mh S.n S.m S.v S.ce (u/S.m) s0 r).2 (K.D u)
structure Ul(S:Cf)(K:Kn)(u:Int)(r:Rq):Prop where
 e0:0<=r.ep
 e1:r.ep<=K.a.length
 w:r.kd=2->Lk S.n S.ce (u/S.m) r.pl/\Iy S K u r.pl r.ct r.ep
structure OG(S:Cf)(K:Kn)(F:Fl)(E:Int)(ij:Ct):Prop where
 kd:ij.kd≠0
 cl:ij.cl≠0
 pe:∀a e,K.P0 ij a e->e<=E
 pu:∀t a e,K.P0 t a e->t.cl=ij.cl->t.ca=ij.ca->t=ij
 fn:∀u a,nN S.n S.m u->Lk S.n S.ce (u/S.m) a->(F u).ct (cell S.n a)≠ij
structure Cb(S:Cf)(K:Kn)(F:Fl)(J:Jq)(id E:Int)(c:jn):Prop where
 kd:c.kind=1\/c.kind=2\/c.kind=5
 oc:c.ij.cl=id/\c.ij.ca=c.gL
 st:J c.gL c.kind c.ij c.unit c.iA
 fl:∀u,xb (F u) (K.D u)
 ow:c.kind=1->OG S K F E c.ij
 gu:c.kind=1->∀a,a≠c.iA->Gu S K c.ij a
 oa:c.kind=2->Ok S c.iA
structure ZL(S:Cf)(K:Kn)(F:Fl)(E:Int)(c:jn):Prop where
 kd:c.kind=1
 ok:Ok S c.iA
 pl:c.q.A.pl=c.iA
 ct:c.q.A.ct=c.ij
 co:c.d=c.ij
 kY:∃u l1 l2,K.C S E c.iA=l1++u::l2/\l1.length=c.b/\c.q.nodes=[u]/\∀x∈l1,K.zp S x c.iA c.ij/\E<=(K.D x).ep
 rt:0<c.b->∃e0,IF S K c.iA c.ij E e0
 p0:K.P0 c.ij c.iA E
structure ZM(S:Cf)(K:Kn)(F:Fl)(E:Int)(c:jn):Prop where
 kd:c.kind=2
 pl:c.q.A.pl=c.iA
 nd:c.q.nodes=K.C S E c.iA
 an:∀z∈c.q.D,z.2.wh≠5/\xU S K F z.1 c.q.A z.2
structure rG(S:Cf)(K:Kn)(F:Fl)(J:Jq)(id E:Int)(c:jn):Prop extends Cb S K F J id E c where
 g1:c.kind=1->c.q.nodes=[]->Gu S K c.ij c.iA
 o1:c.kind=1->c.q.nodes≠[]->Ok S c.iA/\∃e,K.P0 c.ij c.iA e
 mK:c.kind=2->c.q.nodes≠[]
 a5:c.kind=5->c.q.nodes=[]
 qk:c.q.nodes≠[]->c.q.A.kd=2\/c.q.A.kd=3
 ep:c.q.nodes≠[]->c.q.A.ep=E
 q2:c.q.nodes≠[]->c.q.A.kd=2->ZL S K F E c
 q3:c.q.nodes≠[]->c.q.A.kd=3->ZM S K F E c
def Qf(S:Cf)(K:Kn)(F:Fl)(kind:Int)(ij:Ct)(unit iA:Int)(r:Rz):Prop:=
 (kind=1/\ij.kd≠0/\((r=⟨1,iA,[]⟩/\uW S K iA ij/\∀a,a≠iA->Gu S K ij a)\/(r=⟨7,0,[]⟩/\K.Fu ij/\∀a,Gu S K ij a)))\/
 (kind=2/\Ok S iA/\((∃t,r=Cx.vh t/\uW S K iA t)\/(r=⟨3,0,[]⟩/\XO S K F iA)))\/
 (kind=5/\((r=⟨1,0,[]⟩/\∃e,K.In e/\unit∉(K.lay e).getD (unit/S.m).toNat [])\/(r=⟨6,0,[]⟩/\∃e,K.In e/\(K.lay e).getD (unit/S.m).toNat []=[unit])))
def Sy(S:Cf)(K:Kn)(F:Fl)(J:Jq)(id:Int)(k:Nat)(r:Rz):Prop:=∃kind ij unit iA,J k kind ij unit iA/\(ij.cl=id/\ij.ca=k)/\Qf S K F kind ij unit iA r
section
variable{S:Cf}{K K':Kn}{F:Fl}{J J':Jq}{id:Int}
def xU.L{A:An}(h:xU S K F u r A)(k:mE S K K'):xU S K' F u r A:=by obtain⟨j,y,H,L,M,T⟩:=h;exact⟨j,y,H,L,M.L k,T.H (k.d u)⟩
def Ul.L(h:Ul S K u r)(k:mE S K K'):Ul S K' u r:=⟨h.e0,by have:=h.e1;have:=k.len;omega,λe=>⟨(h.w e).1,(h.w e).2.L k⟩⟩
def uT(K K':Kn)(cl ca:Int):Prop:=∀t a e,t.cl=cl->t.ca=ca->K'.P0 t a e->K.P0 t a e
def uT.refl(K)(cl ca):uT K K cl ca:=λ_ _ _ _ _ h=>h
def OG.L(h:OG S K F E ij)(j:uT K K' ij.cl ij.ca)(H:E<=E'):OG S K' F E' ij:=
 ⟨h.kd,h.cl,λa e x=>bt (h.pe a e (j _ _ _ rfl rfl x)) H,λt a e x y A=>h.pu t a e (j _ _ _ y A x) y A,h.fn⟩
def Cb.L(h:Cb S K F J id E c)(k:mE S K K')(y:uT K K' id c.gL)(A:∀a b c d e,J a b c d e->J' a b c d e)(M:E<=E'):Cb S K' F J' id E' c:=by
 obtain⟨T,V⟩:=h.oc;have j:uT K K' c.ij.cl c.ij.ca:=by rw[T,V];exact y
 exact⟨h.kd,h.oc,A _ _ _ _ _ h.st,λu=>(h.fl u).H (k.d u),λe=>(h.ow e).L j M,λe a W=>(h.gu e a W).L k λe' x=>j _ _ _ rfl rfl x,h.oa⟩
def rG.L(h:rG S K F J id E c)(k:mE S K K')(A:K.In E)(j:uT K K' id c.gL)(W:∀a b c d e,J a b c d e->J' a b c d e):rG S K' F J' id E c:=by
 obtain⟨Y,Z⟩:=h.oc;have H:uT K K' c.ij.cl c.ij.ca:=by rw[Y,Z];exact j
 refine⟨h.toCb.L k j W iG,λe e'=>(h.g1 e e').L k λe' x=>H _ _ _ rfl rfl x,λe e'=>⟨(h.o1 e e').1,(h.o1 e e').2.elim λx y=>⟨x,k.p0 _ _ _ y⟩⟩,h.mK,h.a5,h.qk,h.ep,λe e'=>?_,λe e'=>?_⟩
 .have w:=h.q2 e e';obtain⟨u,l1,l2,w1,w2,w3,M⟩:=w.kY;exact⟨w.kd,w.ok,w.pl,w.ct,w.co,⟨u,l1,l2,by rw[k.C A];exact w1,w2,w3,λx T=>⟨(M x T).1.L (h.ow w.kd).kd k,bt (M x T).2 (k.d x).ep⟩⟩,λj=>(w.rt j).imp λe0 hr=>hr.L k A.2,k.p0 _ _ _ w.p0⟩
 have w:=h.q3 e e';exact⟨w.kd,w.pl,by rw[k.C A];exact w.nd,λz V=>⟨(w.an z V).1,(w.an z V).2.L k⟩⟩
def Qf.L{kind:Int}{A T:Int}{r:Rz}(h:Qf S K F kind ij A T r)(k:mE S K K')(W:uT K K' ij.cl ij.ca):Qf S K' F kind ij A T r:=by
 have V:∀a,Gu S K ij a->Gu S K' ij a:=λa g=>g.L k λe' x=>W _ _ _ rfl rfl x;obtain⟨H,M,⟨y,j,Y⟩|⟨y,j,L⟩⟩|⟨H,M,⟨t,y,j⟩|⟨j,L⟩⟩|⟨H,⟨y,e,j,L⟩|⟨y,e,j,L⟩⟩:=h
 .exact .inl ⟨H,M,.inl ⟨y,j.L k,λa Z=>V a (Y a Z)⟩⟩
 .exact .inl ⟨H,M,.inr ⟨y,k.fu _ j,λa=>V a (L a)⟩⟩
 .exact .inr (.inl ⟨H,M,.inl ⟨t,y,j.L k⟩⟩)
 .exact .inr (.inl ⟨H,M,.inr ⟨j,L.L k⟩⟩)
 .exact .inr (.inr ⟨H,.inl ⟨y,e,j.L k,by rw[k.lay j];exact L⟩⟩)
 exact .inr (.inr ⟨H,.inr ⟨y,e,j.L k,by rw[k.lay j];exact L⟩⟩)
theorem Sy.L{n:Nat}{r:Rz}(h:Sy S K F J id n r)(k:mE S K K')(T:uT K K' id n)(y:∀a b c d e,J a b c d e->J' a b c d e):Sy S K' F J' id n r:=by obtain⟨kind,ij,j,A,H,L,M⟩:=h;exact⟨kind,ij,j,A,y _ _ _ _ _ H,L,M.L k (by grind)⟩
def Ow.D(h:Ow S K u s)(y:Ul S K u r)(hk:r.kd=1\/r.kd=2\/r.kd=3)(V:r.kd=2->tE r.ct.kd r.ct.val.length=true):Ow S K u (mh S.n S.m S.v S.ce (u/S.m) s r).2:=by
 have L:¬r.ep<s.ep->Ow S K u ⟨r.ep,s.mark,s.ct⟩:=λhe=>⟨y.e0,y.e1,h.mr,h.c0,λa H hk=>(h.rt a H hk).up (by show s.ep<=r.ep;omega)⟩;obtain hk|hk|hk:=hk
 .have e:mh S.n S.m S.v S.ce (u/S.m) s r=rb s r.ep:=by unfold mh;rw[hk];rfl
  rw[e];unfold rb;split
  .exact h
  exact L (by assumption)
 .by_cases W:(mh S.n S.m S.v S.ce (u/S.m) s r).1.wh=5
  .rw[(Yx W).2];exact h
  obtain⟨Y,Z⟩:=CJ S.ok hk (y.w hk).1 h.mr (V hk) W;obtain⟨_,_,M⟩|⟨M,_⟩:=Z
  .rw[M];refine⟨y.e0,y.e1,h.mr,λi hi=>?_,λa H T=>?_⟩
   .show(if i=_ then _ else _)=no;have j:(if i=cell S.n r.pl then r.ct else s.ct i).kd=0:=hi;split
    .rename_i q;rw[aE q]at j;exact absurd j (J7 (V hk))
    rename_i q;rw[az q]at j;exact h.c0 i j
   show Iy S K u a (if cell S.n a=cell S.n r.pl then r.ct else s.ct _) r.ep;have A:(if cell S.n a=cell S.n r.pl then r.ct else s.ct (cell S.n a)).kd≠0:=T;by_cases q:cell S.n a=cell S.n r.pl
   .have e1:=H.eq;have e2:=(y.w hk).1.eq;rw[q]at e1;have e3:a=r.pl:=C;rw[aE q,e3];exact(y.w hk).2
   rw[az q]at A|-;exact(h.rt a H A).up Y
  rw[M];exact L C
 have e:mh S.n S.m S.v S.ce (u/S.m) s r=qn S.n S.m S.v S.ce (u/S.m) s r.ep r.pl:=by unfold mh;rw[hk];rfl
 rw[e];unfold qn;split
 .exact h
 exact L (by assumption)
theorem rG.A(h:rG S K F J id E c)(Y:Kv S K)(L:K.In E)(H:u∈c.q.nodes):Ul S K u c.q.A:=by
 have j:=bM H;have Z:=h.ep j;have h1:=L.1;have T:=L.2;refine⟨C,C,λhk=>?_⟩;have w:=h.q2 j hk;obtain⟨x,l1,l2,M,w2,w3,w4⟩:=w.kY;rw[w3]at H;simp at H;subst H;rw[w.pl,w.ct,Z];refine⟨Y.T L (by grind) w.ok.1 w.ok.2,?_⟩
 cases l1 with
 |nil=>exact⟨E,E,[],l2,(h.ow w.kd).kd,h1,iG,iG,T,w.p0,M,bz,λe' V W=>⟨u,l2,by rw[show e'=E by omega];exact M,.inl rfl⟩⟩
 |cons y l1=>
  obtain⟨e0,A⟩:=w.rt (by grind);exact⟨e0,E,y::l1,l2,A.kd,A.z0,A.z1,iG,T,A.p,M,λx hx=>(w4 x hx).1,λe' V W=>by
   obtain⟨g,l,g1,g2⟩:=A.hd e' V W
   exact⟨g,l,g1,.inr g2⟩⟩
end
structure XB(S:Cf)(K:Kn)(X:Cx):Prop where
 n:X.n=S.n
 m:X.m=S.m
 v:X.vo=S.v
 c:X.ce=S.ce
 e:K.In X.b
 l:X.lay=K.lay X.b
inductive vC(S:Cf)(K:Kn)(F:Fl)(J:Jq)(X:Cx)(c:jn)(X':Cx):Prop
 |put (c':jn) (a:Int) (hn:c'.gL=c.gL) (e:X'=({X with gJ:=a}:Cx).put c') (hc:rG S K F J X.id X.b c') (hq:(a=X.gJ/\(c'.q.nodes=[]\/(c'.q.A=c.q.A/\c'.q.nodes=c.q.nodes)))\/(a=X.gJ+1/\c'.q.A.nr=X.gJ+1))
 |fin (r:Rz) (e:X'=X.fin c r) (hr:Sy S K F J X.id c.gL r) (hw:r.wh≠0)
def Kn.DQ(K:Kn)(t:Ct)(a e:Int):Kn:={K with P0:=λt' a' e'=>K.P0 t' a' e'\/(t'=t/\a'=a/\e'=e)}
section
variable{S:Cf}{K K':Kn}{F:Fl}{J J':Jq}
def XB.chain(h:XB S K X)(a):X.chain a=K.C S X.b a:=by unfold Cx.chain Kn.C;rw[h.l,h.n]
def Lz(t)(a e):mE S K (K.DQ t a e):=⟨⟨[],by simp[Kn.DQ]⟩,λ_=>xb.refl ..,λ_ _=>BJ.refl _,λ_ _ _ h=>h,λ_ _ _ h=>.inl h,λ_ _ _ h=>h,λ_ _=>⟨rfl,rfl⟩,λ_ _ _ h=>.inl h,λ_ h=>h⟩
def Uo{a j ca:Int}(h:¬(j=t.cl/\ca=t.ca)):uT K (K.DQ t a e) j ca:=λA H e' L M y=>by obtain y|⟨rfl,_⟩:=y;all_goals omega
theorem U8{a:Int}(h:Kw S K)(Z:∀y M e',K.P0 y M e'->y.cl=t.cl->y.ca=t.ca->y=t):Kw S (K.DQ t a e):=by
 have H:mE S K _:=Lz t a e;refine⟨⟨h.l0,h.ls,h.lc,h.f,h.au,h.av,λt1 t2 a1 a2 e1 e2 A j T V=>?_⟩,λu W=>(h.sd u W).L H,λq Y=>(h.vd q Y).L H,h.va⟩;obtain A|⟨rfl,_,_⟩:=A
 .obtain j|⟨rfl,_,_⟩:=j
  .exact h.pu _ _ _ _ _ _ A j T V
  grind
 obtain j|⟨rfl,_,_⟩:=j
 .grind
 rfl
def Cb.A{id:Int}(h:Cb S K F J id E c)(j:c'.kind=c.kind)(y:c'.ij=c.ij)(H:c'.gL=c.gL)(L:c'.unit=c.unit)(A:c'.iA=c.iA):Cb S K F J id E c':=
 ⟨by rw[j];exact h.kd,by rw[y,H];exact h.oc,by rw[j,y,H,L,A];exact h.st,h.fl,by rw[j,y];exact h.ow,by rw[j,y,A];exact h.gu,by rw[j,A];exact h.oa⟩
def zK(h:Cb S K F J X.id X.b c){nodes:List Int}{kd pl:Int}(j:nodes≠[])(y:c.kind≠5)(A:c.kind=1->Ok S c.iA/\∃e,K.P0 c.ij c.iA e)(H:kd=2\/kd=3)(L:kd=2->ZL S K F X.b {c with q:=Qn.new nodes ⟨kd,c.a,X.gJ+1,X.b,pl,t⟩})(M:kd=3->ZM S K F X.b {c with q:=Qn.new nodes ⟨kd,c.a,X.gJ+1,X.b,pl,t⟩}):vC S K F J X c (X.mK c nodes kd pl t):=
 .put {c with q:=Qn.new nodes ⟨kd,c.a,X.gJ+1,X.b,pl,t⟩} _ rfl rfl ⟨h.A rfl rfl rfl rfl rfl,λ_ e=>absurd e j,λe _=>A e,λ_=>j,λe=>absurd e y,λ_=>H,λ_=>rfl,λ_ e=>L e,λ_ e=>M e⟩ (.inr ⟨rfl,rfl⟩)
theorem JW(H:XB S K X)(h:Cb S K F J X.id X.b c)(j:c.kind=1)(L:Ok S c.iA)(W:c.d=c.ij)(y:∀x∈l1,K.zp S x c.iA c.ij/\X.b<=(K.D x).ep)(Z:∃e0,IF S K c.iA c.ij X.b e0)(Y:K.P0 c.ij c.iA X.b)(A:K.C S X.b c.iA=l1++l2)(hl:l1.length=c.b+1):vC S K F J X c (X.kg c):=by
 unfold Cx.kg;rw[H.chain,A]
 cases l2 with
 |cons u l2=>
  rw[aE ik];unfold Cx.lK;have hn:({c with b:=c.b+1}:jn).iA=c.iA:=rfl;rw[H.chain,hn,A];have hg:(l1++u::l2).getD (c.b+1) 0=u:=by grind
  rw[hg];have hs:=zK (c:={c with b:=c.b+1}) (X:=X) (nodes:=[u]) (kd:=2) (pl:=c.iA) (t:=c.d) (h.A rfl rfl rfl rfl rfl) bz (qH j) (λ_=>⟨L,_,Y⟩) (.inl rfl) (λ_=>⟨j,L,rfl,W,W,⟨u,l1,l2,A,hl,rfl,y⟩,λ_=>Z,Y⟩) λe=>absurd e bT;obtain⟨c',a,M,T,V,h4⟩|⟨r,M,T,V⟩:=hs
  .exact .put c' a M T V h4
  exact .fin r M T V
 |nil=>rw[az ik];simp at A;exact .fin _ rfl ⟨c.kind,c.ij,c.unit,c.iA,h.st,h.oc,.inl ⟨j,(h.ow j).kd,.inl ⟨rfl,⟨⟨(h.ow j).kd,L⟩,X.b,H.e,jf A y⟩,h.gu j⟩⟩⟩ (show(1:Int)≠0 by decide)
def LI(W:XB S K X)(Y:Kw S K)(h:Cb S K F J X.id X.b c)(h5:c.kind≠5)(ho:c.kind=1->Ok S c.iA):∃K',mE S K K'/\Kw S K'/\(∀M T:Int,¬(M=X.id/\T=c.gL)->uT K K' M T)/\K'.b=K.b/\K'.a=K.a/\(∀t a e,K'.P0 t a e->K.P0 t a e\/(t=c.ij/\a=c.iA/\c.kind=1))/\K'.D=K.D/\K'.Fu=K.Fu/\K'.c=K.c/\K'.d=K.d/\vC S K' F J X c (X.dO c):=by
 obtain⟨g,l,Z⟩:=bQ (Y.ne W.e c.iA);unfold Cx.dO;by_cases j:c.kind=1
 .rw[aE j];have A:=h.ow j;have kl:mE S K (K.DQ c.ij c.iA X.b):=Lz _ _ _;have V:=ho j;refine⟨K.DQ c.ij c.iA X.b,kl,U8 Y A.pu,λM T a0=>Uo (by rw[h.oc.1,h.oc.2];exact a0),rfl,rfl,?_,rfl,rfl,rfl,rfl,?_⟩
  .rintro t a e (x|⟨x,y,_⟩)
   .exact .inl x
   exact .inr ⟨x,y,j⟩
  have a1:Cb S (K.DQ c.ij c.iA X.b) F J X.id X.b c:=by
   refine⟨h.kd,h.oc,h.st,h.fl,λ_=>⟨A.kd,A.cl,?_,?_,A.fn⟩,λhk a ha=>(h.gu hk a ha).L kl ?_,h.oa⟩
   .rintro a e (x|⟨_,_,rfl⟩)
    .exact A.pe a e x
    exact iG
   .rintro t a e (x|⟨rfl,_,_⟩) j H
    .exact A.pu t a e x j H
    rfl
   rintro e (x|⟨_,y,_⟩)
   .exact x
   exact absurd y ha
  unfold Cx.lK;have hn:({c with d:=c.ij,b:=0}:jn).iA=c.iA:=rfl;rw[W.chain,hn,Z];have hs:=zK (c:={c with d:=c.ij,b:=0}) (X:=X) (nodes:=[g]) (kd:=2) (pl:=c.iA) (t:=c.ij) (a1.A rfl rfl rfl rfl rfl) bz h5 (λ_=>⟨V,X.b,.inr ⟨rfl,rfl,rfl⟩⟩) (.inl rfl) (λ_=>⟨j,V,rfl,rfl,rfl,⟨g,[],l,Z,rfl,rfl,bz⟩,λe=>absurd (show 0<0 from e) bT,.inr ⟨rfl,rfl,rfl⟩⟩) λe=>absurd e bT;obtain⟨c',a,j,H,h3,h4⟩|⟨r,j,H,h3⟩:=hs
  .exact .put c' a j H h3 h4
  exact .fin r j H h3
 have H:c.kind=2:=by have:=h.kd;omega
 rw[az j,aE H];refine⟨K,mE.refl ..,Y,λM T _=>uT.refl K M T,rfl,rfl,λ_ _ _ h=>.inl h,rfl,rfl,rfl,rfl,?_⟩;unfold Cx.qI;rw[W.chain];exact zK h (om Z) h5 (λe=>absurd e j) (.inr rfl) (λe=>absurd e bT) λ_=>⟨H,rfl,rfl,by simp[Qn.new]⟩
end
inductive X7(S:Cf)(K:Kn)(F:Fl)(u:Int)(r:Rq)(A:An):Prop
 |oy (h:A.wh=1) (hk:r.kd=2) (hh:K.zp S u r.pl r.ct) (hr:Iy S K u r.pl r.ct r.ep)
 |some (h:A.wh=2) (hk:A.ct.kd≠0) (hh:K.zp S u r.pl A.ct) (hr:Iy S K u r.pl A.ct r.ep)
 |none (h:A.wh=3) (hk:r.kd=3) (hf:((F u).ct (cell S.n r.pl)).kd=0)
section
variable{S:Cf}{K K':Kn}{F:Fl}{J J':Jq}
theorem xU.Yc{A:An}(h:xU S K F u r A)(h5:A.wh≠5)(Z:Lk S.n S.ce (u/S.m) r.pl)(H:r.kd=3\/(r.kd=2/\tE r.ct.kd r.ct.val.length=true)):(r.ep<=(K.D u).ep/\(F u).ep<=r.ep)/\X7 S K F u r A:=by
 obtain⟨y,hm,h1,V,h3,L⟩:=h;have r9:(mh S.n S.m S.v S.ce (u/S.m) y r).2=⟨r.ep,y.mark,y.ct⟩->(y.ct (cell S.n r.pl)).kd≠0->K.zp S u r.pl (y.ct (cell S.n r.pl))/\Iy S K u r.pl (y.ct (cell S.n r.pl)) r.ep:=λe H=>by rw[e]at h3 L;exact⟨L.ct _ H,h3.rt _ Z H⟩
 obtain H|⟨H,hc⟩:=H
 .obtain⟨a1,a2,a3⟩:=Sq (s:=y) S.ok H Z hm (j9 V h5);rw[<-V]at a3;refine⟨⟨by have:=L.ep;rwa[a2]at this,bt h1.ep a1⟩,?_⟩
  cases a3 with
  |none t1 M=>refine .none t1 H (bk λhn=>?_);rw[h1.ct _ hn]at M;exact hn M
  |some t1 M t4=>exact .some t1 (jf t4 M) (by rw[t4];exact(r9 a2 M).1) (by rw[t4];exact(r9 a2 M).2)
 obtain⟨a1,⟨b1,b2,T⟩|⟨b1,b2,b3,T⟩⟩:=CJ (s:=y) S.ok H Z hm hc (j9 V h5)
 .rw[T]at h3 L;have W:(⟨r.ep,y.mark,λj=>if j=cell S.n r.pl then r.ct else y.ct j⟩:St).ct (cell S.n r.pl)=r.ct:=aE rfl;have Y:((⟨r.ep,y.mark,λj=>if j=cell S.n r.pl then r.ct else y.ct j⟩:St).ct (cell S.n r.pl)).kd≠0:=by rw[W];exact J7 hc
  refine⟨⟨L.ep,bt h1.ep a1⟩,.oy (jf V b1) H ?_ ?_⟩
  .have:=L.ct _ Y;rwa[W]at this
  have:=h3.rt _ Z Y
  grind
 rw[<-V]at b2 T;exact⟨⟨by have:=L.ep;rwa[b1]at this,bt h1.ep a1⟩,.some b2 (jf T b3) (by rw[T];exact(r9 b1 b3).1) (by rw[T];exact(r9 b1 b3).2)⟩
def vC.A(h:vC S K F J X c X')(j:c'.gL=c.gL)(L:c'.q=c.q):vC S K F J X c' X':=by
 obtain⟨d,a,y,A,H,M⟩|⟨r,y,A,H⟩:=h
 .exact .put d a (y.H j.symm) A H (jf L M)
 exact .fin r (by rw[y];unfold Cx.fin;rw[j]) (jf j A) H
def MH(h:rG S K F J X.id X.b c):vC S K F J X c (X.put c):= .put c X.gJ rfl rfl h (.inl ⟨rfl,.inr ⟨rfl,rfl⟩⟩)
def Ma(h:Cb S K F J X.id X.b c)(j:c.kind=1)(y:Gu S K c.ij c.iA):vC S K F J X c (X.put {c with q:=Qn.zero}):=
 .put {c with q:=Qn.zero} X.gJ rfl rfl ⟨h.A rfl rfl rfl rfl rfl,λ_ _=>y,λ_ e=>absurd rfl e,λe=>by
  have e':=e
  rw[j]at e';exact absurd e' bz,λ_=>rfl,λe=>absurd rfl e,λe=>absurd rfl e,λe=>absurd rfl e,λe=>absurd rfl e⟩ (.inl ⟨rfl,.inl rfl⟩)
theorem JB(hb:XB S K X)(kw:Kw S K)(h:rG S K F J X.id X.b c){A:An}(hu:u∈c.q.nodes)(hk:c.q.A.kd=2)(ha:xU S K F u c.q.A A)(h5:A.wh≠5)(hC:tE c.d.kd c.d.val.length=true){c1:jn}(j:c1={c with q:=c.q.add u A}):vC S K F J X c1 (X.oy c1 A):=by
 have a0:c.q.nodes≠[]:=bM hu;have w:=h.q2 a0 hk;have hE:=hb.e;obtain⟨u',l1,l2,w1,w2,w3,w4⟩:=w.kY;have eu:u=u':=by rw[w3]at hu;simpa using hu
 subst eu;have L:u∈K.C S X.b c.iA:=om w1;obtain⟨⟨s1,s2⟩,hs⟩:=ha.Yc h5 ((h.A kw.toKv hE hu).w hk).1 (.inr ⟨hk,by rw[w.ct,<-w.co];exact hC⟩);have a3:=h.ow w.kd;have T:=h.ep a0;rw[T]at s1 s2;have a4:Cb S K F J X.id X.b c1:=h.toCb.A (mT j) (mT j) (mT j) (mT j) (mT j);have k1:c1.kind=c.kind/\c1.iA=c.iA/\c1.b=c.b/\c1.d=c.d/\c1.ij=c.ij:=by rw[j];exact⟨rfl,rfl,rfl,rfl,rfl⟩
 obtain⟨e1,e2,e3,e4,V⟩:=k1;have a5:K.zp S u c.iA c.ij->Iy S K u c.iA c.ij X.b->∀t,t=c.ij->vC S K F J X c1 (X.kg {c1 with d:=t}):=λhh W t ht=>by
  refine(JW (c:={c1 with d:=t}) hb (a4.A rfl rfl rfl rfl rfl) (e1.H w.kd) (by show Ok S c1.iA;rw[e2];exact w.ok) (ht.H V.symm) (l1:=l1++[u]) (l2:=l2) (λx hx=>?_) ?_ (by show K.P0 c1.ij c1.iA _;rw[V,e2];exact w.p0) (by show K.C S X.b c1.iA=_;rw[e2,w1];simp) (by show _=c1.b+1;rw[e3];simp[w2])).A rfl rfl
  .show K.zp S x c1.iA c1.ij/\_;rw[e2,V];obtain hx|hx:=aT.1 hx
   .exact w4 x hx
   simp at hx;subst hx;exact⟨hh,s1⟩
  show∃e0,IF S K c1.iA c1.ij X.b e0;rw[e2,V];exact W.root kw.toKv hE L hh
 unfold Cx.oy
 cases hs with
 |oy q1 q2 M Y=>rw[aE q1];rw[w.pl,w.ct,T]at Y;rw[w.pl,w.ct]at M;have:=a5 M Y c.d w.co;rwa[<-e4]at this
 |some q1 q2 M Y=>
  rw[az (qH q1),aE q1];rw[w.pl,T]at Y;rw[w.pl]at M;unfold Cx.pO;by_cases H:Cx.jH c1 A.ct=false
  .rw[aE H];refine Ma a4 (e1.H w.kd) ?_;rw[V,e2];have a6:A.ct≠c.ij:=λe=>by unfold Cx.jH at H;rw[V,e]at H;simp at H
   have a7:l1=[]:=by
    cases l1 with
    |nil=>rfl
    |cons y l1=>
     exfalso;obtain⟨e0,a9,aa,ab,W⟩:=Y;have a1:=W.Xl;have a2:=W.z1;obtain⟨g,l,g1,g2⟩:=W.SH kw.toKv (e':=X.b) C hE.2 L;have a8:(y::l1++u::l2).Nodup:=by rw[<-w1];exact kw.nd hE c.iA
     rw[w1]at g1;simp at g1;obtain g2|g2:=g2
     .have:y=u:=by rw[<-g2];exact g1.1
      subst this;simp at a8
     rw[<-g1.1]at g2;exact a6 (g2.symm.H (w4 y (aN ..)).1)
   subst a7;unfold Kn.zp at M;exact .inr ⟨w.ok,X.b,hE,λe0 x=>a3.pe _ _ x,u,l2,w1,jf M a6,jf M q2⟩
  rw[az H];have Z:A.ct=c.ij:=by unfold Cx.jH at H;rw[V]at H;simp at H;obtain⟨e0,_,_,_,W⟩:=Y;exact a3.pu _ _ _ W.p H.1 H.2
  exact a5 (j9 Z M) (j9 Z Y) _ Z
 |none q1 q2 _=>rw[hk]at q2;exact absurd q2 bT
end
structure py{α:Type}(q:Qn α):Prop where
 nd:q.nodes.Nodup
 ai:∀z∈q.D,z.1∈q.nodes
 an:(q.D.map (·.1)).Nodup
def py.of{α:Type}{R:Rq->Prop}{j:α->Prop}{q:Qn α}(h:QK R j iQ q):py q:=⟨h.nd,h.ai,h.an⟩
def py.le{α:Type}{q:Qn α}(h:py q):q.D.length<=q.nodes.length:=by
 have:=oG h.an λx j=>by obtain⟨z,y,rfl⟩:=aD.1 j;exact h.ai z y
 simp_all
def py.all{α:Type}{q:Qn α}(h:py q)(j:q.nodes.length<=q.D.length)(y:u∈q.nodes):∃a,(u,a)∈q.D:=by
 have:=yf h.an (λx A=>by
  obtain⟨z,H,rfl⟩:=aD.1 A
  exact h.ai z H) (je j) y
 simp_all
def py.every{α:Type}{q:Qn α}(h:py q){j:α->Bool}(y:q.count j=q.nodes.length):q.nodes.length<=q.D.length/\∀z∈q.D,j z.2=true:=by have L:=h.le;unfold Qn.count at y;have M:=bF (λz:Int×α=>j z.2) q.D;have A:(q.D.filter λz=>j z.2).length=q.D.length:=C;exact⟨C,λz H=>eh.1 A z H⟩
theorem py.find{α:Type}{q:Qn α}(h:py q){a:α}(L:(u,a)∈q.D):q.D.find? (λz=>z.1==u)=some (u,a):=by
 cases e:q.D.find? (λz=>z.1==u)with
 |none=>exact absurd (bU.1 e _ L) bz
 |some z=>
  have S:=bu e;have M:=cR e;simp at M;have T:=h.an;congr 1;have A:∀(l:List (Int×α)),(l.map (·.1)).Nodup->∀x∈l,∀y∈l,x.1=y.1->x=y:=by
   intro l;induction l with
   |nil=>simp
   |cons w l V=>
    intro H x hx y hy j;simp only[bj,bY]at H;obtain rfl|hx:=bh.1 hx
    .simp_all
    obtain hy|hy:=bh.1 hy
    .exact absurd (aD.2 ⟨x,hx,kz j hy⟩) H.1
    exact V H.2 x hx y hy j
  exact A _ T z S (u,a) L M
section
variable{S:Cf}{K K':Kn}{F:Fl}{J J':Jq}
def rG.add{id:Int}(h:rG S K F J id E c){A:An}(j:xU S K F u c.q.A A)(y:A.wh≠5):rG S K F J id E {c with q:=c.q.add u A}:=by
 refine⟨h.toCb.A rfl rfl rfl rfl rfl,h.g1,h.o1,h.mK,h.a5,h.qk,h.ep,λe e'=>?_,λe e'=>?_⟩
 .have w:=h.q2 e e';exact⟨w.kd,w.ok,w.pl,w.ct,w.co,w.kY,w.rt,w.p0⟩
 have w:=h.q3 e e';refine⟨w.kd,w.pl,w.nd,λz hz=>?_⟩;obtain hz|hz:=aT.1 hz
 .exact w.an z hz
 simp at hz;subst hz;exact⟨y,j⟩
theorem GH(hb:XB S K X)(kw:Kw S K)(h:rG S K F J X.id X.b c){A:An}(hu:u∈c.q.nodes)(hk:c.q.A.kd=3)(ha:xU S K F u c.q.A A)(h5:A.wh≠5)(hq:py (c.q.add u A)):vC S K F J X {c with q:=c.q.add u A} (X.nV {c with q:=c.q.add u A}):=by
 have a0:c.q.nodes≠[]:=bM hu;have w:=h.q3 a0 hk;have hE:=hb.e;have H:=h.oa w.kd;have a4:=h.ep a0;have Z:=h.add ha h5;unfold Cx.nV;by_cases jt:(c.q.add u A).D.length<(c.q.add u A).nodes.length
 .rw[aE jt];exact MH Z
 rw[az jt];have a5:(c.q.add u A).nodes.length<=(c.q.add u A).D.length:=C;have L:∀{x:Int} {B:An},(x,B)∈(c.q.add u A).D->(X.b<=(K.D x).ep/\(F x).ep<=X.b)/\X7 S K F x c.q.A B:=fun{x B} W=>by have M:x∈c.q.nodes:=hq.ai _ W;obtain⟨b2,b3⟩:B.wh≠5/\xU S K F x c.q.A B:=(Z.q3 a0 hk).an (x,B) W;have:=b3.Yc b2 (by rw[w.pl];rw[w.nd]at M;exact kw.T hE M H.1 H.2) (.inl hk);rwa[a4]at this
 have j:∀x,x∈K.C S X.b c.iA->∃B,(x,B)∈(c.q.add u A).D:=λx M=>hq.all a5 (by show x∈c.q.nodes;rw[w.nd];exact M);by_cases y:(c.q.add u A).count (λa=>a.wh==2)=(c.q.add u A).nodes.length
 .rw[aE y];obtain⟨_,a6⟩:=hq.every y;obtain⟨g,l,hg⟩:=bQ (kw.ne hE c.iA);have T:∀x,x∈K.C S X.b c.iA->∃B:An,(x,B)∈(c.q.add u A).D/\B.ct.kd≠0/\K.zp S x c.iA B.ct/\Iy S K x c.iA B.ct X.b/\X.b<=(K.D x).ep:=λx M=>by
   obtain⟨B,W⟩:=j x M;obtain⟨b2,b3⟩:=L W;have a3:=a6 _ W;simp at a3
   cases b3 with
   |oy V=>rw[a3]at V;exact absurd V bT
   |some V q2 q3 q4=>rw[w.pl]at q3 q4;rw[a4]at q4;exact⟨B,W,q2,q3,q4,b2.1⟩
   |none V=>rw[a3]at V;exact absurd V bT
  obtain⟨B,W,b1,b2,b3,b5⟩:=T g (J1 hg);have Y:(((c.q.add u A).D.find? λz=>z.1==(c.q.add u A).nodes.headD 0).map λz=>z.2.ct).getD no=B.ct:=by
   have:(c.q.add u A).nodes.headD 0=g:=by show c.q.nodes.headD 0=g;rw[w.nd,hg];rfl
   rw[this,hq.find W];rfl
  show vC S K F J X _ (X.fin _ (Cx.vh ((((c.q.add u A).D.find? λz=>z.1==(c.q.add u A).nodes.headD 0).map λz=>z.2.ct).getD no)));rw[Y];refine .fin _ rfl ⟨c.kind,c.ij,c.unit,c.iA,h.st,h.oc,.inr (.inl ⟨w.kd,H,.inl ⟨B.ct,rfl,⟨b1,H⟩,X.b,hE,λx M=>?_⟩⟩)⟩ b1;obtain⟨B',a8,d1,d2,⟨e0,e1,V,q2,hr⟩,d5⟩:=T x M;have a1:=hr.Xl;have a2:=hr.z1;obtain⟨g',l',g1,g2⟩:=hr.SH kw.toKv (e':=X.b) C hE.2 M;rw[hg]at g1;simp at g1;refine⟨?_,d5⟩;have a7:B'.ct=B.ct:=by
   unfold Kn.zp at d2 b2 g2;obtain g2|g2:=g2
   .rw[<-d2,<-b2,<-g2,g1.1]
   rw[<-g2,<-b2,g1.1]
  rw[<-a7];exact d2
 rw[az y];refine .fin _ rfl ⟨c.kind,c.ij,c.unit,c.iA,h.st,h.oc,.inr (.inl ⟨w.kd,H,.inr ⟨rfl,X.b,hE,λx M=>?_,?_⟩⟩)⟩ bT
 .obtain⟨B,W⟩:=j x M;exact(L W).1.2
 refine bk λhn=>y ?_;have j:∀z∈(c.q.add u A).D,(z.2.wh==2)=true:=λz hz=>by
  cases(L hz).2 with
  |oy V q2=>rw[hk]at q2;exact absurd q2 bT
  |some V=>simp[V]
  |none V q2 q3=>rw[w.pl]at q3;exact absurd ⟨z.1,by rw[<-w.nd];exact hq.ai z hz,q3⟩ hn
 unfold Qn.count;rw[eh.2 j];have:=hq.le;omega
def MT(y:XB S K X)(H:Kw S K)(h:rG S K F J X.id X.b c){A:An}(j:u∈c.q.nodes)(L:xU S K F u c.q.A A)(M:A.wh≠5)(T:py (c.q.add u A))(V:c.q.A.kd=2->tE c.d.kd c.d.val.length=true):vC S K F J X {c with q:=c.q.add u A} (X.oe {c with q:=c.q.add u A} A):=by
 show vC S K F J X _ (if c.q.A.kd=3 then _ else if c.q.A.kd=2 then _ else _);obtain hk|hk:=h.qk (bM j)
 .rw[az C,aE hk];exact JB y H h j hk L M (V hk) rfl
 rw[aE hk];exact GH y H h j hk L M T
end
structure FL(S:Cf)(K:Kn)(ch:Bool)(r:Rq)(z:Int×Vo):Prop where
 b0:0<=z.2.ba
 r7:r.kd=7->(0<z.2.ba->K.b r.ep z.2.ba z.2.val/\K.d z.1 r.ep z.2.ba)/\(ch=true->z.1∈K.cq r.ep.toNat->K.cb r.ep.toNat<=z.2.ba)
 p5:r.kd=5->z.2.wh=1->r.pl<=((K.c z.1).E r.ep).pr/\z.2.ba<r.pl/\(0<z.2.ba->K.b r.ep z.2.ba z.2.val)/\∀b2,K.d z.1 r.ep b2->b2<=z.2.ba\/r.pl<=b2
 a6:r.kd=6->z.2.wh=1->K.d z.1 r.ep r.pl/\K.b r.ep r.pl r.ct.val
def VB(K:Kn)(q:Qn An):Prop:=q.nodes≠[]->(0<=q.A.ep/\q.A.ep<=K.a.length)/\q.A.kd=1
structure rF(S:Cf)(K:Kn)(X:Cx):Prop where
 tl:X.A<=K.a.length
 e0:0<=X.b
 pb:VB K X.c
 sl:VB K X.mv.a
 sc:X.mv.a.nodes≠[]->X.mv.c=false/\X.mv.A.nodes≠[]
 ep:X.mv.A.nodes≠[]->X.mv.A.A.ep=X.mv.b
 me:X.mv.A.nodes≠[]->X.b<X.mv.b/\X.mv.b<=K.a.length
 nc:X.mv.A.nodes≠[]->X.mv.c=false->X.mv.b=X.b+1
 hc:X.mv.A.nodes≠[]->X.mv.c=true->X.mv.b<K.a.length/\X.mv.A.A.kd=7
 k:X.mv.A.nodes≠[]->X.mv.A.A.kd=5\/X.mv.A.A.kd=6\/X.mv.A.A.kd=7
 an:X.mv.A.nodes≠[]->∀z∈X.mv.A.D,FL S K X.mv.c X.mv.A.A z
 q5:X.mv.A.nodes≠[]->X.mv.A.A.kd=5->X.mv.A.A.pl=X.mv.M/\X.mv.M=X.M/\1<=X.mv.M/\X.mv.M%100=X.id-1000/\∀e v,¬K.b e X.mv.M v
 q6:X.mv.A.nodes≠[]->X.mv.A.A.kd=6->X.mv.A.A.pl=X.mv.M/\X.mv.A.A.ct.val=X.mv.value/\(X.mv.value≠[]->K.b X.mv.b X.mv.M X.mv.value)
 bg:∀z∈X.mv.D,0<z.2.ba->K.b X.mv.b z.2.ba z.2.val
 bl:∀e b v,K.b e b v->b%100=X.id-1000->b<=X.M
 b0:0<=X.M
 id:1000<=X.id/\X.id<=1099
def Su(K K':Kn)(id:Int):Prop:=∀e b v,K'.b e b v->b%100=id-1000->K.b e b v
section
variable{S:Cf}{K K' K2:Kn}{F:Nat->Fl}{J J':Jq}
def Su.refl(K)(id):Su K K id:=λ_ _ _ h _=>h
def FL.L{ch:Bool}{z:Int×Vo}(h:FL S K ch r z)(k:mE S K K')(A:r.kd=7->ch=true->K.In r.ep):FL S K' ch r z:=by
 refine⟨h.b0,λe=>⟨λe'=>⟨k.f _ _ _ ((h.r7 e).1 e').1,k.av _ _ _ ((h.r7 e).1 e').2⟩,λe' j=>?_⟩,λe e'=>?_,λe e'=>⟨k.av _ _ _ (h.a6 e e').1,k.f _ _ _ (h.a6 e e').2⟩⟩
 .have y:=A e e';obtain⟨H,L⟩:=k.cb r.ep.toNat (by have:=y.1;have:=y.2;omega);rw[L]at j;rw[H];exact(h.r7 e).2 e' j
 obtain⟨M,T,V,W⟩:=h.p5 e e';refine⟨bt M (k.dv _ _).pr,T,λe=>k.f _ _ _ (V e),λY hb=>?_⟩;obtain hb|hb:=k.an _ _ _ hb
 .simp_all
 omega
def VB.L{q:Qn An}(h:VB K q)(k:mE S K K'):VB K' q:=λe=>⟨⟨(h e).1.1,by have:=(h e).1.2;have:=k.len;omega⟩,(h e).2⟩
def rF.L(h:rF S K X)(k:mE S K K')(T:Su K K' X.id):rF S K' X:=by
 have Y:=k.len;refine⟨gM h.tl,h.e0,h.pb.L k,h.sl.L k,h.sc,h.ep,λe=>⟨(h.me e).1,by have:=(h.me e).2;omega⟩,h.nc,λe e'=>⟨by have:=(h.hc e e').1;omega,(h.hc e e').2⟩,h.k,λe z j=>(h.an e z j).L k λ_ e'=>?_,λe e'=>?_,λe e'=>?_,λz j e=>k.f _ _ _ (h.bg z j e),λe b v x y=>h.bl e b v (T _ _ _ x y) y,h.b0,h.id⟩
 .have Z:=(h.me e).1;rw[h.ep e];have:=h.e0;exact⟨C,((h.hc e e').1)⟩
 .obtain⟨A,H,M,V,W⟩:=h.q5 e e';exact⟨A,H,M,V,λe v x=>W e v (T _ _ _ x V)⟩
 obtain⟨A,H,M⟩:=h.q6 e e';exact⟨A,H,λe=>k.f _ _ _ (M e)⟩
structure XI(S:Cf)(K:Kn)(F:Nat->Fl)(J:Jq)(P:Nat->Prop)(X:Cx):Prop where
 b:XB S K X
 f:∀c∈X.a,P c.gL->rG S K (F c.gL) J X.id X.b c
 e:∀k r,X.e[k]?=some r->r.wh≠0->Sy S K (F k) J X.id k r
 g:∀c∈X.a,∀r,X.e[c.gL]?=some r->r.wh=0
 nd:∀c∈X.a,∀d∈X.a,c.gL=d.gL->c=d
 mv:rF S K X
structure Ke(X:Cx):Prop where
 c:∀c∈X.a,c.q.nodes≠[]->c.q.A.nr<=X.gJ
 p:X.c.nodes≠[]->X.c.A.nr<=X.gJ/\∀c∈X.a,c.q.nodes≠[]->c.q.A.nr≠X.c.A.nr
 s:X.mv.a.nodes≠[]->X.mv.a.A.nr<=X.gJ/\∀c∈X.a,c.q.nodes≠[]->c.q.A.nr≠X.mv.a.A.nr
 v:X.mv.A.nodes≠[]->X.mv.A.A.nr<=X.gJ/\(∀c∈X.a,c.q.nodes≠[]->c.q.A.nr≠X.mv.A.A.nr)/\(X.c.nodes≠[]->X.c.A.nr≠X.mv.A.A.nr)/\(X.mv.a.nodes≠[]->X.mv.a.A.nr≠X.mv.A.A.nr)
def Ke.Ru(h:Ke X)(t)(ha:X.gJ<=X'.gJ)(W:∀c'∈X'.a,c'.q.nodes≠[]->(∃c∈X.a,c.q.nodes≠[]/\c.q.A.nr=c'.q.A.nr)\/(t=0/\c'.q.A.nr=X'.gJ/\X.gJ<X'.gJ))(hp:X'.c.nodes≠[]->(X.c.nodes≠[]/\X.c.A.nr=X'.c.A.nr)\/(t=1/\X'.c.A.nr=X'.gJ/\X.gJ<X'.gJ))(hs:X'.mv.a.nodes≠[]->(X.mv.a.nodes≠[]/\X.mv.a.A.nr=X'.mv.a.A.nr)\/(t=2/\X'.mv.a.A.nr=X'.gJ/\X.gJ<X'.gJ))(hv:X'.mv.A.nodes≠[]->(X.mv.A.nodes≠[]/\X.mv.A.A.nr=X'.mv.A.A.nr)\/(t=3/\X'.mv.A.A.nr=X'.gJ/\X.gJ<X'.gJ)):Ke X':=by
 refine⟨λc y T=>?_,λT=>⟨?_,λc y L=>?_⟩,λT=>⟨?_,λc y L=>?_⟩,λT=>⟨?_,λc y L=>?_,λY=>?_,λZ=>?_⟩⟩
 .obtain⟨d,A,j,V⟩|⟨_,j,_⟩:=W c y T
  .have:=h.c d A j;omega
  omega
 .obtain⟨H,M⟩|⟨_,M,_⟩:=hp T
  .have:=(h.p H).1;omega
  omega
 .obtain⟨H,M⟩|⟨q,M,p3⟩:=hp T
  .obtain⟨d,A,j,V⟩|⟨_,j,V⟩:=W c y L
   .have:=(h.p H).2 d A j;omega
   have:=(h.p H).1;omega
  obtain⟨d,A,j,V⟩|⟨q',_,_⟩:=W c y L
  .have:=h.c d A j;omega
  omega
 .obtain⟨H,M⟩|⟨_,M,_⟩:=hs T
  .have:=(h.s H).1;omega
  omega
 .obtain⟨H,M⟩|⟨q,M,p3⟩:=hs T
  .obtain⟨d,A,j,V⟩|⟨_,j,V⟩:=W c y L
   .have:=(h.s H).2 d A j;omega
   have:=(h.s H).1;omega
  obtain⟨d,A,j,V⟩|⟨q',_,_⟩:=W c y L
  .have:=h.c d A j;omega
  omega
 .obtain⟨H,M⟩|⟨_,M,_⟩:=hv T
  .have:=(h.v H).1;omega
  omega
 .obtain⟨H,M⟩|⟨q,M,p3⟩:=hv T
  .obtain⟨d,A,j,V⟩|⟨_,j,V⟩:=W c y L
   .have:=(h.v H).2.1 d A j;omega
   have:=(h.v H).1;omega
  obtain⟨d,A,j,V⟩|⟨q',_,_⟩:=W c y L
  .have:=h.c d A j;omega
  omega
 .obtain⟨H,M⟩|⟨q,M,p3⟩:=hv T
  .obtain⟨A,j⟩|⟨_,j,V⟩:=hp Y
   .have:=(h.v H).2.2.1 A;omega
   have:=(h.v H).1;omega
  obtain⟨A,j⟩|⟨q',_,_⟩:=hp Y
  .have:=(h.p A).1;omega
  omega
 obtain⟨H,M⟩|⟨q,M,p3⟩:=hv T
 .obtain⟨A,j⟩|⟨_,j,V⟩:=hs Z
  .have:=(h.v H).2.2.2 A;omega
  have:=(h.v H).1;omega
 obtain⟨A,j⟩|⟨q',_,_⟩:=hs Z
 .have:=(h.s A).1;omega
 omega
def Ke.A(h:Ke X)(M:X'.gJ=X.gJ+1)(A:X'.a=X.a)(y:X'.c=X.c)(H:X'.mv.a.nodes=[]\/X'.mv.a=X.mv.a)(T:X'.mv.A.A.nr=X.gJ+1):Ke X':=
 h.Ru 3 C (λc L j=>.inl ⟨c,j9 A L,j,rfl⟩) (λj=>.inl ⟨j9 y j,mT y⟩) (λj=>.inl (by have e:=H.resolve_left j;rw[e]at j|-;exact⟨j,rfl⟩)) λ_=>.inr ⟨rfl,C,C⟩
def Ke.D(h:Ke X)(T:X'.gJ=X.gJ)(A:X'.a=X.a)(y:X'.c.A=X.c.A/\X'.c.nodes=X.c.nodes)(H:X'.mv.a.nodes=[]\/(X'.mv.a.A=X.mv.a.A/\X'.mv.a.nodes=X.mv.a.nodes))(L:X'.mv.A.nodes=[]\/(X'.mv.A.A=X.mv.A.A/\X'.mv.A.nodes=X.mv.A.nodes)):Ke X':=
 h.Ru 4 C (λc M j=>.inl ⟨c,j9 A M,j,rfl⟩) (λj=>.inl ⟨j9 y.2 j,mT y.1⟩) (λj=>.inl (by have e:=H.resolve_left j;exact⟨j9 e.2 j,mT e.1⟩)) λj=>.inl (by have e:=L.resolve_left j;exact⟨j9 e.2 j,mT e.1⟩)
structure Qo(X X':Cx):Prop where
 a:X.gJ<=X'.gJ
 c:∀c'∈X'.a,c'.q.nodes≠[]->(∃c∈X.a,c.gL=c'.gL/\c.q.A=c'.q.A/\c.q.nodes=c'.q.nodes)\/X.gJ<c'.q.A.nr
 v:X'.mv.A.nodes≠[]->(X'.mv.A.A=X.mv.A.A/\X'.mv.A.nodes=X.mv.A.nodes/\X'.mv.c=X.mv.c)\/X.gJ<X'.mv.A.A.nr
structure Qg(X X':Cx):Prop extends Qo X X' where
 n:Ke X->Ke X'
def Qg.refl(X):Qg X X:=⟨⟨iG,λc j _=>.inl ⟨c,j,rfl,rfl,rfl⟩,λ_=>.inl ⟨rfl,rfl,rfl⟩⟩,λh=>h⟩
def Qg.H(h:Qg X X')(k:Qg X' X2):Qg X X2:=by
 have ha:=h.a;refine⟨⟨bt h.a k.a,λc W j=>?_,λj=>?_⟩,λx=>k.n (h.n x)⟩
 .obtain⟨d,Y,L,y,A⟩|h1:=k.c c W j
  .obtain⟨Z,H,M,T,V⟩|h1:=h.c d Y (jf A j)
   .exact .inl ⟨Z,H,M.H L,T.H y,V.H A⟩
   simp_all
  omega
 obtain⟨L,y,A⟩|h1:=k.v j
 .obtain⟨M,T,V⟩|h1:=h.v (j9 y j);all_goals simp_all
 exact .inr C
structure Kx(S:Cf)(K K':Kn)(id:Int):Prop extends mE S K K' where
 w:Kw S K'
 np:∀cl ca:Int,cl≠id->uT K K' cl ca
 na:∀j:Int,1000<=j->j<=1099->j≠id->Su K K' j
 dd:K'.D=K.D/\K'.c=K.c/\K'.d=K.d/\K'.Fu=K.Fu
def Kx.refl{id:Int}(h:Kw S K):Kx S K K id:=⟨mE.refl ..,h,λy A _=>uT.refl K y A,λj _ _ _=>Su.refl K j,rfl,rfl,rfl,rfl⟩
def Kx.H{id:Int}(h:Kx S K K' id)(k:Kx S K' K2 id):Kx S K K2 id:=
 ⟨h.tomE.H k.tomE,k.w,λA H L t a e M T x=>h.np A H L t a e M T (k.np A H L t a e M T x),λj V W Y e b v x y=>h.na j V W Y e b v (k.na j V W Y e b v x y) y,k.dd.1.H h.dd.1,k.dd.2.1.H h.dd.2.1,k.dd.2.2.1.H h.dd.2.2.1,k.dd.2.2.2.H h.dd.2.2.2⟩
def XB.L(h:XB S K X)(k:mE S K K'):XB S K' X:=⟨h.n,h.m,h.v,h.c,h.e.L k,by rw[k.lay h.e];exact h.l⟩
def XI.L(h:XI S K F J P X)(k:mE S K K')(j:∀H:Int,uT K K' X.id H)(A:Su K K' X.id)(y:∀a b c d e,J a b c d e->J' a b c d e):XI S K' F J' P X:=
 ⟨h.b.L k,λc M T=>(h.f c M T).L k h.b.e (j _) y,λn r V W=>(h.e n r V W).L k (j _) y,h.g,h.nd,h.mv.L k A⟩
def rF.A(h:rF S K X)(L:X'.A=X.A)(y:X'.b=X.b)(M:X'.c=X.c)(j:X'.mv=X.mv)(A:X'.M=X.M)(H:X'.id=X.id):rF S K X':=by refine⟨by rw[L];exact h.tl,by rw[y];exact h.e0,by rw[M];exact h.pb,by rw[j];exact h.sl,by rw[j];exact h.sc,by rw[j];exact h.ep,by rw[j,y];exact h.me,by rw[j,y];exact h.nc,by rw[j];exact h.hc,by rw[j];exact h.k,by rw[j];exact h.an,by rw[j,A,H];exact h.q5,by rw[j];exact h.q6,by rw[j];exact h.bg,by rw[A,H];exact h.bl,by rw[A];exact h.b0,by rw[H];exact h.id⟩
theorem XI.step{K':Kn}(h:XI S K F J P X)(k:mE S K K')(hp:∀cl ca:Int,¬(cl=X.id/\ca=c.gL)->uT K K' cl ca)(hA:K'.b=K.b)(hc:c∈X.a)(hs:vC S K' (F c.gL) J X c X'):XI S K' F J (λn=>P n\/n=c.gL) X'/\Qg X X':=by
 have a4:Su K K' X.id:=λe b v x _=>j9 hA x;have hr:=h.g c hc;have M:=h.b.L k;have a0:=h.mv.L k a4;have V:∀n:Nat,n≠c.gL->uT K K' X.id n:=λn H=>hp _ _ λe=>H (gM e.2);obtain⟨c',a,h1,h2,h3,h4⟩|⟨r,h1,h2,h3⟩:=hs
 .subst h2;refine⟨⟨⟨M.n,M.m,M.v,M.c,M.e,M.l⟩,λd j hP=>?_,λn r H hw=>?_,λd j=>?_,λd j d' W T=>?_,a0.A rfl rfl rfl rfl rfl rfl⟩,⟨?_,λd j H=>?_,λ_=>.inl ⟨rfl,rfl,rfl⟩⟩,λhN=>?_⟩
  .rcases jV (X:={X with gJ:=a}) j with e|⟨Y,e2⟩
   .subst e;rw[h1];exact h3
   rw[h1]at e2;obtain hP|hP:=hP
   .exact(h.f d Y hP).L k h.b.e (V _ e2) λ_ _ _ _ _ x=>x
   exact absurd hP e2
  .by_cases en:n=c.gL
   .subst en;exact absurd (hr r H) hw
   exact(h.e n r H hw).L k (V _ en) λ_ _ _ _ _ x=>x
  .rcases jV (X:={X with gJ:=a}) j with e|⟨Y,e2⟩
   .subst e;rw[h1];exact hr
   exact h.g d Y
  .rcases jV (X:={X with gJ:=a}) j with e|⟨Y,e2⟩
   .rcases jV (X:={X with gJ:=a}) W with e'|⟨a1,a2⟩
    .rw[e,e']
    exact absurd (by rw[<-T,e]) a2
   rcases jV (X:={X with gJ:=a}) W with e'|⟨a1,a2⟩
   .exact absurd (kz T e') e2
   exact h.nd d Y d' a1 T
  .show X.gJ<=a;obtain⟨e,_⟩|⟨e,_⟩:=h4<;>omega
  .rcases jV (X:={X with gJ:=a}) j with e|⟨Y,e2⟩
   .subst e;obtain⟨_,Z|⟨Z,e4⟩⟩|⟨Z,e4⟩:=h4
    .exact absurd Z H
    .exact .inl ⟨c,hc,h1.symm,Z.symm,e4.symm⟩
    exact .inr C
   exact .inl ⟨d,Y,rfl,rfl,rfl⟩
  refine hN.Ru 0 (by show X.gJ<=a;obtain⟨e,_⟩|⟨e,_⟩:=h4<;>omega) (λd j H=>?_) (λe=>.inl ⟨e,rfl⟩) (λe=>.inl ⟨e,rfl⟩) λe=>.inl ⟨e,rfl⟩;rcases jV (X:={X with gJ:=a}) j with e|⟨Y,e2⟩
  .subst e;obtain⟨_,Z|⟨Z,e4⟩⟩|⟨Z,e4⟩:=h4
   .exact absurd Z H
   .exact .inl ⟨c,hc,j9 e4 H,mT Z⟩
   exact .inr ⟨rfl,by show _=a;omega,by show X.gJ<a;omega⟩
  exact .inl ⟨d,Y,H,rfl⟩
 subst h1;refine⟨⟨⟨M.n,M.m,M.v,M.c,M.e,M.l⟩,λd j hP=>?_,λn r' H hw=>?_,λd j=>?_,λd j d' W T=>h.nd d (aU.1 j).1 d' (aU.1 W).1 T,a0.A rfl rfl rfl rfl rfl rfl⟩,⟨iG,λd j H=>?_,λ_=>.inl ⟨rfl,rfl,rfl⟩⟩,λhN=>?_⟩
 .obtain⟨d1,d2⟩:=aU.1 j;have d3:d.gL≠c.gL:=je d2;obtain hP|hP:=hP
  .exact(h.f d d1 hP).L k h.b.e (V _ d3) λ_ _ _ _ _ x=>x
  exact absurd hP d3
 .have A:(X.e.set c.gL r)[n]?=some r':=H;by_cases en:n=c.gL
  .subst en;rw[List.getElem?_set_self']at A
   cases hx:X.e[c.gL]? with
   |none=>rw[hx]at A;simp at A
   |some y=>rw[hx]at A;simp at A;subst A;exact h2
  rw[aH (λe=>en e.symm)]at A;exact(h.e n r' A hw).L k (V _ en) λ_ _ _ _ _ x=>x
 .obtain⟨d1,d2⟩:=aU.1 j;have d3:d.gL≠c.gL:=je d2;intro r' a5;have a3:(X.e.set c.gL r)[d.gL]?=some r':=a5;rw[aH (λe=>d3 e.symm)]at a3;exact h.g d d1 r' a3
 .exact .inl ⟨d,(aU.1 j).1,rfl,rfl,rfl⟩
 exact hN.Ru 4 iG (λd j H=>.inl ⟨d,(aU.1 j).1,H,rfl⟩) (λe=>.inl ⟨e,rfl⟩) (λe=>.inl ⟨e,rfl⟩) λe=>.inl ⟨e,rfl⟩
end
structure XV(K:Kn)(X:Cx):Prop where
 tl:X.A<=K.a.length
 e:K.In X.b
 pb:VB K X.c
 bl:∀e b v,K.b e b v->b%100=X.id-1000->b<=X.M
 b0:0<=X.M
 id:1000<=X.id/\X.id<=1099
structure Wg(K:Kn)(X:Cx):Prop extends XV K X where
 sl:VB K X.mv.a
 sc:X.mv.a.nodes≠[]->X.mv.c=false
 me:X.b<X.mv.b/\X.mv.b<=K.a.length
 nc:X.mv.c=false->X.mv.b=X.b+1
 hc:X.mv.c=true->X.mv.b<K.a.length
 bg:∀z∈X.mv.D,0<z.2.ba->K.b X.mv.b z.2.ba z.2.val
structure Sc(X X':Cx):Prop where
 s:(X'.n=X.n/\X'.m=X.m)/\X'.vo=X.vo/\X'.ce=X.ce/\X'.id=X.id
 e:X'.b=X.b
 l:X'.lay=X.lay
 p:X'.a=X.a
 r:X'.e=X.e
section
variable{S:Cf}{K K' K2:Kn}{F:Nat->Fl}{J J':Jq}
def Sc.refl(X):Sc X X:=⟨⟨⟨rfl,rfl⟩,rfl,rfl,rfl⟩,rfl,rfl,rfl,rfl⟩
def Sc.H(h:Sc X X')(k:Sc X' X2):Sc X X2:=⟨⟨⟨k.s.1.1.H h.s.1.1,k.s.1.2.H h.s.1.2⟩,k.s.2.1.H h.s.2.1,k.s.2.2.1.H h.s.2.2.1,k.s.2.2.2.H h.s.2.2.2⟩,k.e.H h.e,k.l.H h.l,k.p.H h.p,k.r.H h.r⟩
def XI.sc(h:XI S K F J P X)(k:Sc X X')(y:rF S K X'):XI S K F J P X':=by obtain⟨⟨⟨A,H⟩,L,M,j⟩,e,l,p,r⟩:=k;exact⟨⟨A.H h.b.n,H.H h.b.m,L.H h.b.v,M.H h.b.c,by rw[e];exact h.b.e,by rw[l,e];exact h.b.l⟩,by rw[p,j,e];exact h.f,by rw[r,j];exact h.e,by rw[p,r];exact h.g,by rw[p];exact h.nd,y⟩
def rF.a(h:rF S K X)(j:K.In X.b):XV K X:=⟨h.tl,j,h.pb,h.bl,h.b0,h.id⟩
def rF.base(h:rF S K X)(y:K.In X.b)(j:X.mv.A.nodes≠[]):Wg K X:=⟨h.a y,h.sl,λe=>(h.sc e).1,h.me j,h.nc j,λe=>(h.hc j e).1,h.bg⟩
def mI(h:1<=X.vo):X.kE≠[]:=by intro e;have:=(C6 X).2.1;rw[e]at this;simp at this;omega
def Wg.mK(h:Wg K X)(j:1<=X.vo){kd pl:Int}{val:List Int}(y:kd=5\/kd=6\/kd=7)(M:kd≠7->X.mv.c=false)(A:kd=5->pl=X.mv.M/\X.mv.M=X.M/\1<=X.mv.M/\X.mv.M%100=X.id-1000/\∀e v,¬K.b e X.mv.M v)(H:kd=6->pl=X.mv.M/\val=X.mv.value/\(X.mv.value≠[]->K.b X.mv.b X.mv.M X.mv.value)):rF S K (X.kh kd pl val):=by refine⟨h.tl,h.e.1,h.pb,h.sl,λe=>⟨h.sc e,(mI j)⟩,λ_=>rfl,λ_=>h.me,λ_=>h.nc,λ_ e=>⟨h.hc e,?_⟩,λ_=>y,λ_ z L=>absurd L (by simp[Cx.kh,Qn.new]),λ_ e=>A e,λ_ e=>H e,h.bg,h.bl,h.b0,h.id⟩;show kd=7;refine bk λq=>?_;have e':X.mv.c=true:=e;simp_all
def Qg.of(A:X'.gJ=X.gJ)(j:X'.a=X.a)(y:X'.mv.A.nodes=[]\/(X'.mv.A.A=X.mv.A.A/\X'.mv.A.nodes=X.mv.A.nodes/\X'.mv.c=X.mv.c))(H:X'.c.A=X.c.A/\X'.c.nodes=X.c.nodes)(L:X'.mv.a.nodes=[]\/(X'.mv.a.A=X.mv.a.A/\X'.mv.a.nodes=X.mv.a.nodes)):Qg X X':=
 ⟨⟨C,λc M _=>.inl ⟨c,j9 j M,rfl,rfl,rfl⟩,λT=>.inl (y.resolve_left T)⟩,λh=>h.D A j H L (y.imp (λe=>e) λe=>⟨e.1,e.2.1⟩)⟩
def wG(h:XV K X)(j:1<=X.vo):rF S K X.iB/\Sc X X.iB/\Qg X X.iB:=by
 have A:=h.e.1;have H:=h.e.2;have L:=h.tl;refine⟨?_,⟨⟨⟨rfl,rfl⟩,rfl,rfl,rfl⟩,rfl,rfl,rfl,rfl⟩,⟨by show X.gJ<=X.gJ+1;omega,λc y _=>.inl ⟨c,y,rfl,rfl,rfl⟩,λ_=>.inr (by show X.gJ<X.gJ+1;omega)⟩,λh=>h.A rfl rfl rfl (.inl rfl) rfl⟩;unfold Cx.iB;refine Wg.mK (X:={X with mv:={Mv.zero with b:=max (X.b+1) (X.A-1),c:=decide _}}) ⟨⟨h.tl,h.e,h.pb,h.bl,h.b0,h.id⟩,λe=>absurd rfl e,λe=>absurd rfl e,?_,λe=>?_,λe=>?_,by simp[Mv.zero]⟩ j (.inr (.inr rfl)) (λe=>absurd rfl e) (λe=>absurd e bT) λe=>absurd e bT
 .show X.b<max (X.b+1) (X.A-1)/\max (X.b+1) (X.A-1)<=K.a.length;omega
 .have e':decide (max (X.b+1) (X.A-1)<X.A)=false:=e;simp only[decide_eq_false_iff_not]at e';show max (X.b+1) (X.A-1)=X.b+1;omega
 have e':decide _=true:=e;simp only[ZX]at e';show max (X.b+1) (X.A-1)<K.a.length;omega
def rF.NJ(h:rF S K X)(j:e<=K.a.length):rF S K {X with A:=e}:=
 ⟨j,h.e0,h.pb,h.sl,h.sc,h.ep,h.me,h.nc,h.hc,h.k,h.an,h.q5,h.q6,h.bg,h.bl,h.b0,h.id⟩
def CO(h:rF S K X)(M:K.In X.b)(T:1<=X.vo)(L:e<=K.a.length):rF S K (X.gR e)/\Sc X (X.gR e)/\Qg X (X.gR e)/\((X.gR e).mv=X.mv\/X.gJ<(X.gR e).mv.A.A.nr):=by
 unfold Cx.gR;split
 .exact⟨h,Sc.refl X,Qg.refl X,.inl rfl⟩
 split
 .obtain⟨V,j,y⟩:=wG (X:={X with A:=e}) ⟨L,M,h.pb,h.bl,h.b0,h.id⟩ T;exact⟨V,⟨j.s,j.e,j.l,j.p,j.r⟩,⟨⟨y.a,y.c,λ_=>.inr (by show X.gJ<X.gJ+1;omega)⟩,λH=>y.n (H.D rfl rfl ⟨rfl,rfl⟩ (.inr ⟨rfl,rfl⟩) (.inr ⟨rfl,rfl⟩))⟩,.inr (by show X.gJ<X.gJ+1;omega)⟩
 exact⟨h.NJ L,⟨⟨⟨rfl,rfl⟩,rfl,rfl,rfl⟩,rfl,rfl,rfl,rfl⟩,⟨⟨iG,λc W _=>.inl ⟨c,W,rfl,rfl,rfl⟩,λ_=>.inl ⟨rfl,rfl,rfl⟩⟩,λH=>H.D rfl rfl ⟨rfl,rfl⟩ (.inr ⟨rfl,rfl⟩) (.inr ⟨rfl,rfl⟩)⟩,.inl rfl⟩
def Qp(h:rF S K X)(y:K.In X.b):rF S K X.jX/\Sc X X.jX/\Qg X X.jX:=
 ⟨⟨h.tl,h.e0,λ_=>⟨⟨y.1,by have:=y.2;show X.b<=_;omega⟩,rfl⟩,h.sl,h.sc,h.ep,h.me,h.nc,h.hc,h.k,h.an,h.q5,h.q6,h.bg,h.bl,h.b0,h.id⟩,⟨⟨⟨rfl,rfl⟩,rfl,rfl,rfl⟩,rfl,rfl,rfl,rfl⟩,⟨⟨by show X.gJ<=X.gJ+1;omega,λc j _=>.inl ⟨c,j,rfl,rfl,rfl⟩,λ_=>.inl ⟨rfl,rfl,rfl⟩⟩,λA=>A.Ru 1 (by show X.gJ<=X.gJ+1;omega) (λc j H=>.inl ⟨c,j,H,rfl⟩) (λ_=>.inr ⟨rfl,rfl,by show X.gJ<X.gJ+1;omega⟩) (λe=>.inl ⟨e,rfl⟩) λe=>.inl ⟨e,rfl⟩⟩⟩
def U7(h:rF S K X)(j:X.mv.A.nodes≠[])(y:X.mv.c=false):rF S K X.oF/\Sc X X.oF/\Qg X X.oF:=
 ⟨⟨h.tl,h.e0,h.pb,λ_=>⟨⟨by have:=(h.me j).1;have:=h.e0;show 0<=X.mv.b;omega,(h.me j).2⟩,rfl⟩,λ_=>⟨y,j⟩,h.ep,h.me,h.nc,h.hc,h.k,h.an,h.q5,h.q6,h.bg,h.bl,h.b0,h.id⟩,⟨⟨⟨rfl,rfl⟩,rfl,rfl,rfl⟩,rfl,rfl,rfl,rfl⟩,⟨⟨by show X.gJ<=X.gJ+1;omega,λc y _=>.inl ⟨c,y,rfl,rfl,rfl⟩,λ_=>.inl ⟨rfl,rfl,rfl⟩⟩,λA=>A.Ru 2 (by show X.gJ<=X.gJ+1;omega) (λc y j=>.inl ⟨c,y,j,rfl⟩) (λe=>.inl ⟨e,rfl⟩) (λ_=>.inr ⟨rfl,rfl,by show X.gJ<X.gJ+1;omega⟩) λe=>.inl ⟨e,rfl⟩⟩⟩
def xK(h:0<=X.M)(gN:1000<=X.id/\X.id<=1099)(p):X.M<X.jv p/\1<=X.jv p/\X.jv p%100=X.id-1000:=by unfold Cx.jv;omega
def vB(h:rF S K X)(H:K.In X.b)(T:1<=X.vo)(V:X.mv.A.nodes≠[])(A:X.mv.c=false):rF S K X.jS/\Sc X X.jS/\Qg X X.jS:=by
 unfold Cx.jS;split
 .exact⟨h,Sc.refl X,Qg.refl X⟩
 obtain⟨b1,W,L⟩:=xK h.b0 h.id _;have j:=h.base H V;refine⟨?_,⟨⟨⟨rfl,rfl⟩,rfl,rfl,rfl⟩,rfl,rfl,rfl,rfl⟩,⟨by show X.gJ<=X.gJ+1;omega,λc A _=>.inl ⟨c,A,rfl,rfl,rfl⟩,λ_=>.inr (by show X.gJ<X.gJ+1;omega)⟩,λh=>h.A rfl rfl rfl (.inr rfl) rfl⟩;refine Wg.mK (X:={X with M:=X.jv (j7 X.mv.D),mv:={X.mv with M:=X.jv _}}) ⟨⟨h.tl,H,h.pb,λe b v x y=>by have:=h.bl e b v x y;show b<=X.jv _;omega,by show 0<=X.jv _;omega,h.id⟩,j.sl,j.sc,j.me,j.nc,j.hc,j.bg⟩ T (.inl rfl) (λ_=>A) (λ_=>⟨rfl,rfl,W,L,λe v x=>?_⟩) λe=>absurd e bT;have:=h.bl e _ v x L;have:X.jv (j7 X.mv.D)<=X.M:=this;omega
def Em(h:rF S K X)(W:K.In X.b)(Y:1<=X.vo)(y:X.mv.A.nodes≠[])(j:X.mv.c=false)(h7:X.mv.A.A.kd=7):rF S K X.jM/\Sc X X.jM/\Qg X X.jM:=by
 unfold Cx.jM;split
 .exact⟨⟨h.tl,h.e0,h.pb,h.sl,h.sc,h.ep,h.me,h.nc,h.hc,h.k,h.an,h.q5,h.q6,h.bg,h.bl,h.b0,h.id⟩,⟨⟨⟨rfl,rfl⟩,rfl,rfl,rfl⟩,rfl,rfl,rfl,rfl⟩,⟨⟨iG,λc j _=>.inl ⟨c,j,rfl,rfl,rfl⟩,λ_=>.inl ⟨rfl,rfl,rfl⟩⟩,λA=>A.D rfl rfl ⟨rfl,rfl⟩ (.inr ⟨rfl,rfl⟩) (.inr ⟨rfl,rfl⟩)⟩⟩
 dsimp only;have Z:rF S K {X with wb:=true,mv:={X.mv with D:=X.mv.A.D}}:=⟨h.tl,h.e0,h.pb,h.sl,h.sc,h.ep,h.me,h.nc,h.hc,h.k,h.an,h.q5,h.q6,λz hz hb=>by
  have:=((h.an y z hz).r7 h7).1 hb
  rw[h.ep y]at this
  exact this.1,h.bl,h.b0,h.id⟩
 have sY:Sc X {X with wb:=true,mv:={X.mv with D:=X.mv.A.D}}:=⟨⟨⟨rfl,rfl⟩,rfl,rfl,rfl⟩,rfl,rfl,rfl,rfl⟩;have qY:Qg X {X with wb:=true,mv:={X.mv with D:=X.mv.A.D}}:=⟨⟨iG,λc j _=>.inl ⟨c,j,rfl,rfl,rfl⟩,λ_=>.inl ⟨rfl,rfl,rfl⟩⟩,λA=>A.D rfl rfl ⟨rfl,rfl⟩ (.inr ⟨rfl,rfl⟩) (.inr ⟨rfl,rfl⟩)⟩;split
 .obtain⟨L,M,T⟩:=vB Z W Y y j;exact⟨L,sY.H M,qY.H T⟩
 obtain⟨s1,V,s3⟩:=U7 Z y j;obtain⟨L,M,T⟩:=vB s1 (by rw[V.e];exact W) (by rw[V.s.2.1];exact Y) y j;exact⟨L,(sY.H V).H M,(qY.H s3).H T⟩
def Kn.MR(K:Kn)(e b:Int)(v:List Int):Kn:={K with b:=λe' b' v'=>K.b e' b' v'\/(e'=e/\b'=b/\v'=v)}
def LJ(e b)(v):mE S K (K.MR e b v):=⟨⟨[],by simp[Kn.MR]⟩,λ_=>xb.refl ..,λ_ _=>BJ.refl _,λ_ _ _ h=>h,λ_ _ _ h=>.inl h,λ_ _ _ h=>.inl h,λ_ _=>⟨rfl,rfl⟩,λ_ _ _ h=>h,λ_ h=>h⟩
def xO.L(h:xO S K e b v)(k:mE S K K'):xO S K' e b v:=by
 obtain⟨Q,A,bm,H,L,M,j⟩:=h;refine⟨Q,A,bm,H,L,M.imp (λe=>e) λe=>k.f _ _ _ e,λq y=>⟨bt (j q y).1 (k.dv q e).pr,λT hb V=>?_⟩⟩;obtain hb|hb:=k.an _ _ _ hb
 .exact(j q y).2 T hb V
 have:=(j q y).1;omega
theorem Ta(h:Kw S K)(j:1<=e/\e<=K.a.length)(A:1<=b)(T:∃l,v=kB l/\oj l (K.lay (e-1)))(V:xO S K e b v)(h5:∀e' M,¬K.b e' b M):Kw S (K.MR e b v):=by
 have H:mE S K _:=LJ e b v;refine⟨⟨h.l0,h.ls,λe j A=>⟨.inl (h.lc e j A).1,(h.lc e j A).2⟩,λe' b' M x=>?_,λe' b' v1 v2 x y=>?_,h.av,h.pu⟩,λu W=>(h.sd u W).L H,λq Y=>(h.vd q Y).L H,h.va⟩
 .obtain x|⟨rfl,rfl,rfl⟩:=x
  .obtain⟨Z,a2,a3,a4⟩:=h.f _ _ _ x;exact⟨Z,a2,a3,a4.L H⟩
  exact⟨j,A,T,V.L H⟩
 obtain x|⟨rfl,rfl,rfl⟩:=x
 .obtain y|⟨rfl,rfl,rfl⟩:=y
  .exact h.au _ _ _ _ x y
  grind
 obtain y|⟨_,_,rfl⟩:=y
 .grind
 rfl
def II{α:Type}{l j:List (Int×α)}(h:j.Sublist l)(y:(l.map (·.1)).Nodup):(j.map (·.1)).Nodup:=y.sublist (h.map _)
def wR{q:Qn Vo}(h:py q)(y:∀x∈q.nodes,n9 S.v x){l:List (Int×Vo)}(j:l.Sublist q.D)(A:S.mf<=l.length):Mj S (l.map (·.1)):=
 ⟨II j h.an,je A,λx H=>by
  obtain⟨z,L,rfl⟩:=aD.1 H
  exact y _ (h.ai z (j.subset L))⟩
def XB.mf(h:XB S K X):X.mf=S.mf:=by unfold Cx.mf Cf.mf;rw[h.v]
theorem Fe(h:rF S K X)(hb:XB S K X)(kw:Kw S K)(M:X.mv.A.nodes≠[])(h5:X.mv.A.A.kd=5)(hq:py X.mv.A)(hi:∀x∈X.mv.A.nodes,n9 S.v x):∃K',Kx S K K' X.id/\K'.P0=K.P0/\rF S K' X.jB/\Sc X X.jB/\Qg X X.jB:=by
 have hv:1<=X.vo:=by rw[hb.v];exact S.A.2.2.1.1
 have hc:X.mv.c=false:=by
  cases e:X.mv.c with
  |false=>rfl
  |true=>have:=(h.hc M e).2;rw[h5]at this;exact absurd this bT
 obtain⟨p1,p2,p3,p4,p5⟩:=h.q5 M h5;have a2:=h.ep M;have a8:=h.me M;have a9:=h.nc M hc;unfold Cx.jB;dsimp only;split
 .exact⟨K,Kx.refl kw,rfl,h,Sc.refl X,Qg.refl X⟩
 rename_i W;rw[hb.mf]at W;obtain⟨v,a0⟩:=gG (jC (X.lG (kQ X.mv.A.D)));rw[a0]at W|-;obtain⟨val,A⟩:=gG (if v.1=0 then X.jN.getD []else v.2);rw[A];have sc:Sc X (({X with mv:={X.mv with value:=val}}:Cx).kh 6 X.mv.M val):=⟨⟨⟨rfl,rfl⟩,rfl,rfl,rfl⟩,rfl,rfl,rfl,rfl⟩;have qg:Qg X (({X with mv:={X.mv with value:=val}}:Cx).kh 6 X.mv.M val):=⟨⟨by show X.gJ<=X.gJ+1;omega,λc hc _=>.inl ⟨c,hc,rfl,rfl,rfl⟩,λ_=>.inr (by show X.gJ<X.gJ+1;omega)⟩,λh=>h.A rfl rfl rfl (.inr rfl) rfl⟩;have L:=h.base hb.e M;by_cases a3:val=[]
 .refine⟨K,Kx.refl kw,rfl,?_,sc,qg⟩;exact Wg.mK (X:={X with mv:={X.mv with value:=val}}) ⟨⟨h.tl,hb.e,h.pb,h.bl,h.b0,h.id⟩,L.sl,L.sc,L.me,L.nc,L.hc,L.bg⟩ hv (.inr (.inl rfl)) (λ_=>hc) (λe=>absurd e bT) λ_=>⟨rfl,rfl,λe=>absurd a3 e⟩
 --the jC AS
 have Y:v=(0,[])\/∃z∈X.mv.A.D,z.2.wh=1/\v=(z.2.ba,z.2.val):=by
  obtain e|⟨z,Y,e⟩:=oB (X.lG (kQ X.mv.A.D))
  .exact .inl (a0.symm.H e)
  have h1:=(pY X _).subset Y;obtain⟨h2,h3⟩:=aU.1 h1;exact .inr ⟨z,h2,je h3,a0.symm.H e⟩
 have a4:0<=v.1/\v.1<X.mv.M:=by
  obtain e|⟨z,h1,h2,e⟩:=Y
  .rw[e];exact⟨iG,by show 0<X.mv.M;omega⟩
  have T:=h.an M z h1;rw[e];refine⟨T.b0,?_⟩;have:=(T.p5 h5 h2).2.1;show z.2.ba<_;rwa[p1]at this
 have a5:v.1≠0->K.b X.mv.b v.1 v.2:=λV=>by
  obtain e|⟨z,h1,h2,e⟩:=Y
  .rw[e]at V;exact absurd rfl V
  have T:=h.an M z h1;have:=(T.p5 h5 h2).2.2.1 (by have:=T.b0;rw[e]at V;have:z.2.ba≠0:=V;omega);rw[a2]at this;rw[e];exact this
 have a1:xO S K X.mv.b X.mv.M val:=by
  have a6:(vw v.1 (kQ X.mv.A.D)).Sublist X.mv.A.D:=cE.H cE;have aa:=wR hq hi a6 C;refine⟨_,aa,v.1,a4.1,a4.2,?_,λq ab=>?_⟩
  .by_cases h0:v.1=0
   .exact .inl h0
   rw[az h0]at A;rw[<-A];exact .inr (a5 h0)
  obtain⟨z,ac,rfl⟩:=aD.1 ab;obtain⟨z1,z2⟩:=aU.1 ac;obtain⟨z3,z4⟩:=aU.1 z1;simp at z2 z4;have T:=(h.an M z z3).p5 h5 z4;rw[a2,p1]at T;refine⟨T.1,λb2 ad jt=>?_⟩;obtain q|q:=T.2.2.2 b2 ad<;>omega
 have a7:∃l,val=kB l/\oj l (K.lay (X.mv.b-1)):=by
  by_cases h0:v.1=0
  .rw[aE h0]at A
   cases Z:X.jN with
   |none=>rw[Z]at A;exact absurd A.symm a3
   |some pv=>
    rw[Z]at A;have ag:pv=val:=A;subst ag;unfold Cx.jN at Z;split at Z
    .rename_i H;simp at Z;obtain e|⟨z,Y,e⟩:=oB (X.lG X.mv.D)
     .rw[e]at H;exact absurd H bT
     rw[e]at H Z;have ai:=(pY X _).subset Y;have:=kw.f _ _ _ (h.bg z ai H);rw[<-Z];exact this.2.2.1
    obtain⟨R,hR,e⟩:=bN.1 Z;obtain⟨r1,_⟩:=Cx.xZ hR;refine⟨R,e.symm,?_⟩;rw[a9,show X.b+1-1=X.b by omega,<-hb.l];exact r1
  rw[az h0]at A;rw[<-A];exact(kw.f _ _ _ (a5 h0)).2.2.1
 have ak:1<=X.mv.b:=by have:=hb.e.1;omega
 have kl:mE S K (K.MR X.mv.b X.mv.M val):=LJ _ _ _;refine⟨K.MR X.mv.b X.mv.M val,⟨kl,Ta kw ⟨ak,a8.2⟩ p3 a7 a1 p5,λcl ca _=>λ_ _ _ _ _ x=>x,λj j1 j2 j3 e b v x y=>?_,rfl,rfl,rfl,rfl⟩,rfl,?_,sc,qg⟩
 .obtain x|⟨_,rfl,_⟩:=x
  .exact x
  omega
 exact Wg.mK (K:=K.MR X.mv.b X.mv.M val) (X:={X with mv:={X.mv with value:=val}}) ⟨⟨h.tl,hb.e,h.pb,λe b v x y=>by
  obtain x|⟨_,rfl,_⟩:=x
  .exact h.bl e b v x y
  .show X.mv.M<=X.M;omega,h.b0,h.id⟩,L.sl,L.sc,L.me,L.nc,L.hc,λz Y e=>.inl (L.bg z Y e)⟩ hv (.inr (.inl rfl)) (λ_=>hc) (λe=>absurd e bT) λ_=>⟨rfl,rfl,λ_=>.inr ⟨rfl,rfl,rfl⟩⟩
end
def zc(gQ:Ct->Int->Prop)(K K':Kn):Prop:=∀t a e,K'.P0 t a e->(∃e',K.P0 t a e')\/gQ t a
def G0:Ct->Int->Prop:=λ_ _=>False
section
variable{S:Cf}{K K' K2:Kn}{F:Nat->Fl}{J J':Jq}{P':Nat->Prop}
def zc.D(h:K'.P0=K.P0):zc G K K':=λt a e x=>.inl ⟨e,j9 h x⟩
theorem zc.H(h:zc G K K')(k:zc G K' K2):zc G K K2:=λt a e x=>by
 obtain⟨e',x⟩|x:=k t a e x
 .exact h t a e' x
 grind
def Kn.DD(K:Kn)(l:List (List Int))(b:Int)(Q:List Int):Kn:={K with a:=K.a++[l],cb:=λe=>if e=K.a.length then b else K.cb e,cq:=λe=>if e=K.a.length then Q else K.cq e}
def KL(l)(b)(Q):mE S K (K.DD l b Q):=⟨⟨[l],rfl⟩,λ_=>xb.refl ..,λ_ _=>BJ.refl _,λ_ _ _ h=>h,λ_ _ _ h=>.inl h,λ_ _ _ h=>h,λe j=>⟨az C,az C⟩,λ_ _ _ h=>h,λ_ h=>h⟩
def Ic(l)(b)(Q):(K.DD l b Q).lay (K.a.length:Nat)=l:=by unfold Kn.lay Kn.DD;simp
def SO(h:Kw S K)(h1:K.b K.a.length b (kB l))(h2:oj l (K.lay (K.a.length-1)))(hQ:Mj S Q)(hv:∀q∈Q,K.d q K.a.length b):Kw S (K.DD l b Q):=by
 have A:mE S K (K.DD l b Q):=KL l b Q;have hp:=h.pos;refine⟨⟨?_,λe R L e1 e2=>?_,λe T V=>?_,λe b' v x=>?_,h.au,h.av,h.pu⟩,λu hu=>(h.sd u hu).L A,λq hq=>(h.vd q hq).L A,h.va⟩
 .show(K.a++[l])[0]?=_;rw[aB C];exact h.l0
 .have y:(K.a++[l])[e]?=some L:=e1;have j:(K.a++[l])[e+1]?=some R:=e2;by_cases W:e+1<K.a.length
  .rw[aB C]at y j;exact h.ls e R L y j
  have H:=(aj.1 j).1;simp at H;have Y:e+1=K.a.length:=C;rw[aB C]at y;rw[Y,aC jr]at j;simp at j;subst j;have:K.lay (K.a.length-1)=L:=by unfold Kn.lay;rw[show((K.a.length:Int)-1).toNat=e by omega,aS,y];rfl
  rw[<-this];exact h2
 .have M:e<(K.a++[l]).length:=V;simp at M;by_cases W:e<K.a.length
  .obtain⟨c1,c2,c3⟩:=h.lc e T W;obtain⟨Z,k2⟩:=A.cb e W;rw[Z,k2,A.lay ⟨C,C⟩];exact⟨c1,c2,c3⟩
  have Y:e=K.a.length:=C;subst Y;rw[Ic];have Z:(K.DD l b Q).cb K.a.length=b:=aE rfl;have k2:(K.DD l b Q).cq K.a.length=Q:=aE rfl;rw[Z,k2];exact⟨h1,hQ,hv⟩
 obtain⟨a1,a2,a3,a4⟩:=h.f _ _ _ x;refine⟨⟨a1.1,by show e<=((K.a++[l]).length:Int);simp;omega⟩,a2,?_,a4.L A⟩;rw[A.lay ⟨C,C⟩];exact a3
def PD(y:Kw S K){id:Int}{val:List Int}(M:1<=e/\e<=K.a.length)(h:K.b e b val)(A:Mj S Q)(H:∀q∈Q,K.d q e b):∃K',Kx S K K' id/\K'.P0=K.P0/\K'.b=K.b/\K'.In e/\val=kB (K'.lay e):=by
 by_cases L:e<K.a.length
 .exact⟨K,Kx.refl y,rfl,rfl,⟨C,L⟩,NR y.toKv ⟨C,L⟩ M.1 h A H⟩
 have T:e=K.a.length:=C;subst T;obtain⟨_,_,⟨l,rfl,V⟩,_⟩:=y.f _ _ _ h;have W:mE S K _:=KL l b Q;refine⟨K.DD l b Q,⟨W,SO y h V A H,λY Z _=>λ_ _ _ _ _ x=>x,λj _ _ _=>λ_ _ _ x _=>x,rfl,rfl,rfl,rfl⟩,rfl,rfl,⟨C,?_⟩,?_⟩
 .show(_:Int)<((K.a++[l]).length:Int);simp;omega
 rw[show(K.DD l b Q).lay _=l from Ic l b Q]
def Ly(h:XI S K F J P X)(Z:Kw S K)(hc:c∈X.a){E0:Int}(hE:E0<=X.b)(H:rG S K (F c.gL) J X.id E0 c):∃K',Kx S K K' X.id/\(∀A:Int,A≠c.gL->uT K K' X.id A)/\zc G K K'/\XI S K' F J (λn=>P n\/n=c.gL) (X.kA c)/\Qg X (X.kA c):=by
 have V:=h.b;have mx:c.q.nodes=[]->c.kind=1\/c.kind=5->∃K',Kx S K K' X.id/\(∀A:Int,A≠c.gL->uT K K' X.id A)/\zc G K K'/\XI S K' F J (λn=>P n\/n=c.gL) X/\Qg X X:=λhn hk=>by
  have a0:rG S K (F c.gL) J X.id X.b c:=⟨H.toCb.L (mE.refl ..) (uT.refl K _ _) (λ_ _ _ _ _ x=>x) hE,H.g1,H.o1,H.mK,H.a5,H.qk,λe=>absurd hn e,λe=>absurd hn e,λe=>absurd hn e⟩;refine⟨K,Kx.refl Z,λA _=>uT.refl K _ A,zc.D rfl,⟨h.b,λd hd hP=>?_,h.e,h.g,h.nd,h.mv⟩,Qg.refl X⟩;obtain hP|hP:=hP
  .exact h.f d hd hP
  rw[h.nd d hd c hc hP];exact a0
 have fin:∀r,r.wh≠0->Sy S K (F c.gL) J X.id c.gL r->∃K',Kx S K K' X.id/\(∀A:Int,A≠c.gL->uT K K' X.id A)/\zc G K K'/\XI S K' F J (λn=>P n\/n=c.gL) (X.fin c r)/\Qg X (X.fin c r):=λr M hr=>by obtain⟨x1,x2⟩:=h.step (c:=c) (mE.refl ..) (λcl A _=>uT.refl K cl A) rfl hc (.fin r rfl hr M);exact⟨K,Kx.refl Z,λA _=>uT.refl K _ A,zc.D rfl,x1,x2⟩
 unfold Cx.kA;by_cases T:c.kind=5
 .rw[aE T];unfold Cx.ku;have hl:X.lay.getD (c.unit/X.m).toNat []=(K.lay X.b).getD (c.unit/S.m).toNat []:=by rw[V.l,V.m]
  rw[hl];split
  .rename_i L;split
   .rename_i W;refine fin _ bT ⟨c.kind,c.ij,c.unit,c.iA,H.st,H.oc,.inr (.inr ⟨T,.inr ⟨rfl,X.b,V.e,?_⟩⟩)⟩;obtain⟨x,hx⟩:=List.length_eq_one_iff.1 W;rw[hx]at L|-;simp at L;rw[L]
   exact mx (H.a5 T) (.inr T)
  rename_i L;refine fin _ bT ⟨c.kind,c.ij,c.unit,c.iA,H.st,H.oc,.inr (.inr ⟨T,.inl ⟨rfl,X.b,V.e,?_⟩⟩)⟩;simpa using L
 rw[az T];by_cases M:Cx.lD c=true
 .rw[aE M];unfold Cx.lD Qn.N at M;simp at M;exact mx M.2 (.inl M.1)
 rw[az M];have Y:c.kind=1->c.q.nodes≠[]:=λe e'=>M (by unfold Cx.lD Qn.N;simp[e,e']);obtain⟨K',k1,k2,k3,k4,k5,k6,k7,k9,a1,a2,a3⟩:=LI V Z (H.toCb.L (mE.refl ..) (uT.refl K _ _) (λ_ _ _ _ _ x=>x) hE) T λe=>(H.o1 e (Y e)).1;obtain⟨x1,x2⟩:=h.step (c:=c) k1 k3 k4 hc a3;refine⟨K',⟨k1,k2,λcl A a4=>k3 cl A λe=>a4 e.1,λj _ _ _=>λe b v x _=>j9 k4 x,k7,a1,a2,k9⟩,λA a5=>k3 _ _ λe=>a5 e.2,λt a e x=>?_,x1,x2⟩;obtain x|⟨rfl,rfl,y⟩:=k6 t a e x
 .exact .inl ⟨e,x⟩
 exact .inl (H.o1 y (Y y)).2
def Ob(X:Cx)(c):(X.kA c).id=X.id/\(X.kA c).b=X.b/\(X.kA c).n=X.n/\(X.kA c).vo=X.vo/\(X.kA c).mv=X.mv/\(X.kA c).A=X.A:=by
 unfold Cx.kA Cx.ku Cx.dO;repeat' split
 all_goals exact⟨rfl,rfl,rfl,rfl,rfl,rfl⟩
theorem FO:∀(l:List jn) {K:Kn} {P:Nat->Prop} {X:Cx},XI S K F J P X->Kw S K->(∀c∈l,c∈X.a/\∃A,A<=X.b/\K.In A/\rG S K (F c.gL) J X.id A c)->l.Pairwise (λc d=>c.gL≠d.gL)->∃K',Kx S K K' X.id/\zc G K K'/\XI S K' F J (λn=>P n\/∃c∈l,c.gL=n) (l.foldl Cx.kA X)/\Qg X (l.foldl Cx.kA X)/\(l.foldl Cx.kA X).id=X.id/\(l.foldl Cx.kA X).vo=X.vo
 |[],K,P,X,h,L,_,_=>⟨K,Kx.refl L,zc.D rfl,⟨h.b,λd j W=>h.f d j (W.resolve_right bz),h.e,h.g,h.nd,h.mv⟩,Qg.refl X,rfl,rfl⟩
 |c::l,K,P,X,h,L,Y,hp=>by
  obtain⟨M,T⟩:=cI.1 hp;obtain⟨c1,A,c2,c3,c4⟩:=Y c (aN ..);obtain⟨K',H,k2,k3,k4,k5⟩:=Ly (G:=G) h L c1 c2 c4;obtain⟨Z,s2,_,s4,_⟩:=Ob X c;obtain⟨K2,q1,q2,y,q4,q5,q6⟩:=FO l k4 H.w (λd j=>by
   obtain⟨d1,E1,d2,d3,d4⟩:=Y d (aX _ j)
   have V:=M d j
   exact⟨Ch d1 λe=>V e.symm,E1,jf s2 d2,d3.L H.tomE,by rw[Z];exact d4.L H.tomE d3 (k2 _ C) λ_ _ _ _ _ x=>x⟩) T
  refine⟨K2,H.H (by grind),k3.H q2,⟨y.b,λd j W=>y.f d j ?_,y.e,y.g,y.nd,y.mv⟩,k5.H q4,q5.H Z,q6.H s4⟩
  grind
def DU(h:XV K X)(y:X.mv=Mv.zero):rF S K X:=by
 have j:¬X.mv.A.nodes≠[]:=by rw[y];exact λe=>e rfl
 have A:¬X.mv.a.nodes≠[]:=by rw[y];exact λe=>e rfl
 exact⟨h.tl,h.e.1,h.pb,λe=>absurd e A,λe=>absurd e A,λe=>absurd e j,λe=>absurd e j,λe=>absurd e j,λe=>absurd e j,λe=>absurd e j,λe=>absurd e j,λe=>absurd e j,λe=>absurd e j,by rw[y];simp[Mv.zero],h.bl,h.b0,h.id⟩
def Cx.kY(X:Cx)(l:List (List Int)):Cx:={X with b:=X.mv.b,lay:=l,mv:=Mv.zero,wb:=false,wl:=false}
def RY(h:within X.lay v=some l):X.kX v=if((X.a.foldl Cx.kA (X.kY l)).iJ||decide ((X.a.foldl Cx.kA (X.kY l)).b<(X.a.foldl Cx.kA (X.kY l)).A))=true then(X.a.foldl Cx.kA (X.kY l)).iB else X.a.foldl Cx.kA (X.kY l):=by unfold Cx.kX;rw[h];rfl
theorem Fq(h:XI S K F J (λ_=>True) X)(kw:Kw S K)(a0:X.a.Pairwise λc d=>c.gL<d.gL)(hi:K.In X.mv.b)(jt:X.b<=X.mv.b)(hv:v=kB (K.lay X.mv.b)):∃K',Kx S K K' X.id/\zc G K K'/\XI S K' F J (λ_=>True) (X.kX v)/\Qg X (X.kX v):=by
 have y:=h.b;have hw:within X.lay v=some (K.lay X.mv.b):=by rw[hv,y.l];exact zZ (kw.sub hi y.e.1 jt) (kw.all y.e).1
 have a1:1<=X.vo:=by rw[y.v];exact S.A.2.2.1.1
 rw[RY hw];obtain⟨Z,hZ⟩:=gG (X.a.foldl Cx.kA (X.kY (K.lay X.mv.b)));rw[hZ];obtain⟨Y,hY⟩:=gG (X.kY (K.lay X.mv.b):Cx);rw[hY]at hZ;have T:Y.id=X.id/\Y.b=X.mv.b/\Y.a=X.a/\Y.vo=X.vo:=by rw[<-hY];exact⟨rfl,rfl,rfl,rfl⟩
 have a2:XI S K F J (λ_=>False) Y:=by rw[<-hY];exact⟨⟨y.n,y.m,y.v,y.c,hi,rfl⟩,λ_ _ e=>e.elim,h.e,h.g,h.nd,DU ⟨h.mv.tl,hi,h.mv.pb,h.mv.bl,h.mv.b0,h.mv.id⟩ rfl⟩
 have qY:Qg X Y:=by rw[<-hY];exact Qg.of rfl rfl (.inl rfl) ⟨rfl,rfl⟩ (.inl rfl)
 obtain⟨K',k1,k2,A,k4,k5,k6⟩:=FO (G:=G) X.a a2 kw (λc hc=>⟨jf T.2.2.1 hc,X.b,jf T.2.1 jt,y.e,by rw[T.1];exact h.f c hc trivial⟩) (a0.imp λe=>C);rw[T.1]at k1;rw[hZ]at A k4 k5 k6;have M:XI S K' F J (λ_=>True) Z:=⟨A.b,λd j _=>A.f d j ?_,A.e,A.g,A.nd,A.mv⟩
 .split
  .obtain⟨m1,m2,m3⟩:=wG (S:=S) (X:=Z) (A.mv.a A.b.e) (by rw[k6,T.2.2.2];exact a1);exact⟨K',k1,k2,M.sc m2 m1,(qY.H k4).H m3⟩
  exact⟨K',k1,k2,M,qY.H k4⟩
 right;have W:∀(l:List jn) (V:Cx) (d:jn),d∈(l.foldl Cx.kA V).a->∃c∈V.a,c.gL=d.gL:=by
  intro l;induction l with
  |nil=>exact λV d j=>⟨d,j,rfl⟩
  |cons c l ih=>
   intro V d j;obtain⟨c',L,e⟩:=ih (V.kA c) d j;have a3:∀(V:Cx) (c:jn) (d:jn),d∈(V.kA c).a->∃c'∈V.a,c'.gL=d.gL:=by
    intro V c d j;unfold Cx.kA Cx.ku Cx.dO at j;have hp:∀(V:Cx) (c:jn),d∈(V.put c).a->∃c'∈V.a,c'.gL=d.gL:=λV c j=>(GK (X:=V) (c':=c) d.gL).2 ⟨d,j,rfl⟩;have hf:∀(V:Cx) (c:jn) (r:Rz),d∈(V.fin c r).a->∃c'∈V.a,c'.gL=d.gL:=λV c r j=>⟨d,(aU.1 j).1,rfl⟩;repeat' split at j
    all_goals first|exact⟨d,j,rfl⟩|exact hf _ _ _ j|exact hp {V with gJ:=V.gJ+1} _ j
   obtain⟨c2,h2,e2⟩:=a3 V c c' L;exact⟨c2,h2,e2.H e⟩
 obtain⟨c',L,e⟩:=W X.a Y d (jf hZ j);rw[T.2.2.1]at L;exact⟨c',L,e⟩
end
def Dq(S:Cf)(K:Kn)(F:Nat->Fl)(J:Jq)(gQ:Ct->Int->Prop)(X X':Cx):Prop:=∃K',Kx S K K' X.id/\zc gQ K K'/\XI S K' F J (λ_=>True) X'/\Qg X X'
theorem A7(l):∀z∈l,z.2.ba<=(jC l).1:=by
 have step:∀(b:Int×List Int) (v:Vo),b.1<=(pR b v).1/\v.ba<=(pR b v).1:=λb v=>by
  unfold pR;split
  .rename_i h;simp at h;omega
  simp_all
 have j:∀(l:List (Int×Vo)) (b:Int×List Int),b.1<=(l.foldl (λb z=>pR b z.2) b).1/\∀z∈l,z.2.ba<=(l.foldl (λb z=>pR b z.2) b).1:=by
  intro l;induction l with
  |nil=>exact λb=>⟨iG,bz⟩
  |cons y l H=>
   intro b;obtain⟨A,L⟩:=H (pR b y.2);obtain⟨M,S⟩:=step b y.2;refine⟨bt M A,λz hz=>?_⟩;obtain rfl|hz:=bh.1 hz
   .exact bt S A
   exact L z hz
 exact(j l (0,[])).2
section
variable{S:Cf}{K K' K2:Kn}{F:Nat->Fl}{J J':Jq}{b:Bd}
def Dq.D(h:XI S K F J (λ_=>True) X)(j:Kw S K):Dq S K F J G X X:=⟨K,Kx.refl j,zc.D rfl,h,Qg.refl X⟩
def Dq.mv(h:XI S K F J (λ_=>True) X)(y:Kw S K)(j:rF S K X'/\Sc X X'/\Qg X X'):Dq S K F J G X X':=⟨K,Kx.refl y,zc.D rfl,h.sc j.2.1 j.1,j.2.2⟩
def XB.XJ(h:XB S K X):1<=X.vo:=by rw[h.v];exact S.A.2.2.1.1
def Ha(h:XI S K F J (λ_=>True) X)(V:Kw S K)(j:X.a.Pairwise λc d=>c.gL<d.gL)(W:X.mv.A.nodes≠[]){M:Int}{val:List Int}(y:K.b X.mv.b M val)(Y:Mj S Q)(Z:∀q∈Q,K.d q X.mv.b M):Dq S K F J G X (X.kX val):=by have A:=h.mv.me W;have he:=h.b.e.1;obtain⟨K1,L,T,k3,k4,k5⟩:=PD (id:=X.id) V ⟨C,A.2⟩ y Y Z;obtain⟨K2,q1,q2,q3,q4⟩:=Fq (h.L L.tomE (λca=>λt a e _ _ x=>j9 T x) (λe b v x _=>j9 k3 x) λ_ _ _ _ _ x=>x) L.w j k4 C k5;exact⟨K2,L.H q1,(zc.D T).H q2,q3,q4⟩
def GA(h:XI S K F J (λ_=>True) X)(M:Kw S K)(hx:Xk b X)(T:X.mv.A.nodes≠[])(h7:X.mv.A.A.kd=7):Dq S K F J G X X.kr:=by
 have V:=h.b;have hq:py X.mv.A:=py.of hx.vt;have hi:∀x∈X.mv.A.nodes,n9 S.v x:=λx a2=>by rw[<-V.v];exact hx.vt.id x a2
 have a3:=h.mv.ep T;have A:∀z∈X.mv.A.D,0<=z.2.ba/\(0<z.2.ba->K.b X.mv.b z.2.ba z.2.val/\K.d z.1 X.mv.b z.2.ba)/\(X.mv.c=true->z.1∈K.cq X.mv.b.toNat->K.cb X.mv.b.toNat<=z.2.ba):=λz W=>by have ha:=h.mv.an T z W;have Y:=ha.r7 h7;rw[a3]at Y;exact⟨ha.b0,Y⟩
 unfold Cx.kr;dsimp only;split
 .rename_i j;unfold qE at j|-;rcases oB (X.mv.A.D.filter λz=>decide (X.mf<=(X.mv.A.D.filter λy=>y.2.ba==z.2.ba).length))with e|⟨z,W,e⟩
  .rw[e]at j;exact absurd j bT
  rw[e]at j|-;obtain⟨z1,z2⟩:=aU.1 W;simp only[ZX]at z2;rw[V.mf]at z2;have Z:(X.mv.A.D.filter λy=>y.2.ba==z.2.ba).Sublist X.mv.A.D:=cE;refine Ha h M hx.a.gL T ((A z z1).2.1 j).1 (wR hq hi Z z2) λq a4=>?_;obtain⟨y,hy,rfl⟩:=aD.1 a4;obtain⟨y1,y2⟩:=aU.1 hy;have y3:y.2.ba=z.2.ba:=je y2;have:=((A y y1).2.1 (jf y3 j)).2;rwa[y3]at this
 split
 .exact Dq.D h M
 rename_i a0;split
 .rename_i H;have hc:=h.mv.hc T H;have a7:=h.mv.me T;have a8:=V.e.1;have a1:K.In X.mv.b:=⟨C,hc.1⟩;obtain⟨c1,c2,c3⟩:=M.lc X.mv.b.toNat C (gM hc.1);rw[V.mf]at a0;obtain⟨q,q1,q2⟩:=Ri c2 (wR hq hi (dy _) C);obtain⟨y,hy,rfl⟩:=aD.1 q2;have L:=A7 X.mv.A.D y hy;have a9:=(A y hy).2.2 H q1;have aa:=(M.f _ _ _ c1).2.1;obtain e|⟨z,W,e⟩:=oB X.mv.A.D
  .rw[e]at L;have:y.2.ba<=0:=L;omega
  rw[e]at L|-;have a6:y.2.ba<=z.2.ba:=L;have a5:=((A z W).2.1 C).1;obtain⟨K2,r1,r2,r3,r4⟩:=Fq (G:=G) h M hx.a.gL a1 C (NS M.toKv a1 C a5 C);exact⟨K2,r1,r2,r3,r4⟩
 rename_i H;exact Dq.mv h M (Em h.mv V.e V.XJ T (je H) h7)
def Ik(h:XI S K F J (λ_=>True) X)(Y:Kw S K)(M:Xk b X)(L:X.mv.A.nodes≠[])(Z:X.mv.A.A.kd=6):Dq S K F J G X X.kx:=by
 have hb:=h.b;have hq:py X.mv.A:=py.of M.vt;have hi:∀x∈X.mv.A.nodes,n9 S.v x:=λx T=>by rw[<-hb.v];exact M.vt.id x T
 have a0:=h.mv.ep L;obtain⟨p1,p2,_⟩:=h.mv.q6 L Z;unfold Cx.kx;split
 .rename_i j;rw[hb.mf]at j;have A:(kQ X.mv.A.D).Sublist X.mv.A.D:=cE;have H:∀z∈kQ X.mv.A.D,K.d z.1 X.mv.b X.mv.M/\K.b X.mv.b X.mv.M X.mv.value:=λz V=>by obtain⟨z1,z2⟩:=aU.1 V;have:=(h.mv.an L z z1).a6 Z (je z2);simp_all
  obtain⟨z,V⟩:=List.exists_mem_of_length_pos (l:=kQ X.mv.A.D) (by unfold Cf.mf at j;omega);refine Ha h Y M.a.gL L (H z V).2 (wR hq hi A j) λq W=>?_;obtain⟨y,hy,rfl⟩:=aD.1 W;exact(H y hy).1
 exact Dq.D h Y
def yT(h:XI S K F J (λ_=>True) X)(Y:Kw S K)(M:Xk b X)(Z:X.mv.A.nodes≠[])(h5:X.mv.A.A.kd=5):Dq S K F J G X X.jB:=by
 have y:=h.b;obtain⟨K',A,T,k3,k4,k5⟩:=Fe h.mv y Y Z h5 (py.of M.vt) λx H=>by rw[<-y.v];exact M.vt.id x H
 refine⟨K',A,zc.D T,?_,k5⟩;have V:∀ca:Int,uT K K' X.id ca:=λca=>λt a e _ _ x=>j9 T x;obtain⟨⟨⟨s1,s2⟩,s3,s4,W⟩,e,l,p,r⟩:=k4;have j:=y.L A.tomE;exact⟨⟨s1.H j.n,s2.H j.m,s3.H j.v,s4.H j.c,by rw[e];exact j.e,by rw[l,e];exact j.l⟩,by rw[p,W,e];exact λc hc hP=>(h.f c hc hP).L A.tomE y.e (V _) λ_ _ _ _ _ x=>x,by rw[r,W];exact λn r hr hw=>(h.e n r hr hw).L A.tomE (V _) λ_ _ _ _ _ x=>x,by rw[p,r];exact h.g,by rw[p];exact h.nd,k3⟩
def JY(h:XI S K F J (λ_=>True) X)(j:Kw S K)(A:Xk b X)(H:X.mv.a.nodes≠[]):Dq S K F J G X X.ld:=by
 obtain⟨L,y⟩:=h.mv.sc H;unfold Cx.ld;split
 .exact Dq.mv h j (vB h.mv h.b.e h.b.XJ y L)
 split
 .rename_i M;exact yT h j A y M
 exact Dq.D h j
def RD(h:XI S K F J (λ_=>True) X)(kw:Kw S K)(hx:Xk b X){fr nr lt:Int}{v:Vo}(hv:BM b v)(hl:0<=lt/\lt<=b.E+1)(jt:lt<=K.a.length)(a7:nr<=X.gJ)(ha:X.mv.A.nodes≠[]->X.mv.A.A.nr=nr->fr∈X.mv.A.nodes->FL S K X.mv.c X.mv.A.A (fr,v)):Dq S K F J G X (X.kK fr nr lt v):=by
 unfold Cx.kK;split
 .rename_i hw;obtain⟨w1,w2,w3⟩:=Qn.jL.1 hw;dsimp only;obtain⟨m1,m2,m3,m4⟩:=CO h.mv h.b.e h.b.XJ jt;have hY:=h.sc m2 m1;have a1:=hx.gR hl;split
  .rename_i M;obtain⟨v1,v2,v3⟩:=Qn.jL.1 M;have T:(X.gR lt).mv=X.mv:=by
    obtain m4|m4:=m4
    .exact m4
    omega
   have hn:X.mv.A.nodes≠[]:=bM w2;have a2:=ha hn w1 w2;obtain⟨Y,a5⟩:=gG (X.gR lt);rw[a5]at hY a1 M T m2 m3|-;obtain⟨Z,y⟩:=gG (({Y with mv:={Y.mv with A:=Y.mv.A.add fr v,D:=if Y.mv.A.A.kd=7/\Y.mv.D≠[]then Y.mv.A.D++[(fr,v)]else Y.mv.D}}:Cx):Cx);have V:Xk (b.up 1) Z:=by rw[<-y];exact a1.pg (hv.L (b.A bT).toln) M
   have sZ:Sc Y Z:=by rw[<-y];exact⟨⟨⟨rfl,rfl⟩,rfl,rfl,rfl⟩,rfl,rfl,rfl,rfl⟩
   have qZ:Qg Y Z:=by rw[<-y];exact Qg.of rfl rfl (.inr ⟨rfl,rfl,rfl⟩) ⟨rfl,rfl⟩ (.inr ⟨rfl,rfl⟩)
   have W:Y.mv.A.nodes≠[]:=jf T hn;have a3:FL S K Y.mv.c Y.mv.A.A (fr,v):=jf T a2;have a6:rF S K Z:=by
    have j:=hY.mv;rw[<-y];refine⟨j.tl,j.e0,j.pb,j.sl,j.sc,j.ep,j.me,j.nc,j.hc,j.k,λe z hz=>?_,j.q5,j.q6,λz hz hb=>?_,j.bl,j.b0,j.id⟩
    .obtain hz|hz:=aT.1 hz
     .exact j.an e z hz
     simp at hz;subst hz;exact a3
    have hz':z∈(if Y.mv.A.A.kd=7/\Y.mv.D≠[]then Y.mv.A.D++[(fr,v)]else Y.mv.D):=hz;split at hz'
    .rename_i h7;have a4:∀z,FL S K Y.mv.c Y.mv.A.A z->0<z.2.ba->K.b Y.mv.b z.2.ba z.2.val:=λz hz hb=>by have:=((hz.r7 h7.1).1 hb).1;rwa[j.ep W]at this
     obtain hz'|hz':=aT.1 hz'
     .exact a4 z (j.an W z hz') hb
     simp at hz';subst hz';exact a4 _ a3 hb
    exact j.bg z hz' hb
   have L:XI S K F J (λ_=>True) Z:=hY.sc sZ a6;have a0:Z.mv.A.nodes≠[]:=j9 y W;have gN:Z.id=X.id:=sZ.s.2.2.2.H m2.s.2.2.2;have fin:∀X2,Dq S K F J G Z X2->Dq S K F J G X X2:=λX2⟨K',d1,d2,d3,d4⟩=>⟨K',by rwa[gN]at d1,d2,d3,(m3.H qZ).H d4⟩;split
   .rename_i k;have q:=fin _ (GA L kw V a0 (j9 y k));rwa[<-y]at q
   split
   .rename_i k;have q:=fin _ (yT L kw V a0 (j9 y k));rwa[<-y]at q
   split
   .rename_i k;have q:=fin _ (Ik L kw V a0 (j9 y k));rwa[<-y]at q
   have q:=fin _ (Dq.D L kw);rwa[<-y]at q
  exact⟨K,Kx.refl kw,zc.D rfl,hY,m3⟩
 exact Dq.D h kw
def JO(h:XI S K F J (λ_=>True) X)(Z:Kw S K)(M:Xk b X){fr nr:Int}{A:An}(hA:Ei b A)(h5:A.wh=5->A.ep<=K.a.length)(ha:∀c∈X.a,c.q.A.nr=nr->fr∈c.q.nodes->xU S K (F c.gL) fr c.q.A A):Dq S K F J G X (X.jJ fr nr A):=by
 have W:A.wh=5->Dq S K F J G X (X.gR A.ep):=λe=>by obtain⟨m1,m2,m3,_⟩:=CO h.mv h.b.e h.b.XJ (h5 e);exact Dq.mv h Z ⟨m1,m2,m3⟩
 unfold Cx.jJ;split
 .split
  .rename_i e;exact W e
  have j:=h.mv;exact Dq.mv h Z ⟨⟨j.tl,j.e0,j.pb,j.sl,j.sc,j.ep,j.me,j.nc,j.hc,j.k,j.an,j.q5,j.q6,j.bg,j.bl,j.b0,j.id⟩,⟨⟨⟨rfl,rfl⟩,rfl,rfl,rfl⟩,rfl,rfl,rfl,rfl⟩,Qg.of rfl rfl (.inr ⟨rfl,rfl,rfl⟩) ⟨rfl,rfl⟩ (.inr ⟨rfl,rfl⟩)⟩
 split
 .rename_i hw;obtain⟨w1,w2,w3⟩:=Qn.jL.1 hw;split
  .rename_i e;exact W e
  have j:=h.mv;have hs:({X with mv:={X.mv with a:=X.mv.a.add fr A}}:Cx).mv.a.nodes≠[]:=bM w2;have a5:Xk b {X with mv:={X.mv with a:=X.mv.a.add fr A}}:=M.vk M.me M.mb (M.sl.add hw hA) M.vt M.bg M.bl M.mv;have a6:rF S K {X with mv:={X.mv with a:=X.mv.a.add fr A}}:=⟨j.tl,j.e0,j.pb,j.sl,j.sc,j.ep,j.me,j.nc,j.hc,j.k,j.an,j.q5,j.q6,j.bg,j.bl,j.b0,j.id⟩;have sZ:Sc X {X with mv:={X.mv with a:=X.mv.a.add fr A}}:=⟨⟨⟨rfl,rfl⟩,rfl,rfl,rfl⟩,rfl,rfl,rfl,rfl⟩;obtain⟨K',d1,d2,d3,d4⟩:=JY (G:=G) (h.sc sZ a6) Z a5 hs;have q0:Qg X {X with mv:={X.mv with a:=X.mv.a.add fr A}}:=Qg.of rfl rfl (.inr ⟨rfl,rfl,rfl⟩) ⟨rfl,rfl⟩ (.inr ⟨rfl,rfl⟩);exact⟨K',d1,d2,d3,q0.H d4⟩
 split
 .exact Dq.D h Z
 rename_i c hf;have V:=bu hf;have hw:=cR hf;obtain⟨w1,w2,w3⟩:=Qn.jL.1 hw;split
 .rename_i e;exact W e
 rename_i a7;have a0:=h.f c V trivial;have a9:=M.YZ V hw hA;obtain⟨c1,T⟩:=gG (({c with q:=c.q.add fr A}:jn):jn);have y:c1.gL=c.gL:=by rw[<-T]
 have a8:c1∈(X.put c1).a:=vx V y;have hY:XI S K F J (λn=>n≠c.gL) (X.put c1):=by
  refine⟨⟨h.b.n,h.b.m,h.b.v,h.b.c,h.b.e,h.b.l⟩,λd L hP=>?_,h.e,λd L=>?_,λd L d' a1 e=>?_,h.mv.A rfl rfl rfl rfl rfl rfl⟩
  .obtain e|⟨Y,_⟩:=jV L
   .rw[e,y]at hP;exact absurd rfl hP
   exact h.f d Y trivial
  .obtain e|⟨Y,_⟩:=jV L
   .rw[e,y];exact h.g c V
   exact h.g d Y
  obtain q|⟨Y,e2⟩:=jV L
  .obtain q'|⟨a2,a3⟩:=jV a1
   .rw[q,q']
   exact absurd (by rw[<-e,q]) a3
  obtain q'|⟨a2,a3⟩:=jV a1
  .exact absurd (kz e q') e2
  exact h.nd d Y d' a2 e
 have H:=MT (S:=S) (K:=K) (F:=F c.gL) (J:=J) (X:=X.put c1) (c:=c) (u:=fr) (A:=A) ⟨h.b.n,h.b.m,h.b.v,h.b.c,h.b.e,h.b.l⟩ Z a0 w2 (ha c V w1 w2) a7 (py.of ((M.f c V).q.add hw hA)) λe=>((M.f c V).c2 e).1;rw[T]at H|-;rw[<-y]at H;obtain⟨x1,x2⟩:=hY.step (c:=c1) (mE.refl ..) (λcl ca _=>uT.refl K cl ca) rfl a8 H;refine⟨K,Kx.refl Z,zc.D rfl,⟨x1.b,λd L _=>x1.f d L ?_,x1.e,x1.g,x1.nd,x1.mv⟩,Qg.H ?_ x2⟩
 .by_cases e:d.gL=c.gL
  .exact .inr (e.H y.symm)
  exact .inl e
 have a4:∀d∈(X.put c1).a,∃c∈X.a,c.gL=d.gL/\c.q.A=d.q.A/\c.q.nodes=d.q.nodes:=λd L=>by
  obtain e|⟨Y,_⟩:=jV L
  .refine⟨c,V,kz e y,?_,?_⟩
   .rw[e,<-T];rfl
   rw[e,<-T];rfl
  exact⟨d,Y,rfl,rfl,rfl⟩
 refine⟨⟨iG,λd L hn=>.inl (a4 d L),λ_=>.inl ⟨rfl,rfl,rfl⟩⟩,λhN=>hN.Ru 4 iG (λd L hn=>?_) (λe=>.inl ⟨e,rfl⟩) (λe=>.inl ⟨e,rfl⟩) λe=>.inl ⟨e,rfl⟩⟩;obtain⟨c2,z1,z2,z3,z4⟩:=a4 d L;exact .inl ⟨c2,z1,jf z4 hn,mT z3⟩
end
end Go.Proofs.YtbghhbpacijmmaaGreat
