import Derived.Test.YtbghhbpacijmmaaGreatL14
open Go.Proofs.Tryz
namespace Go.Proofs.YtbghhbpacijmmaaGreat
set_option maxRecDepth 99999
set_option maxHeartbeats 0
set_option linter.defProp false
open Go.RowKit Go.Maps
attribute [local go_sem ↓] Go.wp_at_zero Go.wp_at_succ
variable {W W2:Wd} {w:World} {aY qb:Nat->Nat} {g k0 n ce m v k i j a:Nat} {c:Kl} {D D':Nat->Ct} {mk mk':Int} {V:WV} {res:List Rz} {R:Rz} {N:Pn} {cs:List Kl} {ca aa:Option Addr} {vv:List Int}
structure SA (N:Nat) (cs:List Kl) (D:Nat→Ct) (i:Nat) (c:Kl):Prop where
 ac:c.a=0∧c.b=i
 fi:c.fin≠0∧c.d<c.fin
 kd:c.kind=1∨c.kind=2∨c.kind=3∨c.kind=4
 vl:c.kind=1→c.value=je i
 a:c.kind=1→c.r.val=[]∧((∃x:Nat,x<N∧c.r.wh=1∧c.r.ad=x∧D x=⟨8,iM 0,i,je i⟩∧(x:Int)∈c.c)∨(c.r.wh=7∧c.r.ad=0∧∃t∈c.c,(N:Int)≤t))
 b:c.kind=2∨c.kind=3→∃x:Nat,c.pos=x∧((c.r=⟨4,0,[]⟩∧∃(k:Nat) (o:Kl),k<i∧cs[k]?=some o∧o.kind=4∧c.pos<o.pos)∨(c.kind=2∧c.r=⟨3,0,[]⟩)∨((D x).kd≠0∧c.r=⟨(D x).kd,0,(D x).val⟩∧(D x).ca≤i))
 t:c.kind=4→c.r=⟨1,0,[]⟩
structure Lg (N:Nat) (cs:List Kl) (D:Nat→Ct) (mk:Int):Prop where
 C7:∀(i:Nat) (c:Kl),cs[i]?=some c→SA N cs D i c
 ord:∀(i j:Nat) (c d:Kl),i<j→cs[i]?=some c→cs[j]?=some d→c.d<d.d∧Ut c d
 C5:∀x,(D x).kd≠0→∃(k:Nat) (o:Kl),cs[k]?=some o∧(D x).cl=iM 0∧(D x).ca=k∧(((D x).kd=8∧(D x).val=je k∧o.kind=1∧o.r.wh=1∧o.r.ad=x)∨((D x).kd=9∧(D x).val=[]∧o.kind=3∧o.pos=x))
 EB:0≤mk∧(0<mk→∃(k:Nat) (o:Kl),cs[k]?=some o∧o.kind=4∧o.pos=mk)
 low:∀(k:Nat) (o:Kl),cs[k]?=some o→o.kind=4→o.pos≤mk
section
variable{N:Nat}
theorem SA.B (h:SA N cs D i c) (hL:Lg N cs D mk) (hb:(uF c).2.2=true):∃x:Nat,uF c=((x:Int),(D x).val,true)∧(D x).kd≠0∧(D x).ca≤i∧(c.kind=1→(D x).ca=i∧x<N):=by
 unfold uF at hb⊢
 rw[if_neg h.fi.1] at hb⊢
 by_cases h1:c.kind=1
 ·rw[if_pos h1] at hb⊢
  obtain⟨_,⟨x,hx,e1,e2,e3,_⟩|⟨e1,_⟩⟩:=h.a h1
  ·rw[if_pos e1]
   exact⟨x,by rw[e2,h.vl h1,e3],by rw[e3];simp,by rw[e3];exact Int.le_refl _,fun _=>⟨by rw[e3],hx⟩⟩
  ·rw[if_neg (by rw[e1];decide)] at hb
   simp at hb
 ·rw[if_neg h1] at hb⊢
  by_cases h2:c.kind=2∨c.kind=3
  ·rw[if_pos h2] at hb⊢
   obtain⟨x,ep,⟨e,_⟩|⟨_,e⟩|⟨e1,e2,e3⟩⟩:=h.b h2
   ·rw[e] at hb;simp at hb
   ·rw[e] at hb;simp at hb
   ·obtain⟨k,o,_,_,_,⟨g1,_⟩|⟨g1,g2,_⟩⟩:=hL.C5 x e1
    ·rw[e2]
     dsimp only
     rw[if_pos g1,ep]
     exact⟨x,rfl,e1,e3,fun e=>absurd e h1⟩
    ·rw[e2]
     dsimp only
     rw[if_neg (by rw[g1];decide),if_pos g1,ep]
     exact⟨x,by rw[g2],e1,e3,fun e=>absurd e h1⟩
  ·rw[if_neg h2] at hb
   simp at hb
theorem Lg.le (hL:Lg N cs D mk) {j k:Nat} {c d:Kl} (hj:j≤k) (hc:cs[j]?=some c) (hd:cs[k]?=some d):c.d<d.fin:=by
 have:=(hL.C7 k d hd).fi.2
 by_cases e:j=k
 ·subst e
  rw[hc] at hd
  cases hd
  exact this
 ·have:=(hL.ord j k c d (by omega) hc hd).1
  omega
theorem sA {cs:List Kl} {c:Kl} (h:c∈cs):∃i:Nat,cs[i]?=some c:=by
 obtain⟨i,hi,rfl⟩:=List.mem_iff_getElem.1 h
 exact⟨i,List.getElem?_eq_getElem hi⟩
theorem Lg.one (hL:Lg N cs D mk) (hl:cs.length≤4294967295):IW N cs where
 UW:=fun c hc _ hk=>by
  obtain⟨i,hi⟩:=sA hc
  obtain⟨e,⟨x,hx,e1,e2,_,e3⟩|⟨e1,e2,t,ht,e3⟩⟩:=(hL.C7 i c hi).a hk
  ·exact⟨e,.inl ⟨e1,by rw[e2];exact e3,by omega,by omega⟩⟩
  ·exact⟨e,.inr ⟨e1,e2,t,ht,.inr e3⟩⟩
 Uv:=fun c hc _ hk=>by
  obtain⟨i,hi⟩:=sA hc
  have h:=hL.C7 i c hi
  rcases h.kd with e|e|e|e
  ·exact absurd e hk
  ·obtain⟨x,_,⟨e2,_⟩|⟨_,e2⟩|⟨e1,e2,_⟩⟩:=h.b (.inl e)
   ·rw[e2];exact⟨rfl,.inl rfl,.inl ⟨e,.inr (.inr (.inr rfl))⟩⟩
   ·rw[e2];exact⟨rfl,.inl rfl,.inl ⟨e,.inr (.inr (.inl rfl))⟩⟩
   ·obtain⟨k,o,_,_,_,⟨g1,_⟩|⟨g1,g2,_⟩⟩:=hL.C5 x e1
    ·rw[e2];exact⟨rfl,.inr g1,.inl ⟨e,.inl g1⟩⟩
    ·rw[e2];exact⟨rfl,.inl g2,.inl ⟨e,.inr (.inl g1)⟩⟩
  ·obtain⟨x,_,⟨e2,_⟩|⟨e3,e2⟩|⟨e1,e2,_⟩⟩:=h.b (.inr e)
   ·rw[e2];exact⟨rfl,.inl rfl,.inr (.inl ⟨e,.inr (.inr rfl)⟩)⟩
   ·omega
   ·obtain⟨k,o,_,_,_,⟨g1,_⟩|⟨g1,g2,_⟩⟩:=hL.C5 x e1
    ·rw[e2];exact⟨rfl,.inr g1,.inr (.inl ⟨e,.inl g1⟩)⟩
    ·rw[e2];exact⟨rfl,.inl g2,.inr (.inl ⟨e,.inr (.inl g1)⟩)⟩
  ·rw[h.t e];exact⟨rfl,.inl rfl,.inr (.inr (.inl ⟨e,rfl⟩))⟩
 uq:=fun i j c o hc ho k1 k2 e=>by
  rw[(hL.C7 i c hc).vl k1,(hL.C7 j o ho).vl k2] at e
  have:=(List.getElem?_eq_some_iff.1 hc).1
  have:=(List.getElem?_eq_some_iff.1 ho).1
  exact xg (by omega) (by omega) e
 UN:=fun c hc a hb=>by
  obtain⟨i,hi⟩:=sA hc
  obtain⟨x,e1,e2,e3,_⟩:=(hL.C7 i c hi).B hL (by rw[hb])
  rw[hb] at e1
  obtain⟨rfl,ev⟩:a=x∧(D x).val=[]:=by
   have:=congrArg Prod.fst e1
   have:=congrArg (fun z=>z.2.1) e1
   simp at*
   exact⟨by assumption,by simp_all⟩
  obtain⟨k,o,ho,_,hk,⟨_,g2,_⟩|⟨_,_,g3,g4⟩⟩:=hL.C5 x e2
  ·rw[g2] at ev;exact absurd ev (Fx k)
  ·exact⟨o,List.mem_of_getElem? ho,g3,g4,hL.le (by omega) ho hi⟩
 VY:=fun c hc a v hv hb=>by
  obtain⟨i,hi⟩:=sA hc
  obtain⟨x,e1,e2,e3,_⟩:=(hL.C7 i c hi).B hL (by rw[hb])
  rw[hb] at e1
  obtain⟨rfl,rfl⟩:a=x∧v=(D x).val:=by
   simp at e1
   exact e1
  obtain⟨k,o,ho,_,hk,⟨_,g2,g3,g4,g5⟩|⟨_,g2,_⟩⟩:=hL.C5 x e2
  ·have ht:=hL.C7 k o ho
   obtain⟨_,⟨y,_,_,f2,_,f4⟩|⟨f1,_⟩⟩:=ht.a g3
   ·rw[g5] at f2
    exact⟨o,List.mem_of_getElem? ho,g3,by rw[ht.vl g3,g2],hL.le (by omega) ho hi,by rw[f2];exact f4,.inr ⟨g4,g5⟩⟩
   ·rw[g4] at f1;exact absurd f1 (by decide)
  ·exact absurd g2 hv
 V7:=fun c hc hk ht=>by
  obtain⟨i,hi⟩:=sA hc
  have h:=hL.C7 i c hi
  unfold LM at ht
  rw[if_neg h.fi.1,if_neg hk] at ht
  have h2:c.kind=2∨c.kind=3:=by
   rcases h.kd with e|e|e|e
   ·rw[if_neg (by omega)] at ht;exact absurd rfl ht
   ·exact .inl e
   ·exact .inr e
   ·exact absurd e hk
  have h4:c.r.wh=4:=Classical.byContradiction fun e=>ht (if_neg fun g=>e g.2.2)
  obtain⟨x,ep,⟨_,k,o,hki,ho,g1,g2⟩|⟨_,e⟩|⟨e1,e2,_⟩⟩:=h.b h2
  ·exact⟨o,List.mem_of_getElem? ho,g1,g2,hL.le (by omega) ho hi⟩
  ·rw[e] at h4;exact absurd h4 (by decide)
  ·rw[e2] at h4
   obtain⟨_,_,_,_,_,⟨g1,_⟩|⟨g1,_⟩⟩:=hL.C5 x e1
   ·rw[show(D x).kd=4 from h4] at g1;exact absurd g1 (by decide)
   ·rw[show(D x).kd=4 from h4] at g1;exact absurd g1 (by decide)
 two:=fun i j c o hc ho hij hb hb'=>by
  obtain⟨x,e1,e2,e3,e4⟩:=(hL.C7 i c hc).B hL hb
  obtain⟨y,f1,f2,f3,f4⟩:=(hL.C7 j o ho).B hL hb'
  rw[e1,f1]
  dsimp only
  refine⟨⟨fun e=> ?_,fun hv e=> ?_⟩,fun⟨k1,k2,e⟩=> ?_⟩
  ·have:x=y:=by omega
   rw[this]
  ·obtain⟨k,p,hp,_,hk,⟨_,g2,_,_,g5⟩|⟨_,g2,_⟩⟩:=hL.C5 x e2
   ·obtain⟨l,q,hq,_,hl',⟨_,h2,_,_,h5⟩|⟨_,h2,_⟩⟩:=hL.C5 y f2
    ·rw[g2,h2] at e
     have b1:=(List.getElem?_eq_some_iff.1 hp).1
     have b2:=(List.getElem?_eq_some_iff.1 hq).1
     have:=xg (by omega) (by omega) e
     subst this
     rw[hp] at hq
     cases hq
     omega
    ·rw[e,h2] at hv;exact absurd rfl hv
   ·exact absurd g2 hv
  ·have:x=y:=by omega
   subst this
   have:=(e4 k1).1
   have:=(f4 k2).1
   omega
 KW:=fun c hc o ho hf iV=>by
  obtain⟨i,hi⟩:=sA hc
  obtain⟨j,hj⟩:=sA ho
  by_cases e:j<i
  ·exact(hL.ord j i o c e hj hi).2
  ·have:=hL.le (show i≤j by omega) hi hj
   omega
end
section
variable{N:Nat}{y:Kl}
theorem Lg.Sj (hL:Lg N cs D mk) (hc:cs[i]?=some c):LM c≤mk:=by
 have h:=hL.C7 i c hc
 unfold LM
 rw[if_neg h.fi.1]
 have:=hL.EB.1
 by_cases h4:c.kind=4
 ·rw[if_pos h4];exact hL.low i c hc h4
 ·rw[if_neg h4]
  split
  ·rename_i e
   have h2:c.kind=2∨c.kind=3:=by have:=h.kd;omega
   obtain⟨x,ep,⟨_,k,o,hki,ho,g1,g2⟩|⟨_,e'⟩|⟨e1,e2,_⟩⟩:=h.b h2
   ·have:=hL.low k o ho g1
    omega
   ·rw[e'] at e;exact absurd e.2.2 (by decide)
   ·have e4:(D x).kd=4:=by have:=e.2.2;rw[e2] at this;exact this
    obtain⟨_,_,_,_,_,⟨g1,_⟩|⟨g1,_⟩⟩:=hL.C5 x e1
    ·rw[e4] at g1;exact absurd g1 (by decide)
    ·rw[e4] at g1;exact absurd g1 (by decide)
  ·exact this
theorem SA.L (h:SA N cs D i c) (hD:∀x,(D x).kd≠0→D' x=D x) (y:Kl):SA N (cs++[y]) D' i c:=
 ⟨h.ac,h.fi,h.kd,h.vl,fun e=>by
  obtain⟨e0,⟨x,hx,e1,e2,e3,e4⟩|e1⟩:=h.a e
  ·exact⟨e0,.inl ⟨x,hx,e1,e2,by rw[hD x (by rw[e3];simp)];exact e3,e4⟩⟩
  ·exact⟨e0,.inr e1⟩,fun e=>by
  obtain⟨x,ep,⟨e1,k,o,g1,g2,g3⟩|e1|⟨e1,e2⟩⟩:=h.b e
  ·exact⟨x,ep,.inl ⟨e1,k,o,g1,by rw[List.getElem?_append_left (List.getElem?_eq_some_iff.1 g2).1];exact g2,g3⟩⟩
  ·exact⟨x,ep,.inr (.inl e1)⟩
  ·exact⟨x,ep,.inr (.inr (by rw[hD x e1];exact⟨e1,e2⟩))⟩,h.t⟩
theorem vx {cs:List Kl} {y z:Kl} {i:Nat} (h:(cs++[y])[i]?=some z):cs[i]?=some z∨(i=cs.length∧z=y):=by
 by_cases e:i<cs.length
 ·rw[List.getElem?_append_left e] at h
  exact .inl h
 ·rw[List.getElem?_append_right (by omega)] at h
  have:i-cs.length<1:=by have:=(List.getElem?_eq_some_iff.1 h).1;simpa using this
  have e2:i-cs.length=0:=by omega
  rw[e2] at h
  simp at h
  exact .inr ⟨by omega,h.symm⟩
theorem Lg.push (hL:Lg N cs D mk) (hD:∀x,(D x).kd≠0→D' x=D x) (ht:SA N (cs++[y]) D' cs.length y) (hb:∀c∈cs,c.d<y.d)
 (hg:∀(i:Nat) (c:Kl),cs[i]?=some c→Ut c y)
 (hd:∀x,(D' x).kd≠0→D' x=D x∨((D' x).cl=iM 0∧(D' x).ca=cs.length∧(((D' x).kd=8∧(D' x).val=je cs.length∧y.kind=1∧y.r.wh=1∧y.r.ad=x)∨((D' x).kd=9∧(D' x).val=[]∧y.kind=3∧y.pos=x))))
 (hm:(mk'=mk∧y.kind≠4)∨(mk'=max mk y.pos∧y.kind=4)):Lg N (cs++[y]) D' mk' where
 C7:=fun i c hc=>by
  rcases vx hc with hc|⟨rfl,rfl⟩
  ·exact(hL.C7 i c hc).L hD y
  ·exact ht
 ord:=fun i j c d hij hc hd=>by
  rcases vx hd with hd|⟨rfl,rfl⟩
  ·rcases vx hc with hc|⟨e,_⟩
   ·exact hL.ord i j c d hij hc hd
   ·have:=(List.getElem?_eq_some_iff.1 hd).1
    omega
  ·rcases vx hc with hc|⟨e,_⟩
   ·exact⟨hb c (List.mem_of_getElem? hc),hg i c hc⟩
   ·omega
 C5:=fun x hx=>by
  rcases hd x hx with e|⟨e1,e2,e3⟩
  ·rw[e] at hx⊢
   obtain⟨k,o,ho,g⟩:=hL.C5 x hx
   exact⟨k,o,by rw[List.getElem?_append_left (List.getElem?_eq_some_iff.1 ho).1];exact ho,g⟩
  ·exact⟨cs.length,y,by simp,e1,e2,e3⟩
 EB:=by
  have h1:=hL.EB
  have key:0<mk→∃(k:Nat) (o:Kl),(cs++[y])[k]?=some o∧o.kind=4∧o.pos=mk:=fun e=>by
   obtain⟨k,o,ho,g⟩:=h1.2 e
   exact⟨k,o,by rw[List.getElem?_append_left (List.getElem?_eq_some_iff.1 ho).1];exact ho,g⟩
  rcases hm with⟨rfl,_⟩|⟨e,h4⟩
  ·exact⟨h1.1,key⟩
  ·refine⟨by omega,fun h0=> ?_⟩
   by_cases e2:y.pos≤mk
   ·have:mk'=mk:=by omega
    rw[this] at h0⊢
    exact key h0
   ·exact⟨cs.length,y,by simp,h4,by omega⟩
 low:=fun k o ho h4=>by
  rcases vx ho with ho|⟨_,rfl⟩
  ·have:=hL.low k o ho h4
   rcases hm with⟨rfl,_⟩|⟨e,_⟩
   ·exact this
   ·omega
  ·rcases hm with⟨_,h⟩|⟨e,_⟩
   ·exact absurd h4 h
   ·omega
end
structure uo (n m v ce:Nat) (W:Wd) (res:List Rz) (D:Nat→Ct) (mk:Int):Prop where
 w:∃ak pb,Sp n m v ce W res [] ak pb (fun j=>Us n D mk (j/m))∧pb.mP=false∧pb.a.nr≤ak
 l:Lg (n*ce) W.bx D mk
 len:W.bx.length=res.length
 em:∀x,(D x).kd=0→D x=no
theorem uo.act (h:uo n m v ce W res D mk):∀c∈W.bx,c.a=0:=fun c hc=>by
 obtain⟨i,hi⟩:=sA hc
 exact(h.l.C7 i c hi).ac.1
theorem uo.bx (h:uo n m v ce W res D mk) {res':List Rz} {pd:List jf} {ak:Int} {pb:Qn An} {T:Nat→St} (hs:Sp n m v ce W2 res' pd ak pb T) (hr:res'[res.length]?=some R) (hl:W2.bx.length=W.bx.length+1) (ho:∀(i:Nat) (x:Kl),W.bx[i]?=some x→∃y,W2.bx[i]?=some y∧Ce x y) {k p:Int} {vl tk:List Int} (hn:∃y,W2.bx[W.bx.length]?=some y∧Ce ⟨0,res.length,k,p,vl,tk,W.a+1,0,Rz.zero⟩ y):
 ∃y,W2.bx=W.bx++[y]∧y.a=0∧y.b=W.bx.length∧y.kind=k∧y.pos=p∧y.value=vl∧y.c=tk∧(∀c∈W.bx,c.d<y.d)∧(R.wh≠0→y.fin≠0∧y.d<y.fin∧y.r=R)∧(R.wh=0→y.fin=0∧y.d=W.a+1):=by
 obtain⟨ak0,pb0,hs0,_⟩:=h.w
 obtain⟨y,hy,hc⟩:=hn
 have e:W2.bx=W.bx++[y]:=by
  refine List.ext_getElem? fun i=> ?_
  by_cases hi:i<W.bx.length
  ·rw[List.getElem?_append_left hi]
   have hx:=List.getElem?_eq_getElem hi
   obtain⟨z,hz,hzc⟩:=ho i _ hx
   rw[hz,hx,hzc.f (h.l.C7 i _ hx).fi.1]
  ·by_cases e:i=W.bx.length
   ·subst e
    rw[hy]
    simp
   ·rw[List.getElem?_eq_none (by omega),List.getElem?_eq_none (by simp;omega)]
 have hk:=hs.k.ca y (List.mem_of_getElem? hy)
 obtain⟨A,hA,iV,hres⟩:=hk.ac
 have hact:y.a=0:=hc.ac.1
 have hnum:y.b=res.length:=hc.ac.2
 rw[hact,hs.s.ac] at hA
 obtain rfl:(⟨sx n m v ce res' pd ak pb,true⟩:Ac)=A:=by simpa using hA
 have hr':(sx n m v ce res' pd ak pb).res[y.b]?=some R:=by rw[hnum];exact hr
 refine⟨y,e,hact,by rw[hnum,h.len],hc.k,hc.p,hc.v,hc.t,fun c hcc=> ?_,fun hw=> ?_,fun hw=> ?_⟩
 ·have:=(hs0.k.ca c hcc).bg.2
  rw[hc.b]
  show c.d<W.a+1
  omega
 ·have hf:=hs.sn y (List.mem_of_getElem? hy) ⟨sx n m v ce res' pd ak pb,true⟩ (by rw[hact,hs.s.ac];rfl) rfl R hr' hw
  have:=hres rfl hf
  rw[hr'] at this
  exact⟨hf,by rw[hc.b];exact hc.l rfl hf,(Option.some.inj this).symm⟩
 ·refine⟨Classical.byContradiction fun hf=> ?_,hc.b⟩
  have:=hres rfl hf
  rw[hr'] at this
  have h0:=hk.fw hf
  rw[←Option.some.inj this] at h0
  exact h0 hw
section
variable{k:Int}
theorem uo.nm (h:uo n m v ce W res D mk):(1≤n∧n≤3)∧(1≤m∧m≤3)∧0<n*ce∧((W.n=n∧W.m=m)∧W.v=v∧W.ce=ce):=by
 obtain⟨ak,pb,hs,_⟩:=h.w
 obtain⟨h1,h2,h3⟩:=hs.nm
 have h4:=hs.k.c1
 rw[hs.e.2.2] at h4
 exact⟨h1,h2,Nat.mul_pos (by omega) (by omega),hs.e⟩
theorem uo.oH (h:uo n m v ce W res D mk) (hk:k=2∨k=3)
 (hD:D'=D∨(k=3∧¬(a:Int)<mk∧(D a).kd=0∧D'=nT D a ⟨9,iM 0,res.length,[]⟩))
 (hR:((a:Int)<mk∧R=⟨4,0,[]⟩)∨(¬(a:Int)<mk∧(D' a).kd=0∧k=2∧R=⟨3,0,[]⟩)∨(¬(a:Int)<mk∧(D' a).kd≠0∧R=⟨(D' a).kd,0,(D' a).val⟩))
 (hs:∃ak pb,Sp n m v ce W2 (res++[R]) [] ak pb (fun j=>Us n D' mk (j/m))∧pb.mP=false∧pb.a.nr≤ak) (hl:W2.bx.length=W.bx.length+1) (ho:∀(i:Nat) (x:Kl),W.bx[i]?=some x→∃y,W2.bx[i]?=some y∧Ce x y) {vl tk:List Int} (hn:∃y,W2.bx[W.bx.length]?=some y∧Ce ⟨0,res.length,k,a,vl,tk,W.a+1,0,Rz.zero⟩ y):
 uo n m v ce W2 (res++[R]) D' mk∧∃y,W2.bx=W.bx++[y]∧y.fin≠0∧y.r=R:=by
 obtain⟨ak,pb,hsp,_⟩:=hs
 have hmono:∀x,(D x).kd≠0→D' x=D x:=fun x hx=>by
  rcases hD with e|⟨_,_,e1,e2⟩
  ·rw[e]
  ·rw[e2];unfold nT;rw[if_neg (by intro e;subst e;exact hx e1)]
 have hnew:∀x,(D' x).kd≠0→D' x=D x∨(k=3∧x=a∧D' x=⟨9,iM 0,res.length,[]⟩):=fun x hx=>by
  rcases hD with e|⟨e0,_,e1,e2⟩
  ·exact .inl (by rw[e])
  ·rw[e2]
   unfold nT
   split
   ·rename_i e;exact .inr ⟨e0,e,rfl⟩
   ·exact .inl rfl
 have hkd:∀x,(D' x).kd≠0→(D' x).kd=8∨(D' x).kd=9:=fun x hx=>by
  rcases hnew x hx with e|⟨_,_,e⟩
  ·rw[e] at hx⊢
   obtain⟨_,_,_,_,_,⟨g,_⟩|⟨g,_⟩⟩:=h.l.C5 x hx
   ·exact .inl g
   ·exact .inr g
  ·rw[e];exact .inr rfl
 have hca:∀x,(D' x).kd≠0→(D' x).ca≤res.length:=fun x hx=>by
  rcases hnew x hx with e|⟨_,_,e⟩
  ·rw[e] at hx⊢
   obtain⟨j,o,hj,_,g,_⟩:=h.l.C5 x hx
   have:=(List.getElem?_eq_some_iff.1 hj).1
   have:=h.len
   omega
  ·rw[e];exact Int.le_refl _
 have hw:R.wh≠0:=by
  rcases hR with⟨_,e⟩|⟨_,_,_,e⟩|⟨_,e1,e⟩
  ·rw[e];exact(show¬(4:Int)=0 by decide)
  ·rw[e];exact(show¬(3:Int)=0 by decide)
  ·rw[e];exact e1
 obtain⟨y,y0,y1,y2,y3,y4,y5,y6,y7,y8,_⟩:=h.bx hsp (R:=R) (by simp) hl ho hn
 obtain⟨f1,f2,f3⟩:=y8 hw
 have k1:¬y.kind=1:=by omega
 have ht:SA (n*ce) (W.bx++[y]) D' W.bx.length y:=
  ⟨⟨y1,y2⟩,⟨f1,f2⟩,by omega,fun e=>absurd e k1,fun e=>absurd e k1,fun _=>⟨a,y4,by
   rw[f3]
   rcases hR with⟨e1,e⟩|⟨_,_,e1,e⟩|⟨_,e1,e⟩
   ·refine .inl ⟨e, ?_⟩
    obtain⟨j,o,hj,g1,g2⟩:=h.l.EB.2 (by omega)
    exact⟨j,o,(List.getElem?_eq_some_iff.1 hj).1,by rw[List.getElem?_append_left (List.getElem?_eq_some_iff.1 hj).1];exact hj,g1,by rw[y4,g2];exact e1⟩
   ·exact .inr (.inl ⟨by omega,e⟩)
   ·exact .inr (.inr ⟨e1,e,by have:=hca a e1;rw[h.len];exact this⟩)⟩,fun e=>by omega⟩
 refine⟨⟨⟨ak,pb,hsp,by assumption⟩, ?_,by rw[hl,h.len];simp,fun x hx=> ?_⟩,y,y0,f1,f3⟩
 rotate_left
 ·rcases hD with e|⟨_,_,_,e⟩
  ·rw[e] at hx⊢;exact h.em x hx
  ·rw[e] at hx⊢
   unfold nT at hx⊢
   split at hx
   ·simp at hx
   ·rename_i g;rw[if_neg g];exact h.em x hx
 rw[y0]
 refine h.l.push hmono ht y7 (fun i c hc=>⟨fun e=>k1 e.2.2,fun _ _=>⟨fun e=> ?_,fun⟨e1,e2,e3⟩=> ?_⟩⟩) (fun x hx=> ?_) (.inl ⟨rfl,by omega⟩)
 ·have:=h.l.Sj hc
  rw[y4] at e
  rw[f3]
  rcases hR with⟨_,e⟩|⟨e1,_⟩|⟨e1,_⟩
  ·rw[e]
  ·omega
  ·omega
 ·obtain⟨x,b1,b2,_⟩:=(h.l.C7 i c hc).B h.l e1
  rw[b1,y4] at e2
  have e2:(x:Int)=a:=e2
  have hxa:x=a:=by omega
  subst hxa
  have hx:=hmono x b2
  rw[f3] at e3
  rcases hR with⟨_,e⟩|⟨_,e1,_⟩|⟨_,e1,e⟩
  ·rw[e] at e3;exact absurd e3 (by decide)
  ·rw[hx] at e1;exact b2 e1
  ·rw[e] at e3
   have e3:(D' x).kd=3:=e3
   rcases hkd x e1 with g|g
   ·rw[g] at e3;exact absurd e3 (by decide)
   ·rw[g] at e3;exact absurd e3 (by decide)
 ·rcases hnew x hx with e|⟨e0,e1,e2⟩
  ·exact .inl e
  ·rw[e2]
   exact .inr ⟨rfl,by rw[h.len],.inr ⟨rfl,rfl,by omega,by rw[y4,e1]⟩⟩
theorem uo.yU (h:uo n m v ce W res D mk) (b:Int):(W.call 2 0 b).mg.2=true∧uo n m v ce (W.call 2 0 b).mg.1 (res++[Fo D mk (jh b (n*ce))]) D mk∧∃y,(W.call 2 0 b).mg.1.bx=W.bx++[y]∧y.fin≠0∧y.r=Fo D mk (jh b (n*ce)):=by
 obtain⟨hn,hm,h0,⟨⟨e1,e2⟩,e3,e4⟩⟩:=h.nm
 obtain⟨ak,pb,hs,hd,hle⟩:=h.w
 obtain⟨a,ha⟩:∃a,jh b (n*ce)=a:=⟨_,rfl⟩
 have iV:a<n*ce:=by rw[←ha];exact mS b h0
 have hp:W.jG 2 b=a:=by
  unfold Wd.jG Wd.lH
  rw[if_neg (by decide),if_pos (.inl rfl),e1,e4,ha]
 rw[ha]
 obtain⟨c1,c2,c3,c4⟩:=hs.call 2 b (.inr (.inl rfl)) h.len h.act (by rw[hp];exact Qb hn _)
 obtain⟨b1,ak',pb',b2,b3,b4,b5⟩:=c1.mg (K:=6) rfl (by simpa using wK hm.1 _) (show¬(2:Int)=5 by decide) (by omega) fun W1 hW1=>P7 hW1 iV rfl (.inr rfl) (by show ak+1+1≠ak+1;omega) (Int.le_refl _) (by omega)
 have hset:(res++[Rz.zero]).set (TC n m res.length a (ak+1)).gH (Fo D mk a)=res++[Fo D mk a]:=by
  show(res++[Rz.zero]).set res.length _=_
  simp
 rw[hset] at b2
 refine⟨b1,h.oH (k:=2) (a:=a) (.inl rfl) (.inl rfl) ?_ ⟨ak',pb',b2,b3,b4⟩ (by rw[b5.1];exact c2) (fun i x hx=> ?_) (vl:=W.kx 2) (tk:=[]) ?_⟩
 ·unfold Fo
  by_cases g1:(a:Int)<mk
  ·rw[if_pos g1];exact .inl ⟨g1,rfl⟩
  ·rw[if_neg g1]
   by_cases g2:(D a).kd=0
   ·rw[if_pos g2];exact .inr (.inl ⟨g1,g2,rfl,rfl⟩)
   ·rw[if_neg g2];exact .inr (.inr ⟨g1,g2,rfl⟩)
 ·obtain⟨y,y1,y2⟩:=c3 i x hx
  obtain⟨z,z1,z2⟩:=b5.2 i y y1
  exact⟨z,z1,y2.H z2⟩
 ·obtain⟨z,z1,z2⟩:=b5.2 _ _ c4
  rw[hp] at z2
  exact⟨z,z1,z2⟩
def LN (D:Nat→Ct) (mk:Int) (a k:Nat):Nat→Ct:=if¬(a:Int)<mk∧(D a).kd=0 then nT D a ⟨9,iM 0,k,[]⟩ else D
def Ty (D:Nat→Ct) (mk:Int) (a:Nat):Rz:=if(a:Int)<mk then⟨4,0,[]⟩ else if(D a).kd=0 then⟨9,0,[]⟩ else⟨(D a).kd,0,(D a).val⟩
theorem uo.gZ (h:uo n m v ce W res D mk) (a:Nat):¬((D a).cl=iM 0∧(D a).ca=(res.length:Int)):=by
 by_cases e:(D a).kd=0
 ·rw[h.em a e]
  exact fun e=>absurd e.1 (by decide)
 ·obtain⟨j,o,hj,_,g,_⟩:=h.l.C5 a e
  have:=(List.getElem?_eq_some_iff.1 hj).1
  have:=h.len
  exact fun e=>by omega
theorem uo.Wj (h:uo n m v ce W res D mk) {a:Nat} (e:(D a).kd≠0):qd (D a).kd (D a).val.length=true:=by
 obtain⟨j,o,hj,_,_,⟨g1,g2,_⟩|⟨g1,g2,_⟩⟩:=h.l.C5 a e
 ·rw[g1,g2];rfl
 ·rw[g1,g2];rfl
theorem uo.fill (h:uo n m v ce W res D mk) (b:Int):(W.call 3 0 b).mg.2=true∧uo n m v ce (W.call 3 0 b).mg.1 (res++[Ty D mk (jh b (n*ce))]) (LN D mk (jh b (n*ce)) res.length) mk∧∃y,(W.call 3 0 b).mg.1.bx=W.bx++[y]∧y.fin≠0∧y.r=Ty D mk (jh b (n*ce)):=by
 obtain⟨hn,hm,h0,⟨⟨e1,e2⟩,e3,e4⟩⟩:=h.nm
 obtain⟨ak,pb,hs,hd,hle⟩:=h.w
 obtain⟨a,ha⟩:∃a,jh b (n*ce)=a:=⟨_,rfl⟩
 have iV:a<n*ce:=by rw[←ha];exact mS b h0
 have hp:W.jG 3 b=a:=by
  unfold Wd.jG Wd.lH
  rw[if_neg (by decide),if_pos (.inr rfl),e1,e4,ha]
 rw[ha]
 obtain⟨c1,c2,c3,c4⟩:=hs.call 3 b (.inr (.inr (.inl rfl))) h.len h.act (by rw[hp];exact Rw hn hm _)
 obtain⟨b1,ak',pb',b2,b3,b4,b5⟩:=c1.mg (K:=8) (res':=res++[Ty D mk a]) (pd:=[]) (T':=fun j=>Us n (LN D mk a res.length) mk (j/m)) rfl (by simp) (show¬(3:Int)=5 by decide) (by omega) fun W1 hW1=>by
  have hset:∀R:Rz,(res++[Rz.zero]).set res.length R=res++[R]:=fun R=>by simp
  have hc9:qd (⟨9,iM 0,res.length,[]⟩:Ct).kd (⟨9,iM 0,res.length,[]⟩:Ct).val.length=true:=rfl
  unfold Ty LN
  by_cases g1:(a:Int)<mk
  ·rw[if_pos g1,if_neg (fun e=>e.1 g1)]
   have:=Pt hW1 (u:=⟨9,iM 0,res.length,[]⟩) hc9 iV g1 rfl (show¬(3:Int)=1 by decide) rfl (h.gZ a) (.inr rfl) (by show ak+1+1≠ak+1;omega) (Int.le_refl _)
   rw[show(FE n m 3 res.length ⟨9,iM 0,res.length,[]⟩ a (ak+1)).gH=res.length from rfl,hset] at this
   exact this.L (by omega)
  ·rw[if_neg g1]
   by_cases g2:(D a).kd=0
   ·rw[if_pos g2,if_pos ⟨g1,g2⟩]
    have:=On (t:=⟨9,iM 0,res.length,[]⟩) hc9 iV g1 g2 (m-1) 0 (by omega) (hW1.B fun j _=>by unfold Tp;rw[if_neg (by omega)]) rfl rfl rfl rfl (.inr rfl) (by show ak+1+1≠ak+1;omega) (Int.le_refl _)
    rw[show(FE n m 3 res.length ⟨9,iM 0,res.length,[]⟩ a (ak+1)).gH=res.length from rfl,hset] at this
    exact this.L (by omega)
   ·rw[if_neg g2,if_neg (fun e=>g2 e.2)]
    have:=NG (h.Wj g2) iV g1 (m-1) 0 (u:=⟨9,iM 0,res.length,[]⟩) (by omega) hc9 hW1 rfl rfl rfl (show¬(3:Int)=1 by decide) (.inr rfl) (by show ak+1+1≠ak+1;omega) (Int.le_refl _)
    rw[show(FE n m 3 res.length ⟨9,iM 0,res.length,[]⟩ a (ak+1)).gH=res.length from rfl,hset] at this
    exact this.L (by omega)
 refine⟨b1,h.oH (k:=3) (a:=a) (.inr rfl) ?_ ?_ ⟨ak',pb',b2,b3,b4⟩ (by rw[b5.1];exact c2) (fun i x hx=> ?_) (vl:=W.kx 3) (tk:=[]) ?_⟩
 ·unfold LN
  split
  ·rename_i g;exact .inr ⟨rfl,g.1,g.2,rfl⟩
  ·exact .inl rfl
 ·unfold Ty LN
  by_cases g1:(a:Int)<mk
  ·rw[if_pos g1];exact .inl ⟨g1,rfl⟩
  ·rw[if_neg g1]
   by_cases g2:(D a).kd=0
   ·rw[if_pos g2,if_pos ⟨g1,g2⟩]
    refine .inr (.inr ⟨g1, ?_, ?_⟩)<;>simp[nT]
   ·rw[if_neg g2,if_neg (fun e=>g2 e.2)];exact .inr (.inr ⟨g1,g2,rfl⟩)
 ·obtain⟨y,y1,y2⟩:=c3 i x hx
  obtain⟨z,z1,z2⟩:=b5.2 i y y1
  exact⟨z,z1,y2.H z2⟩
 ·obtain⟨z,z1,z2⟩:=b5.2 _ _ c4
  rw[hp] at z2
  exact⟨z,z1,z2⟩
theorem uo.rV (h:uo n m v ce W res D mk) (b:Int):(W.call 4 0 b).mg.2=true∧uo n m v ce (W.call 4 0 b).mg.1 (res++[⟨1,0,[]⟩]) D (max mk (jh b (n*ce+1)))∧∃y,(W.call 4 0 b).mg.1.bx=W.bx++[y]∧y.fin≠0∧y.r=⟨1,0,[]⟩:=by
 obtain⟨hn,hm,h0,⟨⟨e1,e2⟩,e3,e4⟩⟩:=h.nm
 obtain⟨ak,pb,hs,hd,hle⟩:=h.w
 obtain⟨a,ha⟩:∃a,jh b (n*ce+1)=a:=⟨_,rfl⟩
 have hp:W.jG 4 b=a:=by
  unfold Wd.jG Wd.lH
  rw[if_neg (by decide),if_neg (by decide),if_pos rfl,e1,e4,ha]
 rw[ha]
 obtain⟨c1,c2,c3,c4⟩:=hs.call 4 b (.inr (.inr (.inr rfl))) h.len h.act (by rw[hp];exact Rb hn hm _ _)
 have h1:0<n*m:=Nat.mul_pos (by omega) (by omega)
 obtain⟨b1,ak',pb',b2,b3,b4,b5⟩:=c1.mg (K:=4) rfl (List.ne_nil_of_mem (wA h1)) (show¬(4:Int)=5 by decide) (by omega) fun W1 hW1=>CC hW1 rfl (.inr rfl) (by show ak+1+1≠ak+1;omega) (Int.le_refl _)
 have hset:(res++[Rz.zero]).set (PY n m res.length a (ak+1)).gH (PY n m res.length a (ak+1)).e=res++[⟨1,0,[]⟩]:=by
  show(res++[Rz.zero]).set res.length _=_
  simp[PY]
 rw[hset] at b2
 obtain⟨z,z1,z2⟩:=b5.2 _ _ c4
 rw[hp] at z2
 obtain⟨y,y0,y1,y2,y3,y4,y5,y6,y7,y8,_⟩:=h.bx b2 (R:=⟨1,0,[]⟩) (by simp) (by rw[b5.1];exact c2) (fun i x hx=>by
  obtain⟨y,y1,y2⟩:=c3 i x hx
  obtain⟨z,z1,z2⟩:=b5.2 i y y1
  exact⟨z,z1,y2.H z2⟩) ⟨z,z1,z2⟩
 obtain⟨f1,f2,f3⟩:=y8 (show¬(1:Int)=0 by decide)
 refine⟨b1,⟨⟨ak',pb',b2,b3,b4⟩, ?_,by rw[b5.1,c2,h.len];simp,h.em⟩,y,y0,f1,f3⟩
 rw[y0]
 refine h.l.push (fun _ _=>rfl) ⟨⟨y1,y2⟩,⟨f1,f2⟩,by omega,fun e=>by omega,fun e=>by omega,fun e=>by omega,fun _=>f3⟩ y7 (fun i c hc=>⟨fun e=>by omega,fun e=>by omega⟩) (fun x _=>.inl rfl) (.inr ⟨by rw[y4],y3⟩)
end
section
variable{W0:Wd}{k:Int}{tk:List Int}
structure Sq (n m v ce:Nat) (W0 W:Wd) (res:List Rz) (D:Nat→Ct) (mk:Int) (tk:List Int):Prop where
 h:uo n m v ce W0 res D mk
 w:∃ak pb x0 ct,Sp n m v ce W (res++[Rz.zero]) [⟨1,res.length,0,x0,0,⟨8,iM 0,res.length,je res.length⟩,ct,0,Rz.zero,Qn.zero⟩] ak pb (fun j=>Us n D mk (j/m))∧pb.mP=false∧pb.a.nr≤ak
 l:W.bx.length=W0.bx.length+1
 o:∀(i:Nat) (x:Kl),W0.bx[i]?=some x→∃y,W.bx[i]?=some y∧Ce x y
 n:∃y,W.bx[W0.bx.length]?=some y∧Ce ⟨0,res.length,1,0,je res.length,tk,W0.a+1,0,Rz.zero⟩ y
theorem uo.append (h:uo n m v ce W res D mk) (b:Int):Sq n m v ce W (W.call 1 0 b) res D mk []:=by
 obtain⟨ak,pb,hs,hd,hle⟩:=h.w
 have hv:W.kx 1=je res.length:=by unfold Wd.kx;rw[if_pos rfl,h.len]
 have hp:W.jG 1 b=0:=by unfold Wd.jG;rw[if_pos rfl]
 obtain⟨c1,c2,c3,c4⟩:=hs.call 1 b (.inl rfl) h.len h.act (Kx _ _)
 rw[hv] at c1
 rw[hv,hp] at c4
 exact⟨h,⟨ak,pb,0,no,c1,hd,hle⟩,c2,c3,⟨_,c4,Ce.refl _⟩⟩
theorem Sq.last (h:Sq n m v ce W0 W res D mk tk):∃y,W.bx=W0.bx++[y]∧y.a=0∧y.b=res.length∧y.value=je res.length∧y.fin=0:=by
 obtain⟨ak,pb,x0,ct,hs,_⟩:=h.w
 obtain⟨y,y0,y1,y2,y3,y4,y5,y6,y7,_,y8⟩:=h.h.bx hs (R:=Rz.zero) (by simp) h.l h.o h.n
 exact⟨y,y0,y1,by rw[y2,h.h.len],y5,(y8 rfl).1⟩
theorem Sq.jv (h:Sq n m v ce W0 W res D mk tk) {res':List Rz} {Y:List jf} {ak ak' x0:Int} {pb:Qn An} {ct:Ct} (hs:Sp n m v ce W (res++[Rz.zero]) [⟨1,res.length,0,x0,0,⟨8,iM 0,res.length,je res.length⟩,ct,0,Rz.zero,Qn.zero⟩] ak pb (fun j=>Us n D mk (j/m))) (t:Int) (hg:(sx n m v ce (res++[Rz.zero]) [⟨1,res.length,0,x0,0,⟨8,iM 0,res.length,je res.length⟩,ct,0,Rz.zero,Qn.zero⟩] ak pb).jv res.length t=sx n m v ce res' Y ak' pb):
 Sp n m v ce (W.jv 0 0 t) res' Y ak' pb (fun j=>Us n D mk (j/m))∧(W.jv 0 0 t).bx.length=W0.bx.length+1∧(∀(i:Nat) (x:Kl),W0.bx[i]?=some x→∃y,(W.jv 0 0 t).bx[i]?=some y∧Ce x y)∧∃y,(W.jv 0 0 t).bx[W0.bx.length]?=some y∧Ce ⟨0,res.length,1,0,je res.length,tk++[t],W0.a+1,0,Rz.zero⟩ y:=by
 obtain⟨g1,g2,g3⟩:=Sp.jv hs rfl t hg
 obtain⟨y,y0,_,_,_,yf⟩:=h.last
 refine⟨g1,by rw[g2];exact h.l,fun i x hx=> ?_, ?_⟩
 ·obtain⟨z,z1,z2⟩:=h.o i x hx
  obtain⟨u,u1,u2⟩:=g3 i z z1
  have hx':=h.h.l.C7 i x hx
  rw[z2.f hx'.fi.1] at u2
  rw[if_neg (fun e=> ?_)] at u2
  ·exact⟨u,u1,u2⟩
  ·have e2:x.b=res.length:=e.2
   rw[hx'.ac.2] at e2
   have:=(List.getElem?_eq_some_iff.1 hx).1
   have:=h.h.len
   omega
 ·obtain⟨z,z1,z2⟩:=h.n
  obtain⟨u,u1,u2⟩:=g3 _ z z1
  have hz:z.fin=0:=by
   rw[y0,List.getElem?_append_right (Nat.le_refl _),Nat.sub_self] at z1
   have:y=z:=by simpa using z1
   rw[←this];exact yf
  rw[if_pos ⟨z2.ac.1,z2.ac.2⟩] at u2
  refine⟨u,u1,Ce.H (b:={z with c:=z.c++[t]}) ⟨z2.ac,z2.k,z2.p,z2.v, ?_,z2.b,fun e=>absurd rfl e,fun _ e=>absurd hz e⟩ u2⟩
  show z.c++[t]=tk++[t]
  rw[z2.t]
theorem Uh (k:Nat) (x:Int):qd (⟨8,iM 0,x,je k⟩:Ct).kd (⟨8,iM 0,x,je k⟩:Ct).val.length=true:=rfl
theorem Sq.lost (h:Sq n m v ce W0 W res D mk tk) (ha:a<n*ce) (hw:(a:Int)<mk∨(D a).kd≠0):(W.jv 0 0 a).mg.2=true∧Sq n m v ce W0 (W.jv 0 0 a).mg.1 res D mk (tk++[(a:Int)]):=by
 obtain⟨hn,hm,_⟩:=h.h.nm
 obtain⟨ak,pb,x0,ct,hs,hd,hle⟩:=h.w
 obtain⟨g1,g2,g3,g4⟩:=h.jv hs a (C3 hn hm ha _ _ _ _ _)
 obtain⟨b1,ak',pb',b2,b3,b4,b5⟩:=g1.mg (K:=4) (res':=res++[Rz.zero]) (T':=fun j=>Us n D mk (j/m)) rfl (by simp) (show¬(1:Int)=5 by decide) (by omega) fun W1 hW1=>Qw hW1 (Uh _ _) ha (fun e=>by have:=Np.1 e;omega) rfl rfl rfl (h.h.gZ a) (.inr rfl) (by show ak+1+1≠ak+1;omega) (Int.le_refl _)
 refine⟨b1,h.h,⟨ak',pb',a,_,b2,b3,b4⟩,by rw[b5.1];exact g2,fun i x hx=> ?_, ?_⟩
 ·obtain⟨y,y1,y2⟩:=g3 i x hx
  obtain⟨z,z1,z2⟩:=b5.2 i y y1
  exact⟨z,z1,y2.H z2⟩
 ·obtain⟨y,y1,y2⟩:=g4
  obtain⟨z,z1,z2⟩:=b5.2 _ y y1
  exact⟨z,z1,y2.H z2⟩
theorem Sq.Wp (h:Sq n m v ce W0 W res D mk tk) (ha:a<n*ce) (hmk:¬(a:Int)<mk) (hD:(D a).kd=0):(W.jv 0 0 a).mg.2=true∧uo n m v ce (W.jv 0 0 a).mg.1 (res++[⟨1,a,[]⟩]) (nT D a ⟨8,iM 0,res.length,je res.length⟩) mk∧∃y,(W.jv 0 0 a).mg.1.bx=W0.bx++[y]∧y.fin≠0∧y.r=⟨1,a,[]⟩:=by
 obtain⟨hn,hm,_⟩:=h.h.nm
 obtain⟨ak,pb,x0,ct,hs,hd,hle⟩:=h.w
 obtain⟨g1,g2,g3,g4⟩:=h.jv hs a (C3 hn hm ha _ _ _ _ _)
 obtain⟨b1,ak',pb',b2,b3,b4,b5⟩:=g1.mg (K:=8) (res':=res++[⟨1,a,[]⟩]) (pd:=[]) (T':=fun j=>Us n (nT D a ⟨8,iM 0,res.length,je res.length⟩) mk (j/m)) rfl (by simp) (show¬(1:Int)=5 by decide) (by omega) fun W1 hW1=>by
  have:=On (t:=⟨8,iM 0,res.length,je res.length⟩) (Uh _ _) ha hmk hD (m-1) 0 (by omega) (hW1.B fun j _=>by unfold Tp;rw[if_neg (by omega)]) rfl rfl rfl rfl (.inr rfl) (by show ak+1+1≠ak+1;omega) (Int.le_refl _)
  rw[show(FE n m 1 res.length ⟨8,iM 0,res.length,je res.length⟩ a (ak+1)).gH=res.length from rfl,show U8 (FE n m 1 res.length ⟨8,iM 0,res.length,je res.length⟩ a (ak+1)).kind a ⟨8,iM 0,res.length,je res.length⟩=⟨1,a,[]⟩ from rfl,show(res++[Rz.zero]).set res.length (⟨1,a,[]⟩:Rz)=res++[⟨1,a,[]⟩] by simp] at this
  exact this.L (by omega)
 have hl2:(W.jv 0 0 a).mg.1.bx.length=W0.bx.length+1:=by rw[b5.1];exact g2
 obtain⟨y,y0,y1,y2,y3,y4,y5,y6,y7,y8,_⟩:=h.h.bx b2 (R:=⟨1,a,[]⟩) (by simp) hl2 (fun i x hx=>by
  obtain⟨y,y1,y2⟩:=g3 i x hx
  obtain⟨z,z1,z2⟩:=b5.2 i y y1
  exact⟨z,z1,y2.H z2⟩) (by
  obtain⟨y,y1,y2⟩:=g4
  obtain⟨z,z1,z2⟩:=b5.2 _ y y1
  exact⟨z,z1,y2.H z2⟩)
 obtain⟨f1,f2,f3⟩:=y8 (show¬(1:Int)=0 by decide)
 have hmono:∀x,(D x).kd≠0→nT D a ⟨8,iM 0,res.length,je res.length⟩ x=D x:=fun x hx=>by
  unfold nT
  rw[if_neg (by intro e;subst e;exact hx hD)]
 refine⟨b1,⟨⟨ak',pb',b2,b3,b4⟩, ?_,by rw[hl2,h.h.len];simp,fun x hx=> ?_⟩,y,y0,f1,f3⟩
 ·rw[y0]
  refine h.h.l.push hmono ⟨⟨y1,y2⟩,⟨f1,f2⟩,.inl y3,fun _=>by rw[y5,h.h.len],fun _=> ?_,fun e=>by omega,fun e=>by omega⟩ y7 (fun i c hc=>⟨fun⟨e1,e2,_⟩=> ?_,fun e=>by omega⟩) (fun x hx=> ?_) (.inl ⟨rfl,by omega⟩)
  ·rw[f3]
   exact⟨rfl,.inl ⟨a,ha,rfl,rfl,by unfold nT;rw[if_pos rfl,h.h.len],by rw[y6];simp⟩⟩
  ·have:=h.h.l.Sj hc
   unfold uF at e2
   rw[if_neg f1,if_pos y3,f3,if_pos rfl] at e2
   have e2:(a:Int)<LM c:=e2
   omega
  ·unfold nT at hx⊢
   split
   ·rename_i e
    exact .inr ⟨rfl,by rw[h.h.len],.inl ⟨rfl,by rw[h.h.len],y3,by rw[f3],by rw[f3,e]⟩⟩
   ·exact .inl rfl
 ·unfold nT at hx⊢
  split at hx
  ·simp at hx
  ·rename_i g;rw[if_neg g];exact h.h.em x hx
theorem Sq.full (h:Sq n m v ce W0 W res D mk tk) {t:Int} (ht:((n*ce:Nat):Int)≤t):(W.jv 0 0 t).mg.2=true∧uo n m v ce (W.jv 0 0 t).mg.1 (res++[⟨7,0,[]⟩]) D mk∧∃y,(W.jv 0 0 t).mg.1.bx=W0.bx++[y]∧y.fin≠0∧y.r=⟨7,0,[]⟩:=by
 obtain⟨hn,hm,_⟩:=h.h.nm
 obtain⟨ak,pb,x0,ct,hs,hd,hle⟩:=h.w
 obtain⟨g1,g2,g3,g4⟩:=h.jv hs t (L3 _ _ _ _ _ t (by rw[Int.natCast_mul] at ht;exact ht))
 rw[show(res++[Rz.zero]).set res.length (⟨7,0,[]⟩:Rz)=res++[⟨7,0,[]⟩] by simp] at g1
 obtain⟨b1,b2,b5⟩:=g1.Ue hd hle
 have hl2:(W.jv 0 0 t).mg.1.bx.length=W0.bx.length+1:=by rw[b5.1];exact g2
 obtain⟨y,y0,y1,y2,y3,y4,y5,y6,y7,y8,_⟩:=h.h.bx b2 (R:=⟨7,0,[]⟩) (by simp) hl2 (fun i x hx=>by
  obtain⟨y,y1,y2⟩:=g3 i x hx
  obtain⟨z,z1,z2⟩:=b5.2 i y y1
  exact⟨z,z1,y2.H z2⟩) (by
  obtain⟨y,y1,y2⟩:=g4
  obtain⟨z,z1,z2⟩:=b5.2 _ y y1
  exact⟨z,z1,y2.H z2⟩)
 obtain⟨f1,f2,f3⟩:=y8 (show¬(7:Int)=0 by decide)
 refine⟨b1,⟨⟨ak,pb,b2,hd,hle⟩, ?_,by rw[hl2,h.h.len];simp,h.h.em⟩,y,y0,f1,f3⟩
 rw[y0]
 refine h.h.l.push (fun _ _=>rfl) ⟨⟨y1,y2⟩,⟨f1,f2⟩,.inl y3,fun _=>by rw[y5,h.h.len],fun _=> ?_,fun e=>by omega,fun e=>by omega⟩ y7 (fun i c hc=>⟨fun⟨e1,e2,_⟩=> ?_,fun e=>by omega⟩) (fun x hx=>.inl rfl) (.inl ⟨rfl,by omega⟩)
 ·rw[f3]
  exact⟨rfl,.inr ⟨rfl,rfl,t,by rw[y6];simp,ht⟩⟩
 ·unfold uF at e1
  rw[if_neg f1,if_pos y3,f3,if_neg (show¬(7:Int)=1 by decide)] at e1
  simp at e1
end
structure Cf where
 n:Nat
 m:Nat
 v:Nat
 ce:Nat
 ok:mI n m v ce=true
def Cf.B(S:Cf):(1<=S.n/\S.n<=3)/\(1<=S.m/\S.m<=3)/\(1<=S.v/\S.v<=5)/\(1<=S.ce/\S.ce<=16):=by have:=S.ok;simp[mI]at this;omega
def Cf.oI(S:Cf):Nat:=S.v/2+1
def yq(n m:Nat)(i:Nat):Pl:=if i<n*m then⟨.unit ((i/m:Nat):Int) St.first [St.first],[],true,false⟩else⟨.voter VS.first [VS.first],[],true,false⟩
def Wd.zero(n m v ce:Nat):Wd:=⟨n,m,v,ce,(List.range (n*m+v)).map (yq n m),[],[],[],0,[],[],0⟩
def Wd.start(n m v ce:Nat):Wd:=(Wd.zero n m v ce).mW
def D1{P:Pl}(h:(Wd.zero n m v ce).pl[i]?=some P):i<n*m+v/\P=yq n m i:=by have d:((List.range (n*m+v)).map (yq n m))[i]?=some P:=h;have y:=(aj.1 d).1;simp at y;rw[aK,cD y]at d;simp at d;exact⟨y,d.symm⟩
def Iv(S:Cf):Wk (Wd.zero S.n S.m S.v S.ce):=by
 obtain⟨A,F,H,L⟩:=S.B;have M:S.v%2=1:=by have:=S.ok;simp[mI]at this;omega
 refine⟨A,F,H,M,L,by simp[Wd.zero],λi P Q=>?_,by simp[Wd.zero],by simp[Wd.zero],by simp[Wd.zero],by simp[Wd.zero],by simp[Wd.zero],by simp[Wd.zero],by simp[Wd.zero],by simp[Wd.zero],by simp[Wd.zero]⟩;obtain⟨T,rfl⟩:=D1 Q;unfold yq;split
 .rename_i y;refine⟨⟨y,rfl,aq,λx d=>?_⟩,Ia.nil⟩;simp at d;subst d;exact⟨⟨au,by show(0:Int)<=0+1;decide⟩,au,λi=>U6 (b:=(Wd.zero S.n S.m S.v S.ce).B 0) (by show(0:Int)<=0;decide),λi e=>absurd rfl e⟩
 rename_i y;refine⟨⟨by show S.n*S.m<=i;omega,T,aq,λx d=>?_⟩,Ia.nil⟩;simp at d;subst d;exact⟨λe=>⟨by show(0:Int)<=0;decide,by show(0:Int)<=200*0;decide⟩,λe=>⟨by show(0:Int)<=0;decide,by show(0:Int)<=200*0;decide⟩,λe=>by simp[VS.first,Tn],λe=>by simp[VS.first,Tn,mA],⟨au,by show(0:Int)<=0+1;decide⟩⟩
def Wk.mW(h:Wk W):Wk W.mW:=by
 unfold Wd.mW;split
 .exact h
 rename_i T;have d:=h.sd;have Y:=U7 W W.ac.length;have M:∀c∈W.bx,c.a<W.ac.length:=λc H=>by obtain⟨B,b1,_⟩:=(h.ca c H).ac;exact(aj.1 b1).1
 refine⟨d.n1,d.m1,d.v1,d.v2,d.c1,d.pl,d.pk,by show(W.ac++[_]).length<=8;rw[aO];show W.ac.length+1<=8;omega,λk A Q=>?_,d.po,d.a,d.nw,d.cl,λc H=>?_,d.hd,d.ms⟩
 .have y:(W.ac++[⟨Cx.new W.n W.m W.v W.ce (iM W.ac.length),true⟩])[k]?=some A:=Q;by_cases F:k<W.ac.length
  .rw[aB F]at y;exact⟨(d.ac k A y).x,(d.ac k A y).nm⟩
  have P:=(aj.1 y).1;rw[aO]at P;have L:k=W.ac.length:=by have:k<W.ac.length+1:=P;omega
  subst L;rw[aC jc,dR]at y;obtain rfl:(⟨Cx.new W.n W.m W.v W.ce (iM W.ac.length),true⟩:Ac)=A:=iG y;refine⟨Xk.new h.n1 h.m1 h.v1 h.v2 h.c1 ?_ ?_ ⟨rfl,⟨rfl,rfl⟩,rfl,rfl,rfl⟩,?_⟩
  .unfold iM;omega
  .exact⟨by show(0:Int)<=((W.iH+1:Nat):Int);omega,by show(0:Int)<=200*((W.iH+1:Nat):Int);omega,by show(0:Int)<=20*((W.iH+1:Nat):Int);omega,by show(0:Int)<=(W.bx.length:Int);omega⟩
  show(W.bx.filter λc=>c.a==W.ac.length).map (·.b)=List.range 0;rw[List.filter_eq_nil_iff.2 λc H=>by have:=M c H;simp;omega];rfl
 have F:=d.ca c H;obtain⟨B,b1,S⟩:=F.ac;exact⟨⟨B,by show(W.ac++[_])[c.a]?=_;rw[aB (M c H)];exact b1,S⟩,F.kd,F.po,F.vl,F.tk,F.bg,F.fi,F.r,F.fw⟩
def Df(S:Cf):Wk (Wd.start S.n S.m S.v S.ce):=(Iv S).mW
theorem N7 (S:Cf):uo S.n S.m S.v S.ce (Wd.start S.n S.m S.v S.ce) [] (fun _=>no) 0:=by
 have key:∀j,j<S.n*S.m+S.v→(Wd.start S.n S.m S.v S.ce).pl[j]?=some (yq S.n S.m j):=fun j hj=>by
  show((List.range (S.n*S.m+S.v)).map (yq S.n S.m))[j]?=_
  rw[List.getElem?_map,List.getElem?_range hj]
  rfl
 refine⟨⟨0,Qn.zero,⟨Df S,⟨⟨rfl,rfl⟩,rfl,rfl⟩,⟨rfl,rfl,fun j hj=> ?_,fun j P hj hP=> ?_,kO.new ..⟩,fun c hc=>by simp[Wd.start,Wd.mW,Wd.zero] at hc⟩,rfl,Int.le_refl _⟩,⟨fun i c hc=>by simp[Wd.start,Wd.mW,Wd.zero] at hc,fun i j c d _ hc=>by simp[Wd.start,Wd.mW,Wd.zero] at hc,fun x hx=>absurd rfl hx,⟨Int.le_refl _,fun e=>absurd e (by decide)⟩,fun k o ho=>by simp[Wd.start,Wd.mW,Wd.zero] at ho⟩,rfl,fun _ _=>rfl⟩
 ·have hj':j<S.n*S.m:=hj
  rw[key j (by omega)]
  unfold yq
  rw[if_pos hj']
  rfl
 ·obtain⟨_,rfl⟩:=D1 (show(Wd.zero S.n S.m S.v S.ce).pl[j]?=some P from hP)
  have hj':S.n*S.m≤j:=hj
  unfold yq
  rw[if_neg (by omega)]
  exact⟨rfl,rfl,rfl⟩
abbrev tR(i0 i:Int)(kd po:Int)(vs:ByteArray)(ta:Option Addr)(tn tc:Nat)(be fi wh ad:Int)(ra:Option Addr)(rn rc:Nat):Value:= .agg #[I i0,I i,I kd,I po,.string vs,.slice ta tn tc,I be,I fi,I wh,I ad,.slice ra rn rc]
def mh(fi kd po wh:Int):Int:=if fi=0 then 0 else if kd=4 then po else if kd≠1/\kd≠5/\wh=4 then po+1 else 0
def QN(kd:Int):Prop:=kd=1\/kd=2\/kd=3\/kd=4\/kd=5
theorem Bh(i0 i kd po be fi wh ad)(vs)(ta)(tn tc)(ra)(rn rc)(F:QN kd)(L:0<=po/\po<=1000)(w):ib 62 #[tR i0 i kd po vs ta tn tc be fi wh ad ra rn rc] w λH w'=>H=gG (I (mh fi kd po wh))/\Bl w w':=by
 have d:=(Bl.refl w).alloc (gO #[I i0,I i,I kd,I po,.string vs,dk ta tn tc,I be,I fi,I wh,I ad,dk ra rn rc] 60);by_cases y:fi=0
 .subst y;have e:mh 0 kd po wh=0:=by unfold mh;rw[aE rfl]
  rw[e];go_enter func62,ntmps62;go_wp2;go_ret;exact⟨rfl,d⟩
 obtain rfl|rfl|rfl|rfl|rfl:=F
 .have e:mh fi 1 po wh=0:=by unfold mh;rw[az y];simp
  rw[e];go_enter func62,ntmps62;go_wp2;go_ret;exact⟨rfl,d⟩
 .by_cases A:wh=4
  .have e:mh fi 2 po wh=po+1:=by unfold mh;rw[az y];simp[A]
   rw[e];subst A;go_enter func62,ntmps62;go_wp2;go_ret;exact⟨rfl,d⟩
  have e:mh fi 2 po wh=0:=by unfold mh;rw[az y];simp[A]
  rw[e];go_enter func62,ntmps62;go_wp2;go_ret;exact⟨rfl,d⟩
 .by_cases A:wh=4
  .have e:mh fi 3 po wh=po+1:=by unfold mh;rw[az y];simp[A]
   rw[e];subst A;go_enter func62,ntmps62;go_wp2;go_ret;exact⟨rfl,d⟩
  have e:mh fi 3 po wh=0:=by unfold mh;rw[az y];simp[A]
  rw[e];go_enter func62,ntmps62;go_wp2;go_ret;exact⟨rfl,d⟩
 .have e:mh fi 4 po wh=po:=by unfold mh;rw[az y];simp
  rw[e];go_enter func62,ntmps62;go_wp2;go_ret;exact⟨rfl,d⟩
 have e:mh fi 5 po wh=0:=by unfold mh;rw[az y];simp
 rw[e];go_enter func62,ntmps62;go_wp2;go_ret;exact⟨rfl,d⟩
def j5(fi kd po wh ad:Int)(vs rv:List Int):Int×List Int×Bool:=if fi=0 then(0,[],false)else if kd=1 then(if wh=1 then(ad,vs,true)else(0,[],false))else if kd=2\/kd=3 then(if wh=8 then(po,rv,true)else if wh=9 then(po,[],true)else(0,[],false))else(0,[],false)
theorem tA(i0 i A po be fi wh ad)(vs rv)(ta)(tn tc)(ra)(rc)(P:QN A)(w)(L:Sl w (dk ra rv.length rc) (rv.map B8)):ib 60 #[tR i0 i A po (ik vs) ta tn tc be fi wh ad ra rv.length rc] w λQ w'=>Q=gG (.tuple #[I (j5 fi A po wh ad vs rv).1,.string (ik (j5 fi A po wh ad vs rv).2.1),.bool (j5 fi A po wh ad vs rv).2.2])/\Bl w w':=by
 have d:=(Bl.refl w).alloc (gO #[I i0,I i,I A,I po,.string (ik vs),dk ta tn tc,I be,I fi,I wh,I ad,dk ra rv.length rc] 60);have S:ik []=({data:=#[]}:ByteArray):=rfl;by_cases y:fi=0
 .have e:j5 fi A po wh ad vs rv=(0,[],false):=by unfold j5;rw[aE y]
  rw[e];subst y;go_enter func60,ntmps60;go_wp2;go_ret3;exact⟨rfl,d⟩
 obtain rfl|rfl|rfl|rfl|rfl:=P
 .by_cases M:wh=1
  .have e:j5 fi 1 po wh ad vs rv=(ad,vs,true):=by unfold j5;rw[az y];simp[M]
   rw[e];clear e;subst M;go_enter func60,ntmps60;go_upto_region 4 with fail;go_quiet(fail);go_wp2;go_ret3;exact⟨rfl,d.drewN _⟩
  have e:j5 fi 1 po wh ad vs rv=(0,[],false):=by unfold j5;rw[az y];simp[M]
  rw[e];clear e;go_enter func60,ntmps60;go_wp2;go_ret3;exact⟨rfl,d⟩
 .by_cases F:wh=8
  .have e:j5 fi 2 po wh ad vs rv=(po,rv,true):=by unfold j5;rw[az y];simp[F]
   rw[e];clear e;subst F;have T:=lC _ rv _ (L.bl d);have A:=λn=>lC _ rv _ ((L.bl d).bl (jo.drewN n));go_enter func60,ntmps60;go_upto_region 6 with fail;go_quiet(fail);go_wp2;go_ret3;exact⟨rfl,d.drewN _⟩
  by_cases H:wh=9
  .have e:j5 fi 2 po wh ad vs rv=(po,[],true):=by unfold j5;rw[az y];simp[H]
   rw[e];clear e;subst H;go_enter func60,ntmps60;go_wp2;go_ret3;exact⟨rfl,d⟩
  have e:j5 fi 2 po wh ad vs rv=(0,[],false):=by unfold j5;rw[az y];simp[F,H]
  rw[e];clear e;go_enter func60,ntmps60;go_wp2;go_ret3;exact⟨rfl,d⟩
 .by_cases F:wh=8
  .have e:j5 fi 3 po wh ad vs rv=(po,rv,true):=by unfold j5;rw[az y];simp[F]
   rw[e];clear e;subst F;have T:=lC _ rv _ (L.bl d);have A:=λn=>lC _ rv _ ((L.bl d).bl (jo.drewN n));go_enter func60,ntmps60;go_upto_region 6 with fail;go_quiet(fail);go_wp2;go_ret3;exact⟨rfl,d.drewN _⟩
  by_cases H:wh=9
  .have e:j5 fi 3 po wh ad vs rv=(po,[],true):=by unfold j5;rw[az y];simp[H]
   rw[e];clear e;subst H;go_enter func60,ntmps60;go_wp2;go_ret3;exact⟨rfl,d⟩
  have e:j5 fi 3 po wh ad vs rv=(0,[],false):=by unfold j5;rw[az y];simp[F,H]
  rw[e];clear e;go_enter func60,ntmps60;go_wp2;go_ret3;exact⟨rfl,d⟩
 .have e:j5 fi 4 po wh ad vs rv=(0,[],false):=by unfold j5;rw[az y];simp
  rw[e];clear e;go_enter func60,ntmps60;go_wp2;go_ret3;exact⟨rfl,d⟩
 have e:j5 fi 5 po wh ad vs rv=(0,[],false):=by unfold j5;rw[az y];simp
 rw[e];clear e;go_enter func60,ntmps60;go_wp2;go_ret3;exact⟨rfl,d⟩
def VP(c):LM c=mh c.fin c.kind c.pos c.r.wh:=rfl
def MV(c):uF c=j5 c.fin c.kind c.pos c.r.wh c.r.ad c.value c.r.val:=rfl
abbrev wV(i0 i:Int)(kd po:Int)(vs:ByteArray)(ta:Option Addr)(tn tc:Nat)(be fi wh ad:Int)(ra:Option Addr)(rn rc:Nat):Obj:= .cells #[I i0,I i,I kd,I po,.string vs,.slice ta tn tc,I be,I fi,I wh,I ad,.slice ra rn rc] 60
def mz{y A F H L M P Q S T d:Value}(h:w.heap[g]?=some (gO #[y,A,F,H,L,M,P,Q,S,T,d] 60 (0,0))):(w.cell? (U g 0)=some y/\w.cell? (U g 1)=some A/\w.cell? (U g 2)=some F/\w.cell? (U g 3)=some H/\w.cell? (U g 4)=some L/\w.cell? (U g 5)=some M/\w.cell? (U g 6)=some P/\w.cell? (U g 7)=some Q/\w.cell? (U g 8)=some S/\w.cell? (U g 9)=some T/\w.cell? (U g 10)=some d)/\g<w.heap.size:=
 ⟨⟨ax w g 0 _ 60 (0,0) h,ax w g 1 _ 60 (0,0) h,ax w g 2 _ 60 (0,0) h,ax w g 3 _ 60 (0,0) h,ax w g 4 _ 60 (0,0) h,ax w g 5 _ 60 (0,0) h,ax w g 6 _ 60 (0,0) h,ax w g 7 _ 60 (0,0) h,ax w g 8 _ 60 (0,0) h,ax w g 9 _ 60 (0,0) h,ax w g 10 _ 60 (0,0) h⟩,(ae.1 h).1⟩
structure Sv(ofi okd opo owh oad:Int)(ovs orv:List Int)(fi kd po wh ad:Int)(vs rv:List Int):Prop where
 app:kd=1->(j5 fi kd po wh ad vs rv).2.2=true->¬(j5 fi kd po wh ad vs rv).1<mh ofi okd opo owh
 rV:kd=2\/kd=3->fi≠0->po<mh ofi okd opo owh->wh=4
 E:kd=2\/kd=3->fi≠0->(j5 ofi okd opo owh oad ovs orv).2.2=true->(j5 ofi okd opo owh oad ovs orv).1=po->wh≠3
theorem NI(oi0 oi okd opo obe ofi owh oad)(ovs orv)(ota)(otn otc)(ora)(orc)(i0 i kd po be fi wh ad)(vs rv)(ta)(tn tc)(ra)(rc)(al:QN okd)(hk:QN kd)(bd:0<=opo/\opo<=1000)(w)(am:Sl w (dk ora orv.length orc) (orv.map B8))(hr:Sl w (dk ra rv.length rc) (rv.map B8))(hG:Sv ofi okd opo owh oad ovs orv fi kd po wh ad vs rv):ib 64 #[tR oi0 oi okd opo (ik ovs) ota otn otc obe ofi owh oad ora orv.length orc,tR i0 i kd po (ik vs) ta tn tc be fi wh ad ra rv.length rc] w λen w'=>en=gG (.bool true)/\Bl w w':=by
 obtain⟨W1,L⟩:=dS (w.alloc (wV oi0 oi okd opo (ik ovs) ota otn otc obe ofi owh oad ora orv.length orc));obtain⟨W2,Q⟩:=dS (W1.alloc (wV i0 i kd po (ik vs) ta tn tc be fi wh ad ra rv.length rc));have b1:Bl w W1:=by rw[<-L];exact jo.alloc _
 have b2:Bl W1 W2:=by rw[<-Q];exact jo.alloc _
 have z1:W1.heap.size=w.heap.size+1:=by rw[<-L];simp
 have an:W1.heap[w.heap.size]?=some (wV oi0 oi okd opo (ik ovs) ota otn otc obe ofi owh oad ora orv.length orc):=by rw[<-L];exact ao w _
 have S:=(b2.heap (b:=w.heap.size) C).H an;have a3:W2.heap[w.heap.size+1]?=some (wV i0 i kd po (ik vs) ta tn tc be fi wh ad ra rv.length rc):=by rw[<-z1,<-Q];exact ao W1 _
 obtain⟨a4,a5,a6,Hb⟩:=ju (λW=>Bh oi0 oi okd opo obe ofi owh oad (ik ovs) ota otn otc ora orv.length orc al bd W) (λW (hb:Bl w W)=>tA i0 i kd po be fi wh ad vs rv ta tn tc ra rc hk W (hr.bl hb)) (λW (hb:Bl w W)=>tA oi0 oi okd opo obe ofi owh oad ovs orv ota otn otc ora orc al W (am.bl hb)) (b1.H b2);obtain⟨bg,bi,ap⟩:=gV S a3 L;obtain⟨ar,HG⟩:=fl Q hG;obtain⟨o0,o1,o2,o3,o4,o5,o6,o7,o8,o9,av⟩:=(mz S).1;have lo:=(mz S).2;have lc:=(mz a3).2;obtain⟨tr,a7⟩:=dS (mh ofi okd opo owh);rw[a7]at a4;obtain⟨bc,a8⟩:=dS (j5 fi kd po wh ad vs rv);obtain⟨bo,a9⟩:=dS (j5 ofi okd opo owh oad ovs orv);rw[a8]at a5;rw[a9]at a6;obtain⟨aw,T,ab⟩:=gV a8 a9 a7;clear a8 a9 a7 L Q b1 b2 z1 an S a3 hG am hr;go_enter func64,ntmps64;go_upto_region 1 with fail;rw[ap.o,ar.o];clear ap ar;go_upto_region 2 with(go_at_call 62;refine gF (a4 _) λw3 Y=>?_;have b0:=(Y.heap lc).H bi;have b3:=(Y.heap lo).H bg;obtain⟨b4,ac,b5⟩:=gV Y b0 b3;clear Y b0 b3);clear o0 o1 o2 o3 o4 o5 o6 o7 o8 o9 av;obtain⟨c0,c1,c2,c3,c4,c5,c6,c7,c8,c9,F⟩:=(mz ac).1;have bl:=(mz ac).2;go_upto_region 3 with(go_at_call 60;refine gF (a5 _ (Hb.H b4)) λw4 Z=>?_;have b6:=(Z.heap bl).H ac;have b7:=(Z.heap (mz b5).2).H b5;obtain⟨bm,a0,b8⟩:=gV Z b6 b7;clear Z b6 b7);clear c0 c1 c2 c3 c4 c5 c6 c7 c8 c9 F;obtain⟨c0,c1,c2,c3,c4,c5,c6,c7,c8,c9,F⟩:=(mz a0).1;obtain⟨o0,o1,o2,o3,o4,o5,o6,o7,o8,o9,av⟩:=(mz b8).1;have b9:=(mz a0).2;have bv:=(mz b8).2;have d:=fu ((Hb.H b4).H bm);have a1:=λW (hb:Bl w4 W)=>a6.o W (d.H hb);have a2:=fu a1;clear a1 a6 a5 a4;obtain⟨ag,bs,bb⟩:=bc;obtain hk|hk|hk|hk|hk:=hk
 .subst hk
  cases bb
  .go_wp2;go_ret;exact⟨rfl,d⟩
  have h2:¬ag<tr:=by have h3:=HG.app rfl (qz aw.o);rwa[aw.o,ab.o]at h3
  go_wp2;go_ret;exact⟨rfl,d⟩
 iterate 2
  .subst hk
   cases bb
   .by_cases hf:fi=0
    .subst hf;go_wp2;go_ret;exact⟨rfl,d⟩
    by_cases iV:po<tr
    .have h4:=HG.rV au hf (jP ab.o iV);subst h4;go_wp2;go_ret;exact⟨rfl,d⟩
    have Hs:=fu (HG.E au hf);go_upto_region 10 with(go_at_call 60;refine gF (a2 _ jo) λw5 y=>?_;have M:=(y.heap b9).H a0;obtain⟨A,P⟩:=fl y M;clear y M);clear c0 c1 c2 c3 c4 c5 c6 c7 c8 c9 F;obtain⟨c0,c1,c2,c3,c4,c5,c6,c7,c8,c9,F⟩:=(mz P).1;have bn:=(mz P).2;obtain⟨ai,ba,ob⟩:=bo
    cases ob
    .go_wp2;go_ret;exact⟨rfl,d.H A⟩
    by_cases ak:ai=po
    .have h3:¬wh=3:=Hs (qz T.o) (jP T.o ak);go_wp2;go_ret;exact⟨kG (mY h3),d.H A⟩
    go_wp2;go_ret;exact⟨rfl,d.H A⟩
   by_cases bq:ag<tr;all_goals
    by_cases hf:fi=0
    .subst hf;go_wp2;go_ret;exact⟨rfl,d⟩
    by_cases iV:po<tr
    .have h4:=HG.rV au hf (jP ab.o iV);subst h4;go_wp2;go_ret;exact⟨rfl,d⟩
    have Hs:=fu (HG.E au hf);go_upto_region 10 with(go_at_call 60;refine gF (a2 _ jo) λw5 y=>?_;have M:=(y.heap b9).H a0;obtain⟨A,P⟩:=fl y M;clear y M);clear c0 c1 c2 c3 c4 c5 c6 c7 c8 c9 F;obtain⟨c0,c1,c2,c3,c4,c5,c6,c7,c8,c9,F⟩:=(mz P).1;have bn:=(mz P).2;obtain⟨ai,ba,ob⟩:=bo
    cases ob
    .go_wp2;go_ret;exact⟨rfl,d.H A⟩
    by_cases ak:ai=po
    .have h3:¬wh=3:=Hs (qz T.o) (jP T.o ak);go_wp2;go_ret;exact⟨kG (mY h3),d.H A⟩
    go_wp2;go_ret;exact⟨rfl,d.H A⟩
 all_goals
  subst hk
  cases bb
  .go_wp2;go_ret;exact⟨rfl,d⟩
  by_cases bq:ag<tr
  .go_wp2;go_ret;exact⟨rfl,d⟩
  go_wp2;go_ret;exact⟨rfl,d⟩
def Ut.p{o:Kl}(h:Ut o c):Sv o.fin o.kind o.pos o.r.wh o.r.ad o.value o.r.val c.fin c.kind c.pos c.r.wh c.r.ad c.value c.r.val:=⟨λd y A=>h.1 ⟨y,A,d⟩,λd y A=>(h.2 d y).1 A,λd y A F H=>(h.2 d y).2 ⟨A,F,H⟩⟩
def qE.cells{S:List Kl}{cc:Nat}{cs:List Value}(h:qE w aY S (dk ca S.length cc) cs)(Y:S[k]?=some c):∃cb L M P Q,ca=G cb/\cb<w.heap.size/\w.cell? (U cb (k*11))=some (I c.a)/\w.cell? (U cb (k*11+1))=some (I c.b)/\w.cell? (U cb (k*11+2))=some (I c.kind)/\w.cell? (U cb (k*11+3))=some (I c.pos)/\w.cell? (U cb (k*11+4))=some (.string (ik c.value))/\w.cell? (U cb (k*11+5))=some (dk L c.c.length M)/\w.cell? (U cb (k*11+6))=some (I c.d)/\w.cell? (U cb (k*11+7))=some (I c.fin)/\w.cell? (U cb (k*11+8))=some (I c.r.wh)/\w.cell? (U cb (k*11+9))=some (I c.r.ad)/\w.cell? (U cb (k*11+10))=some (dk P c.r.val.length Q)/\w.ownsRow 0 3 1 (dk L c.c.length M) c.c.length (c.c.map I)/\Sl w (dk P c.r.val.length Q) (c.r.val.map B8):=by have hk:=(aj.1 Y).1;obtain⟨cb,rfl,_,T,d,_⟩:=h.row.cells C;obtain⟨tv,rv,Z,e1,e2,e3,e4,e5,e6,e7,e8,e9,A,F,y⟩:=h.c k c Y;obtain⟨L,M,rfl⟩:=F.E;obtain⟨P,Q,rfl⟩:=y.E;rw[ay]at A y;exact⟨cb,L,M,P,Q,rfl,T,(d (k*11) C).H Z,(d (k*11+1) C).H e1,(d (k*11+2) C).H e2,(d (k*11+3) C).H e3,(d (k*11+4) C).H e4,(d (k*11+5) C).H e5,(d (k*11+6) C).H e6,(d (k*11+7) C).H e7,(d (k*11+8) C).H e8,(d (k*11+9) C).H e9,(d (k*11+10) C).H A,F.gZ,y.sl⟩
theorem Ab(h:jJ w aY g W V)(hl:W.bx.length<=9999999)(i0 i kd po be fi wh ad)(vs)(ta)(tn tc)(ra)(rn rc){o:Kl}(ho:W.bx[j]?=some o)(h1:o.kind=4)(h2:po<o.pos)(h3:o.d<fi):Calls prog 63 #[O g,tR i0 i kd po vs ta tn tc be fi wh ad ra rn rc] w λen w'=>en=.returned (.bool true)/\Bl w w':=by
 obtain⟨ca,cc,P⟩:=h.ca.row.E;obtain⟨pv,av,lv,cv,hv,mv,ps,aw,ls,cs,tp⟩:=V;simp only at P;subst P;obtain⟨W1,y⟩:=dS (w.alloc (.cells #[I i0,I i,I kd,I po,.string vs,.slice ta tn tc,I be,I fi,I wh,I ad,.slice ra rn rc] 60));have b1:Bl w W1:=by rw[<-y];exact jo.alloc _
 have Q:W1.heap[w.heap.size]?=some (.cells #[I i0,I i,I kd,I po,.string vs,.slice ta tn tc,I be,I fi,I wh,I ad,.slice ra rn rc] 60 (0,0)):=by rw[<-y];exact ao w _
 have ab:=(aj.1 ho).1;obtain⟨H,Ho,S⟩:=gV h ho y;obtain⟨T,Y⟩:=fl Q b1;clear h ho y Q b1;go_enter func63,ntmps63;go_upto_region 1 with fail;rw[S.o];clear S;go_wp2;go_loopw[5](λx wr=>∃k:Nat,k<=j/\x=I k/\Hid (Bl W1 wr)) λx _=>W.bx.length-(Go.RowKit.intOf x).toNat
 case atStart=>exact⟨0,jd,rfl,jo⟩
 obtain⟨k,a1,rfl,HB⟩:=hrel;have bw:=Y.H HB;have hX:=H.bl (bp:=aY) bw λ_ _=>rfl;have iV:k<W.bx.length:=C;have a8:(k:Int)<(W.bx.length:Int):=C;have c7:=hX.cellAt 7 rfl;have ac:=hX.lt;have F:=(HB.heap (ae.1 T).1).H T;have Z:w.heap.size<wr.heap.size:=(ae.1 F).1;obtain⟨x3,x7⟩:=rO F 3 7 rfl;obtain⟨c,hc⟩:=m9 iV;obtain⟨cb,a2,a3,a4,a5,rfl,ag,d0,d1,d2,d3,d4,d5,d6,d7,d8,d9,a6,_,_⟩:=hX.ca.cells hc;obtain⟨oQ,hO⟩:=dS (Obj.cells #[I c.a,I c.b,I c.kind,I c.pos,.string (ik c.value),.slice a2 c.c.length a3,I c.d,I c.fin,I c.r.wh,I c.r.ad,.slice a4 c.r.val.length a5] 60);obtain⟨W5,L⟩:=dS (wr.alloc oQ);have bA:=(Bl.refl wr).alloc oQ;have d:=ao wr oQ;rw[L]at bA d;obtain⟨y3,y7⟩:=bA.E Z x3 x7;have a9:=af Z bA.lt;have ai:wr.heap.size<W5.heap.size:=(ae.1 d).1;rw[<-hO]at d;obtain⟨z2,z3,z6⟩:=px d 2 3 6 rfl;obtain⟨HO,a0,a7,Hc⟩:=ju hO L bA hc;have M:Hid (¬(c.kind=4/\po<c.pos/\c.d<fi)->k<j):=λhn=>by
  apply fc a1;intro e;subst e;have e2:c=o:=by have:=Hc.symm.H Ho;simpa using this
  subst e2;exact hn ⟨h1,h2,h3⟩
 clear hX F d hO L bA hc bw;go_upto_region 5 with fail;rw[HO.o,a0.o];clear HO a0 d0 d1 d2 d3 d4 d5 d6 d7 d8 d9 a6 c7;have A:=fu (HB.H a7);by_cases k4:c.kind=4
 .rw[k4]at z2;by_cases k5:po<c.pos
  .by_cases k6:c.d<fi
   .go_wp2;go_ret;exact⟨rfl,Y.H A⟩
   have:=M λe=>k6 e.2.2;go_wp2;exact⟨⟨k+1,C,gX,A⟩,gW⟩
  have:=M λe=>k5 e.2.1;go_wp2;exact⟨⟨k+1,C,gX,A⟩,gW⟩
 have:=M λe=>k4 e.1;go_wp2;exact⟨⟨k+1,C,gX,A⟩,gW⟩
theorem BM(h:jJ w aY g W V)(hl:W.bx.length<=9999999)(i0 i kd po be fi wh ad)(vs)(ta)(tn tc)(ra)(rn rc){o:Kl}(ho:W.bx[j]?=some o)(at0)(h1:o.kind=3)(h2:o.pos=at0)(h3:o.d<fi\/o.d=be):Calls prog 61 #[O g,tR i0 i kd po vs ta tn tc be fi wh ad ra rn rc,I at0,.string {data:=#[]}] w λen w'=>en=.returned (.bool true)/\Bl w w':=by
 obtain⟨ca,cc,Q⟩:=h.ca.row.E;obtain⟨pv,av,lv,cv,hv,mv,ps,aw,ls,cs,tp⟩:=V;simp only at Q;subst Q;obtain⟨W1,F⟩:=dS (w.alloc (.cells #[I i0,I i,I kd,I po,.string vs,.slice ta tn tc,I be,I fi,I wh,I ad,.slice ra rn rc] 60));have b1:Bl w W1:=by rw[<-F];exact jo.alloc _
 have S:W1.heap[w.heap.size]?=some (.cells #[I i0,I i,I kd,I po,.string vs,.slice ta tn tc,I be,I fi,I wh,I ad,.slice ra rn rc] 60 (0,0)):=by rw[<-F];exact ao w _
 have ab:=(aj.1 ho).1;obtain⟨H,Ho,T⟩:=gV h ho F;obtain⟨Y,L⟩:=fl S b1;clear h ho F S b1;go_enter func61,ntmps61;go_upto_region 1 with fail;rw[T.o];clear T;go_wp2;go_loopw[9](λx wr=>∃k:Nat,k<=j/\x=I k/\Hid (Bl W1 wr)) λx _=>W.bx.length-(Go.RowKit.intOf x).toNat
 case atStart=>exact⟨0,jd,rfl,jo⟩
 obtain⟨k,a1,rfl,HB⟩:=hrel;have bw:=L.H HB;have hX:=H.bl (bp:=aY) bw λ_ _=>rfl;have iV:k<W.bx.length:=C;have a8:(k:Int)<(W.bx.length:Int):=C;have c7:=hX.cellAt 7 rfl;have ac:=hX.lt;have M:=(HB.heap (ae.1 Y).1).H Y;have Z:w.heap.size<wr.heap.size:=(ae.1 M).1;obtain⟨x6,x7⟩:=rO M 6 7 rfl;obtain⟨c,hc⟩:=m9 iV;obtain⟨cb,a2,a3,a4,a5,rfl,ag,d0,d1,d2,d3,d4,d5,d6,d7,d8,d9,a6,_,_⟩:=hX.ca.cells hc;obtain⟨oQ,hO⟩:=dS (Obj.cells #[I c.a,I c.b,I c.kind,I c.pos,.string (ik c.value),.slice a2 c.c.length a3,I c.d,I c.fin,I c.r.wh,I c.r.ad,.slice a4 c.r.val.length a5] 60);obtain⟨W5,P⟩:=dS (wr.alloc oQ);have bA:=(Bl.refl wr).alloc oQ;have d:=ao wr oQ;rw[P]at bA d;obtain⟨y6,y7⟩:=bA.E Z x6 x7;have a9:=af Z bA.lt;have ai:wr.heap.size<W5.heap.size:=(ae.1 d).1;rw[<-hO]at d;obtain⟨z2,z3,z6⟩:=px d 2 3 6 rfl;obtain⟨HO,a0,a7,Hc⟩:=ju hO P bA hc;have A:Hid (¬(c.kind=3/\c.pos=at0/\(c.d<fi\/c.d=be))->k<j):=λhn=>by
  apply fc a1;intro e;subst e;have e2:c=o:=by have:=Hc.symm.H Ho;simpa using this
  subst e2;exact hn ⟨h1,h2,h3⟩
 clear hX M d hO P bA hc bw;go_upto_region 5 with fail;rw[HO.o,a0.o];clear HO a0 d0 d1 d2 d3 d4 d5 d6 d7 d8 d9 a6 c7;have y:=fu (HB.H a7);by_cases k6:fi<=c.d
 .by_cases k7:c.d=be
  .by_cases k4:c.kind=3
   .rw[k4]at z2;by_cases k5:c.pos=at0
    .rw[k5]at z3;go_wp2;go_ret;exact⟨rfl,L.H y⟩
    have:=A λe=>k5 e.2.1;go_wp2;exact⟨⟨k+1,C,gX,y⟩,gW⟩
   have:=A λe=>k4 e.1;go_wp2;exact⟨⟨k+1,C,gX,y⟩,gW⟩
  have:=A (λe=>by obtain e|e:=e.2.2;omega;exact k7 e);go_wp2;exact⟨⟨k+1,C,gX,y⟩,gW⟩
 by_cases k4:c.kind=3
 .rw[k4]at z2;by_cases k5:c.pos=at0
  .rw[k5]at z3;go_wp2;go_ret;exact⟨rfl,L.H y⟩
  have:=A λe=>k5 e.2.1;go_wp2;exact⟨⟨k+1,C,gX,y⟩,gW⟩
 have:=A λe=>k4 e.1;go_wp2;exact⟨⟨k+1,C,gX,y⟩,gW⟩
theorem DX(h:jJ w aY g W V)(hl:W.bx.length<=9999999)(i0 i kd po be fi wh ad)(vs)(ta)(tn tc)(ra)(rn rc){o:Kl}(ho:W.bx[j]?=some o)(at0)(val)(b5:val≠[])(a1:∀d∈val,0<=d/\d<=255)(a9:∀(k:Nat) (c:Kl),W.bx[k]?=some c->∀d∈c.value,0<=d/\d<=255)(ab:∀(k:Nat) (c:Kl),W.bx[k]?=some c->c.kind=1->c.value=val->k=j)(h1:o.kind=1)(h2:o.value=val)(h3:o.d<fi)(h4:at0∈o.c)(b6:o.fin=0\/(o.fin≠0/\o.r.wh=1/\o.r.ad=at0))(h8:o.c.length<=3000000000):Calls prog 61 #[O g,tR i0 i kd po vs ta tn tc be fi wh ad ra rn rc,I at0,.string (ik val)] w λen w'=>en=.returned (.bool true)/\Bl w w':=by
 obtain⟨ca,cc,ac⟩:=h.ca.row.E;obtain⟨pv,av,lv,cv,hv,mv,ps,aw,ls,cs,tp⟩:=V;simp only at ac;subst ac;obtain⟨W1,S⟩:=dS (w.alloc (.cells #[I i0,I i,I kd,I po,.string vs,.slice ta tn tc,I be,I fi,I wh,I ad,.slice ra rn rc] 60));have b1:Bl w W1:=by rw[<-S];exact jo.alloc _
 have T:W1.heap[w.heap.size]?=some (.cells #[I i0,I i,I kd,I po,.string vs,.slice ta tn tc,I be,I fi,I wh,I ad,.slice ra rn rc] 60 (0,0)):=by rw[<-S];exact ao w _
 have bv:=(aj.1 ho).1;obtain⟨H,Ho,ag⟩:=gV h ho S;obtain⟨ai,a2⟩:=fl T b1;have Y:¬(ik val).toList=[]:=λe=>b5 (oN a1 (λd hd=>lY hd) (by rw[e,ey,mE];rfl));have ak:(ik val).toList.isEmpty=false:=by
  cases hl:(ik val).toList with
  |nil=>exact absurd hl Y
  |cons _ _=>rfl
 have a3:=lZ a1 a9 ab;obtain⟨sv,a4⟩:=dS (ik val);rw[a4]at Y ak|-;have al:=fu a4;clear h ho S T b1 a4 a1 a9 ab;go_enter func61,ntmps61;go_upto_region 1 with fail;rw[ag.o];clear ag;go_wp2;go_loopw[9](λx wr=>∃k:Nat,k<=j/\x=I k/\Hid (Bl W1 wr)) λx _=>W.bx.length-(Go.RowKit.intOf x).toNat
 case atStart=>exact⟨0,jd,rfl,jo⟩
 obtain⟨k,b7,rfl,HB⟩:=hrel;have bw:=a2.H HB;have hX:=H.bl (bp:=aY) bw λ_ _=>rfl;have iV:k<W.bx.length:=C;have bm:(k:Int)<(W.bx.length:Int):=C;have c7:=hX.cellAt 7 rfl;have bB:=hX.lt;have a5:=(HB.heap (ae.1 ai).1).H ai;have am:w.heap.size<wr.heap.size:=(ae.1 a5).1;obtain⟨x6,x7⟩:=rO a5 6 7 rfl;obtain⟨c,hc⟩:=m9 iV;obtain⟨cb,b8,b9,ba,bc,rfl,bC,d0,d1,d2,d3,d4,d5,d6,d7,d8,d9,bd,F,_⟩:=hX.ca.cells hc;have bg:=fu F;clear F;obtain⟨oQ,hO⟩:=dS (Obj.cells #[I c.a,I c.b,I c.kind,I c.pos,.string (ik c.value),.slice b8 c.c.length b9,I c.d,I c.fin,I c.r.wh,I c.r.ad,.slice ba c.r.val.length bc] 60);obtain⟨W5,a6⟩:=dS (wr.alloc oQ);have bA:=(Bl.refl wr).alloc oQ;have y:=ao wr oQ;rw[a6]at bA y;obtain⟨y6,y7⟩:=bA.E am x6 x7;have bn:=af am bA.lt;have bD:wr.heap.size<W5.heap.size:=(ae.1 y).1;rw[<-hO]at y;obtain⟨z2,z3,z4,z5⟩:=nN y 2 3 4 5 rfl;obtain⟨z7,z8,z9,z6⟩:=nN y 7 8 9 6 rfl;obtain⟨HO,an,ap,Hc⟩:=ju hO a6 bA hc;have L:Hid (¬(c.kind=1/\c.value=val)->k<j):=λhn=>by
  apply fc b7;intro e;subst e;have e2:c=o:=by have:=Hc.symm.H Ho;simpa using this
  subst e2;exact hn ⟨h1,h2⟩
 have M:Hid ((c.kind=1/\c.value=val)->c=o):=λhn=>by have e:=a3.2.2 k c Hc hn.1 hn.2;subst e;have:=Hc.symm.H Ho;simpa using this
 have ar:Hid (c.value≠val->¬(ik c.value).toList=sv.toList):=λhn e=>hn (oN (a3.2.1 k c Hc) a3.1 (jP al.o e));clear hX a5 y hO a6 bA hc bw;go_upto_region 5 with fail;rw[HO.o,an.o];clear HO an d0 d1 d2 d3 d4 d5 d6 d7 d8 d9 bd c7;have A:=fu (HB.H ap);by_cases k6:fi<=c.d
 .by_cases k7:c.d=be
  .by_cases Z:c.kind=1
   .by_cases k5:c.value=val
    .have P:=M ⟨Z,k5⟩;subst P;omega
    have Q:=ar k5;have bi:((ik c.value).toList==sv.toList)=false:=iG Q;have bl:¬ik c.value=sv:=λe=>Q (qz e);generalize ik c.value=sc at*;rw[Z]at z2;have:=L λe=>k5 e.2;go_wp2;exact⟨⟨k+1,C,gX,A⟩,gW⟩
   have:=L λe=>Z e.1;go_wp2;exact⟨⟨k+1,C,gX,A⟩,gW⟩
  have:=L (λe=>by
   have P:=M e
   subst P
   omega)
  go_wp2;exact⟨⟨k+1,C,gX,A⟩,gW⟩
 by_cases Z:c.kind=1
 .by_cases k5:c.value=val
  .have P:=M ⟨Z,k5⟩;subst P;rw[Z]at z2;rw[k5,al.o]at z4;have b0:=fu ((iD ap).iJ bg λ_ _ e=>e);go_wp2;go_loopw[11,12](λhd x wx=>∃(t:Nat) (bb:Bool),t<=c.c.length/\hd=.bool bb/\x=I t/\wx=W5/\(bb=true↔at0∈c.c.take t)) λ_ x _=>c.c.length-(Go.RowKit.intOf x).toNat
   case atStart=>exact⟨0,false,jd,rfl,rfl,rfl,aq⟩
   obtain⟨t,bb,ht,rfl,rfl,rfl,a0⟩:=hrel;have a7:=fu a0;clear a0;by_cases b2:t<c.c.length
   .have bE:(t:Int)<(c.c.length:Int):=C;obtain⟨gt,bo,bq,b3,_,b4,_⟩:=b0.2.resolve_left λe=>C;simp only[bO,ZU]at b3;obtain⟨rfl,rfl⟩:=b3;have bR:gt<wr.heap.size:=(ae.1 b4).1;have y0:=(b0.cellAt t C).H (show(c.c.map I)[t]?=some (I c.c[t]) by rw[aK,ah b2];rfl);have F:Hid (c.c.take (t+1)=c.c.take t++[c.c[t]]):=by unfold Hid;rw[cW,ah b2];rfl
    generalize c.c[t]=tt at*;clear b4
    cases bb
    .by_cases a8:tt=at0
     .subst a8;go_wp2;exact⟨⟨t+1,true,C,rfl,gX,trivial,nI F.o⟩,gW⟩
     go_wp2;refine⟨⟨t+1,false,C,by first|rfl|simp[a8],gX,trivial,?_⟩,gW⟩;rw[F.o,aT];constructor
     .intro e;simp at e
     rintro(e|e)
     .exact a7.2 e
     simp at e;exact absurd e.symm a8
    go_wp2;exact⟨⟨t+1,true,C,rfl,gX,trivial,by rw[F.o,aT];exact⟨λ_=>.inl (a7.1 rfl),λ_=>rfl⟩⟩,gW⟩
   have bs:¬((t:Int)<(c.c.length:Int)):=C;have T:bb=true:=a7.2 (by rw[bI C];exact h4);subst T;obtain h5|⟨h7,h5,h6⟩:=b6
   .rw[h5]at z7;go_wp2;go_ret;exact⟨rfl,a2.H A⟩
   rw[h5]at z8;rw[h6]at z9;go_wp2;go_ret;exact⟨rfl,a2.H A⟩
  have Q:=ar k5;have bi:((ik c.value).toList==sv.toList)=false:=iG Q;have bl:¬ik c.value=sv:=λe=>Q (qz e);generalize ik c.value=sc at*;rw[Z]at z2;have:=L λe=>k5 e.2;go_wp2;exact⟨⟨k+1,C,gX,A⟩,gW⟩
 have:=L λe=>Z e.1;go_wp2;exact⟨⟨k+1,C,gX,A⟩,gW⟩
theorem Oq(w)(g)(i0 i kd po be fi wh)(vs)(ta)(tn tc)(ra)(rn rc)(d:(kd=2/\(wh=8\/wh=9\/wh=3\/wh=4))\/(kd=3/\(wh=8\/wh=9\/wh=4))\/(kd=4/\wh=1)\/(kd=5/\(wh=1\/wh=6)))(F:rn=0\/wh=8):ib 59 #[O g,tR i0 i kd po vs ta tn tc be fi wh 0 ra rn rc] w λH w'=>H=gG (.bool true)/\Bl w w':=by
 have y:=((Bl.refl w).alloc (gO #[I i0,I i,I kd,I po,.string vs,dk ta tn tc,I be,I fi,I wh,I 0,dk ra rn rc] 60)).alloc (gO #[I wh,I 0,dk ra rn rc] 43);by_cases A:rn=0
 .subst A;obtain⟨rfl,d⟩|⟨rfl,d⟩|⟨rfl,rfl⟩|⟨rfl,d⟩:=d
  .obtain rfl|rfl|rfl|rfl:=d;all_goals
    go_enter func59,ntmps59;go_wp2;go_ret;exact⟨rfl,y⟩
  .obtain rfl|rfl|rfl:=d;all_goals
    go_enter func59,ntmps59;go_wp2;go_ret;exact⟨rfl,y⟩
  .go_enter func59,ntmps59;go_wp2;go_ret;exact⟨rfl,y⟩
  obtain rfl|rfl:=d;all_goals
   go_enter func59,ntmps59;go_wp2;go_ret;exact⟨rfl,y⟩
 have L:=F.resolve_left A;subst L;have M:¬((rn:Int)=0):=C;obtain⟨rfl,_⟩|⟨rfl,_⟩|⟨_,d⟩|⟨_,d⟩:=d
 .go_enter func59,ntmps59;go_wp2;go_ret;exact⟨rfl,y⟩
 .go_enter func59,ntmps59;go_wp2;go_ret;exact⟨rfl,y⟩
 .omega
 omega
def VQ(w:World)(X Y):((w.alloc X).alloc Y).heap[w.heap.size+1]?=some Y:=by have h:=ao (w.alloc X) Y;rwa[show(w.alloc X).heap.size=w.heap.size+1 by simp]at h
def VG(w:World)(X Y):((w.alloc X).alloc Y).heap[w.heap.size]?=some X:=by rw[cL _ _ (show w.heap.size<_ by simp)];exact ao w X
theorem RF(h:jJ w aY g W V)(d:Wk W):ib 27 #[O g] w λy w'=>y=gG (I (W.n*W.ce))/\∃k,w'=w.drewN k:=by
 obtain⟨A,F,H,L⟩:=rY d.mI;obtain⟨M,P⟩:=h.M 0 3 rfl;have Q:=h.lt;have S:=qG A F H L;have T:IntKind.i64.wrap ((W.n:Int)*W.ce)=W.n*W.ce:=Aj;clear h;go_enter func27,ntmps27;go_wp2_with fail;go_quiet(fail);go_wp2;go_ret;exact⟨rfl,_,rfl⟩
theorem JR(h:jJ w aY g W V)(hf:Wk W)(i0 i po be fi wh ad)(vs)(ta)(tc)(tk:List Int)(ra)(rc)(d:w.ownsRow 0 3 1 (dk ta tk.length tc) tk.length (tk.map I))(hl:tk.length<=3000000000)(hk:(wh=1/\ad∈tk/\0<=ad/\ad<W.n*W.ce)\/(wh=7/\ad=0/\∃t∈tk,t<0\/W.n*W.ce<=t)):ib 59 #[O g,tR i0 i 1 po vs ta tk.length tc be fi wh ad ra 0 rc] w λen w'=>en=gG (.bool true)/\Bl w w':=by
 have hB:=((Bl.refl w).alloc (wV i0 i 1 po vs ta tk.length tc be fi wh ad ra 0 rc)).alloc (gO #[I wh,I ad,dk ra 0 rc] 43);obtain⟨W2,L⟩:=dS ((w.alloc (wV i0 i 1 po vs ta tk.length tc be fi wh ad ra 0 rc)).alloc (gO #[I wh,I ad,dk ra 0 rc] 43));have y:=VG w (wV i0 i 1 po vs ta tk.length tc be fi wh ad ra 0 rc) (gO #[I wh,I ad,dk ra 0 rc] 43);have A:=VQ w (wV i0 i 1 po vs ta tk.length tc be fi wh ad ra 0 rc) (gO #[I wh,I ad,dk ra 0 rc] 43);rw[L]at hB y A;obtain⟨H,S,HT⟩:=gV (And.intro h hf) L ((iD hB).iJ d λ_ _ e=>e);obtain⟨ab,ac,Y⟩:=gV hB y A;have ag:wh=1\/wh=7/\ad=0:=by obtain hk|hk:=hk;exact .inl hk.1;exact .inr ⟨hk.1,hk.2.1⟩
 obtain⟨f1,f2,f3,f4⟩:=rY hf.mI;have hm:=qG f1 f2 f3 f4;obtain⟨T,hT⟩:=dS ((W.n:Int)*W.ce:Int);rw[hT]at hm hk;obtain⟨Z,Hk⟩:=fl hT hk;clear h hf L d hB y A hk f1 f2 f3 f4 hT;go_enter func59,ntmps59;go_upto_region 2 with fail;rw[S.o];clear S;obtain⟨⟨_,_,x2,_,_,x5,_,_,_,_,_⟩,a0⟩:=mz ac;have a1:w.heap.size+1<W2.heap.size:=(ae.1 Y).1;obtain⟨y0,y1,y2⟩:=px Y 0 1 2 rfl;go_cut[36]from 12 to 144 λx wx=>x=.bool false/\Hid (wx=W2)
 case first=>
  obtain rfl|⟨rfl,rfl⟩:=ag
  .obtain⟨q,hq⟩:=dS (ad !=0)
   cases q;all_goals(go_wp2_with fail;go_meet)
   all_goals exact⟨rfl,rfl⟩
  go_wp2_with fail;go_meet;exact⟨rfl,rfl⟩
 case rest=>
  obtain⟨rfl,hw⟩:=hcut;have ai:=hw.symm;subst ai;go_upto_region 9 with fail;clear x2 y2;go_loopw[6,7,8](λbo bi x wx=>∃(t:Nat) (b1 b2:Bool),t<=tk.length/\bo=.bool b1/\bi=.bool b2/\x=I t/\Hid (Bl W2 wx)/\Hid ((∃s∈tk.take t,s<0\/T<=s)->b1=true)/\Hid (ad∈tk.take t->b2=true)) λ_ _ x _=>tk.length-(Go.RowKit.intOf x).toNat
  case atStart=>exact⟨0,false,false,jd,rfl,rfl,rfl,jo,(λe=>by obtain⟨s,e,_⟩:=e;simp at e),(λe=>lY e)⟩
  obtain⟨t,b1,b2,ht,rfl,rfl,rfl,M,Hb,Hc⟩:=hrel;have bw:=ab.H M;have z5:=(M.cell a0).H x5;have av:=af a0 M.lt;have a2:=af a1 M.lt;obtain⟨z0,z1⟩:=M.E a1 y0 y1;obtain⟨hX,Hw⟩:=fl (H.1.bl (bp:=aY) bw λ_ _=>rfl) bw;clear bw;by_cases a3:t<tk.length
  .have aw:(t:Int)<(tk.length:Int):=C;have a4:=fu ((iD M).iJ HT λ_ _ e=>e);obtain⟨gt,al,am,a5,_,a6,_⟩:=a4.2.resolve_left λe=>C;simp only[bO,ZU]at a5;obtain⟨rfl,rfl⟩:=a5;have b0:gt<wr.heap.size:=(ae.1 a6).1;have q0:=(a4.cellAt t C).H (show(tk.map I)[t]?=some (I tk[t]) by rw[aK,ah a3];rfl);have d:Hid (tk.take (t+1)=tk.take t++[tk[t]]):=by unfold Hid;rw[cW,ah a3];rfl
   generalize tk[t]=tt at*;clear a6;go_upto_region 12 with fail;go_cut[6]from 41 to 70 λx wx=>∃Q:Bool,x=.bool Q/\Hid (Bl wr wx)/\Hid ((tt<0\/T<=tt)\/b1=true->Q=true)
   case first=>
    cases b1
    .by_cases b3:tt<0
     .go_wp2_with fail;go_meet;exact⟨true,rfl,jo,λ_=>rfl⟩
     go_wp2_with fail;refine gF (tz hX H.2) λW' a7=>?_;rw[Z.o];have ak:=fu a7;clear a7;go_wp2_with fail;go_meet;exact⟨decide (T<=tt),rfl,ak,λe=>by obtain (e|e)|e:=e;exact absurd e C;exact decide_eq_true e;exact absurd e au⟩
    go_wp2_with fail;go_meet;exact⟨true,rfl,jo,λ_=>rfl⟩
   case rest=>
    obtain⟨Q,rfl,P,a8⟩:=hcut;have v1:=(P.cell a2).H z1;have b4:=af a2 P.lt;have F:Hid (∀e2:Bool,(tt=ad\/b2=true->e2=true)->Hid (Bl W2 wc)/\Hid ((∃s∈tk.take (t+1),s<0\/T<=s)->Q=true)/\Hid (ad∈tk.take (t+1)->e2=true)):=by
     intro e2 h2;refine⟨M.H P,?_,?_⟩
     .unfold Hid;rw[d.o];rintro⟨s,e,es⟩;rw[aT]at e;obtain e|e:=e
      .exact a8 (.inr (Hb ⟨s,e,es⟩))
      simp at e;subst e;exact a8 (.inl es)
     unfold Hid;rw[d.o,aT];rintro(e|e)
     .exact h2 (.inr (Hc e))
     simp at e;exact h2 (.inl e.symm)
    clear d
    cases b2
    .go_wp2;exact⟨⟨t+1,Q,decide (tt=ad),C,rfl,rfl,gX,F _ λe=>iG e⟩,gW⟩
    go_wp2;exact⟨⟨t+1,Q,true,C,rfl,rfl,gX,F _ λ_=>rfl⟩,gW⟩
  have an:¬((t:Int)<(tk.length:Int)):=C;have a9:tk.take t=tk:=bI C;rw[a9]at Hb Hc;obtain⟨rfl,k1,ap,ar⟩|⟨rfl,rfl,k1⟩:=Hk.o
  .have A:=Hc k1;have HQ:Hid (∀nq,ib 27 #[O g] (wr.drewN nq) λen w'=>en=gG (I T)/\∃k,w'=(wr.drewN nq).drewN k):=λnq=>by rw[<-Z.o];exact RF (hX.bl (bp:=aY) (jo.drewN _) λ_ _=>rfl) H.2
   subst A;go_upto_region 14 with fail;go_quiet((go_at_call 27;exact Calls.quiet_of (HQ _)));go_wp2;go_ret;exact⟨rfl,Hw.drewN _⟩
  have y:=Hb k1;subst y;go_upto_region 14 with fail;go_quiet(fail);go_wp2;go_ret;exact⟨rfl,Hw.drewN _⟩
abbrev cV(c:Kl)(ta:Option Addr)(tc:Nat)(ra:Option Addr)(rc:Nat):Value:=tR c.a c.b c.kind c.pos (ik c.value) ta c.c.length tc c.d c.fin c.r.wh c.r.ad ra c.r.val.length rc
def Ni(h:jJ w aY g W V)(L:Wk W)(T:W.iH<=3000000000)(M:IW (W.n*W.ce) W.bx)(d:c∈W.bx)(P:c.fin≠0)(ta)(tc)(ra)(rc)(y:w.ownsRow 0 3 1 (dk ta c.c.length tc) c.c.length (c.c.map I)):ib 59 #[O g,cV c ta tc ra rc] w λQ w'=>Q=gG (.bool true)/\Bl w w':=by
 unfold cV;by_cases A:c.kind=1
 .obtain⟨F,H⟩:=M.UW c d P A;rw[A,F];exact JR h L c.a c.b c.pos c.d c.fin c.r.wh c.r.ad _ ta tc c.c ra rc y (gI ((L.ca c d).tk)) H
 obtain⟨F,H,S⟩:=M.Uv c d P A;rw[F];exact Oq w g c.a c.b c.kind c.pos c.d c.fin c.r.wh _ ta _ tc ra _ rc S (by obtain e|e:=H;exact .inl (by rw[e];rfl);exact .inr e)
def NU(h:jJ w aY g W V)(L:Wk W)(hl:W.iH<=3000000000)(d:W.bx.length<=9999999)(M:IW (W.n*W.ce) W.bx)(Z:c∈W.bx){a:Int}(hb:uF c=(a,vv,true))(ta)(tc)(ra)(rc):ib 61 #[O g,cV c ta tc ra rc,I a,.string (ik vv)] w λen w'=>en=gG (.bool true)/\Bl w w':=by
 unfold cV;by_cases P:vv=[]
 .subst P;obtain⟨o,y,H,A,Q⟩:=M.UN c Z a hb;obtain⟨j,S,e⟩:=aV.1 y;exact BM h d c.a c.b c.kind c.pos c.d c.fin c.r.wh c.r.ad _ ta _ tc ra _ rc (aj.2 ⟨S,e⟩) a H A (.inl Q)
 obtain⟨o,y,H,A,Q,p5,p6⟩:=M.VY c Z a vv P hb;obtain⟨j,S,e⟩:=aV.1 y;have F:=aj.2 ⟨S,e⟩;exact DX h d c.a c.b c.kind c.pos c.d c.fin c.r.wh c.r.ad _ ta _ tc ra _ rc F a vv P (by rw[<-A];exact(L.ca o y).vl.2) (λk c' T=>(L.ca c' (aR T)).vl.2) (λk c' T e1 e2=>M.uq k j c' o T F e1 H (j4 e2 A)) H A Q p5 (by by_cases Y:o.fin=0;exact .inl Y;exact .inr ⟨Y,p6.resolve_left Y⟩) (gI ((L.ca o y).tk))
def Tj{xs ys:List Int}(A:∀d∈xs,0<=d/\d<=255)(F:∀d∈ys,0<=d/\d<=255)(h:xs≠ys):¬(ik xs).toList=(ik ys).toList/\((ik xs).toList==(ik ys).toList)=false/\¬ik xs=ik ys:=by have y:¬(ik xs).toList=(ik ys).toList:=λe=>h (oN A F e);exact⟨y,iG y,λe=>y (qz e)⟩
def Og(h:TW W c):∀d∈(uF c).2.1,0<=d/\d<=255:=by
 unfold uF;split
 .intro d y;simp at y
 split
 .split
  .exact h.vl.2
  intro d y;simp at y
 split
 .split
  .exact h.r.a
  split<;>(intro d y;simp at y)
 intro d y;simp at y
theorem R7(h:jJ w aY g W V)(hf:Wk W)(bV:W.iH<=3000000000)(hl:W.bx.length<=9999999)(hO:IW (W.n*W.ce) W.bx):Calls prog 32 #[.pointer (some ⟨g,0,none⟩)] w λy w'=>y=.returned (.bool true)/\Bl w w':=by
 obtain⟨ca,cc,bW⟩:=h.ca.row.E;obtain⟨pv,av,lv,cv,hv,mv,ps,aw,ls,cs,tp⟩:=V;simp only at bW;subst bW;obtain⟨H,a6⟩:=fl (And.intro h hf) hO;clear h hf hO;go_enter func32,ntmps32;go_wp2;go_loopw[3](λx wr=>∃k:Nat,k<=W.bx.length/\x=.int .i64 k/\Hid (Bl w wr)) λx _=>W.bx.length-(Go.RowKit.intOf x).toNat
 case atStart=>exact⟨0,jd,rfl,jo⟩
 obtain⟨k,dw,rfl,HB⟩:=hrel;have hX:=H.1.bl (bp:=aY) HB λ_ _=>rfl;have c7:=hX.cellAt 7 rfl;have bX:=hX.lt;by_cases iV:k<W.bx.length
 .have dl:(k:Int)<(W.bx.length:Int):=by omega
  obtain⟨c,hc⟩:∃c,W.bx[k]?=some c:=⟨_,ah iV⟩;have a7:=aR hc;obtain⟨cb,ta,tc,ra,rc,rfl,c0,d0,d1,d2,d3,d4,d5,d6,d7,d8,d9,bs,c1,bv⟩:=hX.ca.cells hc;obtain⟨a,vv,bb,b9⟩:∃a vv bb,uF c=(a,vv,bb):=⟨_,_,_,rfl⟩;have a8:=H.2.ca c a7;have a9:0<=c.pos/\c.pos<=1000:=by have:=a8.po;omega
  have ab:Hid (c.fin≠0->∀Z,Bl wr Z->Calls prog 59 #[.pointer (some ⟨g,0,none⟩),cV c ta tc ra rc] Z λy w'=>y=.returned (.bool true)/\Bl Z w'):=λh0 Z hb=>Ni (H.1.bl (bp:=aY) (HB.H hb) λ_ _=>rfl) H.2 bV a6 a7 h0 ta tc ra rc ((bz.E (S:=λ_=>False) hb).iJ c1 λ_ _ e=>e);have ac:Hid (∀Z,Bl wr Z->Calls prog 60 #[cV c ta tc ra rc] Z λy w'=>y=.returned (.tuple #[.int .i64 a,.string (ik vv),.bool bb])/\Bl Z w'):=λZ hb=>by have e:=tA c.a c.b c.kind c.pos c.d c.fin c.r.wh c.r.ad c.value c.r.val ta c.c.length tc ra rc a8.kd Z (bv.bl hb);rwa[<-MV,b9]at e
  have a2:Hid (bb=true->∀Z,Bl wr Z->Calls prog 61 #[.pointer (some ⟨g,0,none⟩),cV c ta tc ra rc,.int .i64 a,.string (ik vv)] Z λy w'=>y=.returned (.bool true)/\Bl Z w'):=λcl Z hb=>NU (H.1.bl (bp:=aY) (HB.H hb) λ_ _=>rfl) H.2 bV hl a6 a7 (j4 b9 cl) ta tc ra rc;have ad:Hid (∀Z,Calls prog 62 #[cV c ta tc ra rc] Z λy w'=>y=.returned (.int .i64 (LM c))/\Bl Z w'):=λZ=>Bh c.a c.b c.kind c.pos c.d c.fin c.r.wh c.r.ad _ ta _ tc ra _ rc a8.kd a9 Z;have ag:Hid (c.kind≠4->LM c≠0->∀Z,Bl wr Z->Calls prog 63 #[.pointer (some ⟨g,0,none⟩),cV c ta tc ra rc] Z λy w'=>y=.returned (.bool true)/\Bl Z w'):=λe1 e2 Z hb=>by obtain⟨o,p1,p2,p3,p4⟩:=a6.V7 c a7 e1 e2;obtain⟨j,hj,e⟩:=aV.1 p1;exact Ab (H.1.bl (bp:=aY) (HB.H hb) λ_ _=>rfl) hl c.a c.b c.kind c.pos c.d c.fin c.r.wh c.r.ad _ ta _ tc ra _ rc (aj.2 ⟨hj,e⟩) p2 p3 p4
  obtain⟨cn,bw,Hc⟩:=gV bv b9 (And.intro hc a8);obtain⟨oQ,hO⟩:∃oQ,Obj.cells #[Value.int .i64 c.a,.int .i64 c.b,.int .i64 c.kind,.int .i64 c.pos,.string (ik c.value),.slice ta c.c.length tc,.int .i64 c.d,.int .i64 c.fin,.int .i64 c.r.wh,.int .i64 c.r.ad,.slice ra c.r.val.length rc] 60=oQ:=⟨_,rfl⟩;obtain⟨W5,bB⟩:∃W5,wr.alloc oQ=W5:=⟨_,rfl⟩;have bA:=(Bl.refl wr).alloc oQ;have d:=ao wr oQ;rw[bB]at bA d;rw[<-hO]at d;obtain⟨HO,c2,Q,ai⟩:=ju hO bB bA d;clear hX d hO bB bA hc a7 a8 a9 c1 bv b9;go_upto_region 5 with fail;rw[HO.o,c2.o];clear HO c2 d0 d1 d2 d3 d4 d5 d6 d7 d8 d9 bs c7;obtain⟨⟨z0,z1,z2,z3,z4,z5,z6,z7,z8,z9,A⟩,c3⟩:=mz ai;by_cases c4:c.fin=0
  .have c5:=fu (HB.H Q);clear ab ac a2 ad ag;go_wp2;exact⟨⟨k+1,by omega,by go_num,c5⟩,by simp[Go.RowKit.intOf];omega⟩
  have ak:=fu (ab c4);clear ab;go_wp2_with fail;refine(ak _ Q).L ?_;rintro y w6⟨rfl,bC⟩;obtain⟨T,bD⟩:=fl ((bC.heap c3).H ai) (Q.H bC);clear bC z0 z1 z2 z3 z4 z5 z6 z7 z8 z9 A;obtain⟨⟨z0,z1,z2,z3,z4,z5,z6,z7,z8,z9,A⟩,be⟩:=mz T;go_wp2_with fail;refine(ac _ bD).L ?_;rintro y w7⟨rfl,bE⟩;obtain⟨Y,al⟩:=fl ((bE.heap be).H T) (bD.H bE);clear bE z0 z1 z2 z3 z4 z5 z6 z7 z8 z9 A be;obtain⟨⟨z0,z1,z2,z3,z4,z5,z6,z7,z8,z9,A⟩,bg⟩:=mz Y;go_upto_region 8 with fail;go_cut[9]from 45 to 164 λx wx=>x=.bool true/\Hid (Bl w7 wx)
  case first=>
   cases bb
   .go_wp2_with fail;go_meet;exact⟨rfl,jo⟩
   have co:=fu (a2 rfl);clear a2;go_wp2_with fail;refine(co _ al).L ?_;rintro y w8⟨rfl,cp⟩;go_wp2_with fail;go_meet;exact⟨rfl,cp⟩
  case rest=>
   obtain⟨rfl,am⟩:=hcut;obtain⟨W8,rfl⟩:∃W8,W8=wc:=⟨_,rfl⟩;have F:=fu ((am.heap bg).H Y);clear z0 z1 z2 z3 z4 z5 z6 z7 z8 z9 A bg;obtain⟨⟨z0,z1,z2,z3,z4,z5,z6,z7,z8,z9,A⟩,an⟩:=mz F;go_upto_region 9 with fail;go_cut[10]from 54 to 164 λx wx=>x=.bool true/\Hid (Bl W8 wx)
   case first=>
    by_cases k4:c.kind=4
    .rw[k4]at z2;go_wp2_with fail;go_meet;exact⟨rfl,jo⟩
    go_wp2_with fail;refine(ad _).L ?_;rintro y w9⟨rfl,ap⟩;by_cases t0:LM c=0
    .rw[t0];have M:=fu ap;clear ap;go_wp2_with fail;go_meet;exact⟨rfl,M⟩
    have cq:=fu (ag k4 t0);obtain⟨tt,c6⟩:∃tt,LM c=tt:=⟨_,rfl⟩;rw[c6]at t0|-;clear c6;have P:=fu ((ap.heap an).H F);clear z0 z1 z2 z3 z4 z5 z6 z7 z8 z9 A;obtain⟨⟨z0,z1,z2,z3,z4,z5,z6,z7,z8,z9,A⟩,dn⟩:=mz P;have M:=fu ap;clear ap;go_wp2_with fail;refine(cq _ ((al.H am).H M)).L ?_;rintro y dO⟨rfl,bi⟩;have c8:=fu (M.H bi);clear bi;go_wp2_with fail;go_meet;exact⟨rfl,c8⟩
   case rest=>
    obtain⟨rfl,M⟩:=hcut;obtain⟨W9,rfl⟩:∃W9,W9=wc:=⟨_,rfl⟩;obtain⟨P,bl,c9⟩:=gV ((M.heap an).H F) (HB.H ((al.H am).H M)) ((al.H am).H M);clear z0 z1 z2 z3 z4 z5 z6 z7 z8 z9 A an a2 ad ag ak ac ai T Y F Q bD al am M c3 bX c0;go_wp2;go_loopw[11](λx wx=>∃j:Nat,j<=W.bx.length/\x=.int .i64 j/\Hid (Bl W9 wx)) λx _=>W.bx.length-(Go.RowKit.intOf x).toNat
    case atStart=>exact⟨0,jd,rfl,jo⟩
    obtain⟨j,e4,rfl,a0⟩:=hrel;have hX:=H.1.bl (bp:=aY) (bl.H a0) λ_ _=>rfl;have c7:=hX.cellAt 7 rfl;have bX:=hX.lt;by_cases cr:j<W.bx.length
    .have ds:(j:Int)<(W.bx.length:Int):=by omega
     obtain⟨o,ho⟩:∃o,W.bx[j]?=some o:=⟨_,ah cr⟩;have ba:=aR ho;obtain⟨e5,ar,b0,b1,b2,cd,c0,d0,d1,d2,d3,d4,d5,d6,d7,d8,d9,bs,_,b3⟩:=hX.ca.cells ho;simp only[aJ,Z0,ZS]at cd;subst cd;obtain⟨oa,ov,ob,b4⟩:∃a vv bb,uF o=(a,vv,bb):=⟨_,_,_,rfl⟩;have bc:=H.2.ca o ba;have a9:0<=o.pos/\o.pos<=1000:=by have:=bc.po;omega
     have ct:Hid (∀Z,Bl wr Z->Calls prog 60 #[cV o ar b0 b1 b2] Z λy w'=>y=.returned (.tuple #[.int .i64 oa,.string (ik ov),.bool ob])/\Bl Z w'):=λZ hb=>by have e:=tA o.a o.b o.kind o.pos o.d o.fin o.r.wh o.r.ad o.value o.r.val ar o.c.length b0 b1 b2 bc.kd Z (b3.bl hb);rwa[<-MV,b4]at e
     have cf:Hid (o.fin≠0->o.fin<c.d->∀Z,Bl wr Z->Calls prog 64 #[cV o ar b0 b1 b2,cV c ta tc ra rc] Z λy w'=>y=.returned (.bool true)/\Bl Z w'):=λe0 e Z hb=>NI o.a o.b o.kind o.pos o.d o.fin o.r.wh o.r.ad o.value o.r.val ar o.c.length b0 b1 b2 c.a c.b c.kind c.pos c.d c.fin c.r.wh c.r.ad c.value c.r.val ta c.c.length tc ra rc bc.kd Hc.2.kd a9 Z (b3.bl hb) (cn.bl ((c9.H a0).H hb)) (a6.KW c (aR Hc.1) o ba e0 e).p;have bm:Hid (j≠k->bb=true->ob=true->((a=oa->vv=ov)/\(vv≠[]->vv=ov->a=oa))/\¬(c.kind=1/\o.kind=1/\a=oa)):=λe1 e2 e3=>by have e:=a6.two k j c o Hc.1 ho (λe=>e1 e.symm) (jP bw.o e2) (jP b4 e3);rwa[bw.o,b4]at e
     have cx:Hid (vv≠ov->¬(ik vv).toList=(ik ov).toList/\((ik vv).toList==(ik ov).toList)=false/\¬ik vv=ik ov):=λe=>by have e1:=Og (H.2.ca c (aR Hc.1));have e2:=Og (H.2.ca o ba);rw[bw.o]at e1;rw[b4]at e2;exact Tj e1 e2 e
     obtain⟨O2,bR⟩:∃oQ,Obj.cells #[Value.int .i64 o.a,.int .i64 o.b,.int .i64 o.kind,.int .i64 o.pos,.string (ik o.value),.slice ar o.c.length b0,.int .i64 o.d,.int .i64 o.fin,.int .i64 o.r.wh,.int .i64 o.r.ad,.slice b1 o.r.val.length b2] 60=oQ:=⟨_,rfl⟩;obtain⟨e6,b5⟩:∃W5,wr.alloc O2=W5:=⟨_,rfl⟩;have bA:=(Bl.refl wr).alloc O2;have d:=ao wr O2;rw[b5]at bA d;rw[<-bR]at d;obtain⟨cg,bn,Q,b6⟩:=ju bR b5 bA d;have l9:=(mz P).2;have b7:=fu (((a0.H bA).heap l9).H P);clear hX d bR b5 bA ho ba bc a9 b3 b4 l9;go_upto_region 16 with fail;rw[cg.o,bn.o];clear cg bn d0 d1 d2 d3 d4 d5 d6 d7 d8 d9 bs c7;obtain⟨⟨y0,y1,y2,y3,y4,y5,y6,y7,y8,y9,ch⟩,ly⟩:=mz b6;have lz:=(mz b7).2;go_wp2_with fail;refine(ct _ Q).L ?_;rintro y ci⟨rfl,a3⟩;obtain⟨cP,cS,a4⟩:=gV ((a3.heap lz).H b7) ((a3.heap ly).H b6) (Q.H a3);clear a3 y0 y1 y2 y3 y4 y5 y6 y7 y8 y9 ch ly lz b7 b6;obtain⟨⟨y0,y1,y2,y3,y4,y5,y6,y7,y8,y9,ch⟩,ly⟩:=mz cS;obtain⟨⟨z0,z1,z2,z3,z4,z5,z6,z7,z8,z9,A⟩,lz⟩:=mz cP;go_upto_region 17 with fail;go_cut[125]from 99 to 125 λx wx=>x=.bool false/\Hid (wx=ci)
     case first=>
      by_cases bd:j=k
      .have bo:(j:Int)=(k:Int):=by omega
       go_wp2_with fail;go_meet;exact⟨rfl,rfl⟩
      have bo:¬(j:Int)=(k:Int):=by omega
      cases bb
      .go_wp2_with fail;go_meet;exact⟨rfl,rfl⟩
      cases ob
      .go_wp2_with fail;go_meet;exact⟨rfl,rfl⟩
      have Ht:=fu (bm bd rfl rfl);by_cases a5:a=oa
      .have b8:=Ht.1.1 a5;subst a5;subst b8;go_wp2_with fail;go_meet;exact⟨rfl,rfl⟩
      by_cases b8:vv=ov
      .have da:vv=[]:=bk λe=>a5 (Ht.1.2 e b8);subst b8;subst da;have ck:(ik []).toList.isEmpty=true:=by rw[ey,mE];rfl
       have db:=fu ck;clear ck;go_wp2_with fail;go_meet;exact⟨by simp[db.o,a5],rfl⟩
      obtain⟨n1,n2,n3⟩:=cx b8;generalize ik vv=s1 at*;generalize ik ov=s2 at*;go_wp2_with fail;go_meet;exact⟨rfl,rfl⟩
     case rest=>
      obtain⟨rfl,hw⟩:=hcut;have bT:=hw.symm;subst bT;go_upto_region 19 with fail;go_cut[149]from 126 to 149 λx wx=>x=.bool false/\Hid (wx=ci)
      case first=>
       by_cases bd:j=k
       .have dt:((j:Int) !=(k:Int))=false:=by simp;omega
        clear bd;go_wp2_with fail;go_meet;exact⟨rfl,rfl⟩
       have bo:¬(j:Int)=(k:Int):=by omega
       by_cases k1:c.kind=1
       .by_cases k2:o.kind=1
        .have Ht:=fu (bm bd);rw[k1]at z2;rw[k2]at y2;have Hk:=fu (And.intro k1 k2);clear k1 k2
         cases bb
         .go_wp2_with fail;go_meet;exact⟨rfl,rfl⟩
         cases ob
         .go_wp2_with fail;go_meet;exact⟨rfl,rfl⟩
         have a5:¬a=oa:=λe=>(Ht rfl rfl).2 ⟨Hk.1,Hk.2,e⟩;go_wp2_with fail;go_meet;exact⟨mY a5,rfl⟩
        rw[k1]at z2;clear k1;go_wp2_with fail;go_meet;exact⟨rfl,rfl⟩
       go_wp2_with fail;go_meet;exact⟨rfl,rfl⟩
      case rest=>
       obtain⟨rfl,hw⟩:=hcut;have bT:=hw.symm;subst bT;by_cases dc:o.fin=0
       .have a1:=fu (a0.H a4);clear cf;go_wp2;exact⟨⟨j+1,by omega,by go_num,a1⟩,by simp[Go.RowKit.intOf];omega⟩
       by_cases dg:o.fin<c.d
       .have dj:=fu (cf dc dg);go_wp2_with fail;refine(dj _ a4).L ?_;rintro y e7⟨rfl,bq⟩;have a1:=fu (a0.H (a4.H bq));clear bq;go_wp2;exact⟨⟨j+1,by omega,by go_num,a1⟩,by simp[Go.RowKit.intOf];omega⟩
       have a1:=fu (a0.H a4);go_wp2;exact⟨⟨j+1,by omega,by go_num,a1⟩,by simp[Go.RowKit.intOf];omega⟩
    have dv:¬((j:Int)<(W.bx.length:Int)):=by omega
    have a1:=fu (bl.H a0);clear hX;go_wp2;exact⟨⟨k+1,by omega,by go_num,a1⟩,by simp[Go.RowKit.intOf];omega⟩
 have e8:¬((k:Int)<(W.bx.length:Int)):=by omega
 clear hX;go_wp2;go_ret;exact⟨rfl,HB⟩
def Tryz.P6:(prog.info? 129).map (λi=>(i.zero,i.size,i.bytes))=some (some (.agg #[I 0,.pointer none,.bool false]),3,24):=ij
section
variable{w':World}{bp:Nat->Nat}
def jJ.SR{ac:Nat}(h:jJ w aY g W {V with av:=dk aa W.ac.length ac})(h8:W.ac.length<8){p:Nat}{X:Cx}(hC:Cl w aY (100+32*W.ac.length) p qb X){W1 F:World}(P:Bl w W1){gg cp:Nat}(M:F.ownsRow 0 129 3 (dk (G gg) (W.ac.length+1) cp) (W.ac.length+1) (V.aw++[I (iM W.ac.length),O p,.bool true]))(d:W1.grownBy F (dk aa W.ac.length ac).ownBlock)(a0:(dk aa W.ac.length ac).ownBlock=some gg\/w.heap.size<=gg):∃tag2,jq (λs=>s=1\/s=3) w aY (F.setCell (U g 5) (dk (G gg) (W.ac.length+1) cp)) tag2/\jJ (F.setCell (U g 5) (dk (G gg) (W.ac.length+1) cp)) tag2 g {W with ac:=W.ac++[⟨X,true⟩]} {V with av:=dk (G gg) (W.ac.length+1) cp,aw:=V.aw++[I (iM W.ac.length),O p,.bool true]}:=by
 have lw:=h.lt;have l2:=P.lt;have l3:=d.size;have n1:=h.a;have n2:=h.an;have n3:V.tp=8\/V.tp=97:=h.ht;have tl:∀b,(dk aa W.ac.length ac).ownBlock=some b->aY b=3:=h.E.row.aY;have ll:=λb Q=>(h.E.row.gZ.lt b Q).2;obtain⟨tag2,Y⟩:∃tag2:Nat->Nat,tag2=λb=>if b<w.heap.size then aY b else if b=gg then 3 else 9:=⟨_,rfl⟩
 have A:∀b,b<w.heap.size->tag2 b=aY b:=λb Q=>by rw[Y];simp[Q]
 have a1:tag2 gg=3:=by
  obtain e|e:=a0
  .rw[A gg (ll gg e)];exact tl gg e
  rw[Y];dsimp only;rw[az C,aE rfl]
 have oQ:bz (λb=>aY b=1\/aY b=3) w (F.setCell (U g 5) (dk (G gg) (W.ac.length+1) cp)):=((bz.E P).H ((bz.B d).L λb _ e=>.inr (tl b e.symm))).setCell (U g 5) (.inl (.inl h.tg)) _;have k:jq (λs=>s=1\/s=3) w aY (F.setCell (U g 5) (dk (G gg) (W.ac.length+1) cp)) tag2:=⟨oQ,A⟩;have Z:F.heap[g]?=some (gO (Ek W {V with av:=dk aa W.ac.length ac}).toArray 66 (0,0)):=by rw[d.block g C λe=>by have:=tl g e.symm;rw[h.tg]at this;omega,P.heap lw];exact h.hg
 have S:V.aw.length=W.ac.length*3:=h.E.row.gZ.1;refine⟨tag2,k,iU 5 _ F _ Z,(A g lw).H h.tg,h.J.B k C λi _ _=>C,⟨⟨?_,λb Q=>?_⟩,λj B T=>?_⟩,h.ca.B k C C λi _=>C,h.po.B k (show¬(V.tp=1\/V.tp=3) by omega) C,h.ha.B k C,h.ms.B k C,n1,gM,n3⟩
 .simp only[aO,df,dA];exact lD M λb Q=>Z8 _ _ _ _ λe=>gJ M Z au (j4 Q e)
 .have e:gg=b:=by simpa [Value.ownBlock]using Q
  rw[<-e];exact a1
 by_cases hj:j<W.ac.length
 .rw[aB hj]at T;obtain⟨p',a2,e1,e2⟩:=h.E.ac j B T;have y:=λo (ho:o<3)=>aB (l₁:=V.aw) (l₂:=[I (iM W.ac.length),O p,.bool true]) (show j*3+o<V.aw.length by omega);exact⟨p',a2,⟨(y 0 C).H e1.1,(y 1 C).H e1.2.1,(y 2 C).H e1.2.2⟩,e2.B k λs _ _=>C⟩
 have a3:=(aj.1 T).1;simp at a3;have a4:j=W.ac.length:=C;subst a4;rw[aC jc]at T;simp at T;subst T;refine⟨p,qb,⟨?_,?_,?_⟩,hC.B k λs _ _=>C⟩
 .rw[aC C,S];simp
 .rw[aC C,S];simp
 rw[aC C,S];simp
theorem F9(h:jJ w aY g W V)(hW:Wk W):ib 38 #[O g] w λen w'=>en=gG (.bool true)/\∃bp,jq (λt=>t=1\/t=3) w aY w' bp/\Wx w' bp g W.mW:=by
 obtain⟨a0,a1,r0,r1,r2⟩:=fx Tryz.P6;obtain⟨aa,ac,a2⟩:=h.E.row.E;obtain⟨pv,av,lv,cv,hv,mv,ps,aw,ls,cs,tp⟩:=V;simp only at a2;subst a2;have c5:=h.cellAt 5 rfl;have lg:=h.lt;have ai:=h.an;by_cases h8:8<=W.ac.length
 .have a7:(8:Int)<=(W.ac.length:Int):=C;have M:W.mW=W:=by unfold Wd.mW;rw[aE h8]
  rw[M];have H:=fu h;clear h hW M;go_enter func38,ntmps38;go_wp2;go_ret;exact⟨rfl,aY,jq.refl,⟨_,H⟩⟩
 have a7:¬((8:Int)<=(W.ac.length:Int)):=C;obtain⟨c0,c1,c2,c3⟩:=h.Z 0 1 2 3 rfl;obtain⟨x,hx⟩:=dS (1000+7*(W.ac.length:Int):Int);have ak:IntKind.i64.wrap (7*(W.ac.length:Int))=7*(W.ac.length:Int):=Aj;have al:IntKind.i64.wrap (1000+7*(W.ac.length:Int))=x:=Aj;have HN:=fu (BV W.n W.m W.v W.ce x w hW.mI C C aY (100+32*W.ac.length));have M:W.mW={W with iH:=W.iH+1,ac:=W.ac++[⟨Cx.new W.n W.m W.v W.ce x,true⟩]}:=by unfold Wd.mW;rw[az h8,<-hx];rfl
 rw[M];have H:=fu h;have Hx:Hid (x=iM W.ac.length):=by unfold Hid iM;exact hx.symm
 clear h hW M hx;go_enter func38,ntmps38;go_upto_region 5 with(go_at_call 16;refine HN.L ?_;rintro en w1⟨p,rfl,am,Q,Z,S,a3,T⟩;have Y:=lZ Q S T;clear Q S a3 T);obtain⟨Q,S,T⟩:=Y.o;have A:=H.bl (bp:=Z) Q S;have a8:=A.cellAt 5 rfl;have a9:=A.F 5;have a4:=A.lt;have HR:=fu A.E.row;have ng:Hid ((dk aa W.ac.length ac).ownBlock≠some g):=gJ A.E.row.gZ A.hg au;have ab:Hid (W.ac.length+1<=maxLen):=mQ;have ad:Hid ((W.ac.length+1)*24<=140737488355328):=lQ;have ag:=fu A;clear A Q S T c0 c1 c2 c3 c5;go_upto_region 6 with(at_builtin;refine fm _ rfl _ _ 62 rfl 0 129 a0 _ 3 24 underlying62 a1 r0 r1 r2 rfl au _ W.ac.length aw rfl (HR.gZ.alloc _) (U w1.heap.size 0) 1 1 [I x,O p,.bool true] rfl rfl (fW (cs:=#[I x,O p,.bool true]) (t:=129) (fr:=(0,0)) (ao w1 _)) qR au ab ad aq (w1.heap.size+1) aq ?_;intro gg cp w6 y d F L;have an:=(zM ((Bl.refl w1).alloc _) d (o:=5) a4 ng).1.H a8;have ap:=(zM ((Bl.refl w1).alloc _) d (o:=5) a4 ng).2.H a9;have ar:g<w6.heap.size:=(by have:=d.size;simp at this;omega);have a5:=ow y d F L;clear y d F L);obtain⟨y,d,F,L⟩:=a5.o;obtain⟨a6,k7,h7⟩:=jJ.SR (V:=⟨pv,dk aa W.ac.length ac,lv,cv,hv,mv,ps,aw,ls,cs,tp⟩) ag C (Y.2.2 λ_=>0) ((Bl.refl w1).alloc (gO #[I x,O p,.bool true] 129)) (gg:=gg) (cp:=cp) (qO Hx.o y) d (F.imp (λe=>e) λe=>C);have h8:=h7.sd (a:=W.iH+1) pK;have HE:=mF ((jq.B (P:=λt=>t=1\/t=3) (bp:=Z) Y.1 Y.2.1).H k7) h8;clear y d F L k7 h7 h8 a5;go_wp2;go_ret;exact⟨rfl,a6,HE.1,⟨_,HE.2⟩⟩
end
theorem M3{α:Type}{l h:List α}(s:l.Sublist h):∀x,x<l.length->∃j,j<h.length/\h[j]?=l[x]?/\(l.take (x+1)).Sublist (h.take (j+1)):=by
 induction s with
 |slnil=>intro x d;simp at d
 |cons a s y=>intro x d;obtain⟨j,H,A,F⟩:=y x d;exact⟨j+1,gM,iG A,by rw[eY];exact F.cons a⟩
 |cons_cons a s y=>
  intro x d
  cases x with
  |zero=>exact⟨0,aq,rfl,aq⟩
  |succ x=>obtain⟨j,H,A,F⟩:=y x (iG d);exact⟨j+1,gM,iG A,by rw[eY,eY];exact F.cons_cons a⟩
def AV{α:Type}(S:Nat->α){L:Nat}(y:k0<=k)(A:k<=L):(((List.range (L+1)).drop k0).map S).take (k-k0+1)=((List.range (k+1)).drop k0).map S:=by
 rw[<-fS];congr 1;refine bJ λj=>?_;rw[cZ,du,du];by_cases d:j<k-k0+1
 .rw[aE d,cD C,cD C]
 rw[az d,cB gM]
def Bg{α:Type}(S:Nat->α){L:Nat}(d:k0<=k)(y:k<=L):(((List.range (L+1)).drop k0).map S)[k-k0]?=some (S k):=by rw[aK,du,show k0+(k-k0)=k by omega,cD C];rfl
def xJ{α:Type}{S T:Nat->α}(h:∀j,j<=k->S j=T j):((List.range (k+1)).drop k0).map S=((List.range (k+1)).drop k0).map T:=
 bf λj d=>h j (gI (di.1 (eC d)))
theorem Pn.SJ{p:mJ}(h:N.ab k0 p)(y:k0<=k)(Q:k<=N.B.length):∃j,j<p.hl/\(N.cut k).ab k0 (p.u9 j):=by
 cases N with
 |unit ch rs S=>
  cases p with
  |voter s l=>exact h.elim
  |unit A s l=>
   obtain⟨Y,Z,e3,L⟩:=h;have d:k<=rs.length:=Q;obtain⟨j,M,F,H⟩:=M3 L (k-k0) gM;rw[Bg S y d]at F;rw[AV S y d]at H;have P:(rs.take k).length=k:=by rw[bH];omega
   refine⟨j,M,?_⟩;show A=ch/\k0<=(rs.take k).length/\l.getD j St.first=S (rs.take k).length/\(((List.range ((rs.take k).length+1)).drop k0).map S).Sublist (l.take (j+1));rw[P];exact⟨Y,y,by rw[aS,F];rfl,H⟩
 |voter rs S=>
  cases p with
  |unit A s l=>exact h.elim
  |voter s l=>
   obtain⟨Z,e3,L⟩:=h;have d:k<=rs.length:=Q;obtain⟨j,M,F,H⟩:=M3 L (k-k0) gM;rw[Bg (λk=>VS.mk (S k) (oG (rs.take k))) y d]at F;rw[AV (λk=>VS.mk (S k) (oG (rs.take k))) y d]at H;have P:(rs.take k).length=k:=by rw[bH];omega
   refine⟨j,M,?_⟩;show k0<=(rs.take k).length/\l.getD j VS.first=⟨S (rs.take k).length,oG (rs.take k)⟩/\(((List.range ((rs.take k).length+1)).drop k0).map λi=>VS.mk (S i) (oG ((rs.take k).take i))).Sublist (l.take (j+1));rw[P];refine⟨y,by rw[aS,F];rfl,?_⟩;rw[xJ (T:=λi=>VS.mk (S i) (oG (rs.take i))) λi hi=>by rw[eX,eU hi]];exact H
theorem Pn.S3{a b c d u:Int}(h:N.of a b c d u)(k):(N.cut k).of a b c d u:=by
 cases N with
 |unit ch rs S=>
  obtain⟨H,L,y⟩:=h;exact⟨H,L,y.zero,λj F=>by
   have A:j<rs.length:=by rw[bH]at F;omega
   have:=y.step j A
   rwa[<-dM (h:=F)]at this,λr M=>y.ok r (cQ M)⟩
 |voter rs S=>
  obtain⟨H,L,y⟩:=h;exact⟨H,L,y.zero,λj F=>by
   have A:j<rs.length:=by rw[bH]at F;omega
   have:=y.step j A
   rwa[<-dM (h:=F)]at this,λr M=>y.ok r (cQ M)⟩
def Pn.zJ(N:Pn)(k):(N.cut k).B=N.B.take k:=by cases N<;>rfl
def Rn(rs)(h:k0<=k):off (rs.take k) k0=off rs k0:=by unfold off;rw[eX,eU h]
def Pn.Nl(h:N.holds n k)(L:k0<=N.B.length)(M:off N.B k0<=n):k0<=k:=by
 obtain⟨P,Q,y⟩:=h;by_cases d:k<N.B.length
 .have A:=y d;rw[<-qQ N.B k d]at A;refine dT λe=>?_;have:off N.B (k+1)<=off N.B k0:=by
   unfold off;have F:N.B.take (k+1)=(N.B.take k0).take (k+1):=by rw[eX,eU C]
   rw[F];have H:=Z5 List.length (kY ((N.B.take k0).take (k+1)) ((N.B.take k0).drop (k+1)));rw[dK,aO]at H;omega
  omega
 omega
def Pn.Uc{p:mJ}(h:N.ab k0 p):k0<=N.B.length:=by
 cases N<;>cases p
 .exact h.2.1
 .exact h.elim
 .exact h.elim
 exact h.1
def Pn.QO(N:Pn)(k):(N.cut k).iT.length<=N.iT.length:=by rw[Pn.om,Pn.om,Pn.zJ];exact CZ N.B k
end Go.Proofs.YtbghhbpacijmmaaGreat
