import Derived.Test.YtbghhbpacijmmaaGreatL11
open Go.Proofs.Tryz
namespace Go.Proofs.YtbghhbpacijmmaaGreat
set_option maxRecDepth 99999
set_option maxHeartbeats 0
set_option linter.defProp false
set_option linter.unusedVariables false
variable {u e b E E':Int} {K' K K2:Kn} {S:Cf} {c c':jz} {X X' X2:Cx} {v Q:List Int} {P:Nat->Prop} {l:List (List Int)} {r:Rq} {t ie:Ct} {G:Ct->Int->Prop} {iQ:Int->Prop}
abbrev Fl:=Int->St
abbrev Jq:=Nat->Int->Ct->Int->Int->Prop
def sN(S:Cf)(K:Kn)(F:Fl)(u:Int)(r:Rq)(A:An):Prop:=
 ∃s0,rb S.n (u/S.m) (F u) s0/\A=(lK S.n S.m S.v S.ce (u/S.m) s0 r).1/\Ha S K u (lK S.n S.m S.v S.ce (u/S.m) s0 r).2/\rb S.n (u/S.m) (lK S.n S.m S.v S.ce (u/S.m) s0 r).2 (K.D u)
structure Td(S:Cf)(K:Kn)(u:Int)(r:Rq):Prop where
 e0:0<=r.ep
 e1:r.ep<=K.a.length
 w:r.kd=2->KN S.n S.ce (u/S.m) r.pl/\DO S K u r.pl r.ct r.ep
 t:r.kd=4->K.e r.pl
structure NH(S:Cf)(K:Kn)(F:Fl)(E:Int)(ie:Ct):Prop where
 kd:ie.kd≠0
 cl:ie.cl≠0
 pe:∀a e,K.P0 ie a e->e<=E
 pu:∀t a e,K.P0 t a e->t.cl=ie.cl->t.ca=ie.ca->t=ie
 fn:∀u a,nL S.n S.m u->KN S.n S.ce (u/S.m) a->(F u).ct (cell S.n a)≠ie
structure Cb(S:Cf)(K:Kn)(F:Fl)(J:Jq)(id E:Int)(c:jz):Prop where
 kd:c.kind=1\/c.kind=2\/c.kind=3\/c.kind=4\/c.kind=5
 oc:c.ie.cl=id/\c.ie.ca=c.gU
 st:J c.gU c.kind c.ie c.unit c.ij
 fl:∀u,rb S.n (u/S.m) (F u) (K.D u)
 ow:c.kind=1\/c.kind=3->NH S K F E c.ie
 gu:c.kind=1->∀a,a≠c.ij->Gu S K c.ie a
 oa:c.kind=2\/c.kind=3->Ok S c.ij
 om:c.kind=4->K.e c.ij
structure X0(S:Cf)(K:Kn)(F:Fl)(E:Int)(c:jz):Prop where
 kd:c.kind=1\/c.kind=3
 ok:Ok S c.ij
 pl:c.q.A.pl=c.ij
 ct:c.q.A.ct=c.jb
 jU:∃u l1 l2,K.C S E c.ij=l1++u::l2/\l1.length=c.c/\c.q.nodes=[u]/\∀x∈l1,(K.tA S x c.ij c.jb/\E<=(K.D x).ep)/\(F x).ep<=E/\(F x).mark<=c.ij
 c0:c.c=0->c.jb=c.ie
 c1:c.kind=1->c.jb=c.ie
 rt:0<c.c->∃e0,Iq S K c.ij c.jb E e0
 p0:K.P0 c.ie c.ij E
structure X3(S:Cf)(K:Kn)(F:Fl)(E:Int)(c:jz):Prop where
 kd:c.kind=2
 pl:c.q.A.pl=c.ij
 nd:c.q.nodes=K.C S E c.ij
 an:∀z∈c.q.B,(z.2.wh≠4/\z.2.wh≠5)/\sN S K F z.1 c.q.A z.2
def UD(S:Cf)(K:Kn)(E:Int)(c:jz)(mark:Int):Prop:=
 (c.kind=4/\c.e=⟨1,0,[]⟩/\mark=c.ij)\/((c.kind=2\/c.kind=3)/\c.e=⟨4,0,[]⟩/\c.ij<mark)\/
 (c.ij<mark/\(∃g l,K.C S E c.ij=g::l/\K.tA S g c.ij c.ie)/\Ok S c.ij/\((c.kind=3/\c.e=⟨9,0,[]⟩)\/(c.kind=1/\c.e=⟨1,c.ij,[]⟩)))
structure X4(S:Cf)(K:Kn)(F:Fl)(E:Int)(c:jz):Prop where
 nd:c.q.nodes=jW (K.lay E)
 b:K.e c.q.A.pl
 an:∀z∈c.q.B,z.2.wh≠5/\sN S K F z.1 c.q.A z.2
 D:UD S K E c c.q.A.pl
structure qI(S:Cf)(K:Kn)(F:Fl)(J:Jq)(id E:Int)(c:jz):Prop extends Cb S K F J id E c where
 g1:c.kind=1->c.q.nodes=[]->Gu S K c.ie c.ij
 o1:c.kind=1->c.q.nodes≠[]->Ok S c.ij/\∃e,K.P0 c.ie c.ij e
 tR:c.kind=2\/c.kind=3\/c.kind=4->c.q.nodes≠[]
 a5:c.kind=5->c.q.nodes=[]
 qk:c.q.nodes≠[]->c.q.A.kd=2\/c.q.A.kd=3\/c.q.A.kd=4
 ep:c.q.nodes≠[]->c.q.A.ep=E
 q2:c.q.nodes≠[]->c.q.A.kd=2->X0 S K F E c
 q3:c.q.nodes≠[]->c.q.A.kd=3->X3 S K F E c
 q4:c.q.nodes≠[]->c.q.A.kd=4->X4 S K F E c
def NS(S:Cf)(K:Kn)(F:Fl)(kind:Int)(ie:Ct)(unit ij:Int)(r:Rz):Prop:=
 (kind=1/\ie.kd≠0/\((r=⟨1,ij,[]⟩/\BQ S K ij ie/\NB S K F ij/\∀a,a≠ij->Gu S K ie a)\/(r=⟨7,0,[]⟩/\K.Fu ie/\∀a,Gu S K ie a)))\/
 ((kind=2\/kind=3)/\Ok S ij/\((∃t,r=Cx.py t/\xk S K ij t/\NB S K F ij)\/(kind=2/\r=⟨3,0,[]⟩/\Uq S K F ij)\/(r=⟨4,0,[]⟩/\sb K (ij+1))\/(kind=3/\r=⟨9,0,[]⟩/\BQ S K ij ie/\NB S K F ij)))\/
 (kind=4/\r=⟨1,0,[]⟩/\sb K ij)\/
 (kind=5/\((r=⟨1,0,[]⟩/\∃e,K.In e/\unit∉(K.lay e).getD (unit/S.m).toNat [])\/(r=⟨6,0,[]⟩/\∃e,K.In e/\(K.lay e).getD (unit/S.m).toNat []=[unit])))
def Rf(S:Cf)(K:Kn)(F:Fl)(J:Jq)(id:Int)(k:Nat)(r:Rz):Prop:=∃kind ie unit ij,J k kind ie unit ij/\(ie.cl=id/\ie.ca=k)/\NS S K F kind ie unit ij r
section
variable{F:Fl}{J J':Jq}{id:Int}
def sN.L{A:An}(h:sN S K F u r A)(k:kZ S K K'):sN S K' F u r A:=by let⟨i,j,y,H,L⟩:=h;exact⟨i,j,y,H.L k,L.H (k.d u)⟩
def Td.L(h:Td S K u r)(k:kZ S K K'):Td S K' u r:=⟨h.e0,by have:=h.e1;have:=k.len;omega,λe=>⟨(h.w e).1,(h.w e).2.L k⟩,λe=>k.mk' _ (h.t e)⟩
def uO(K K':Kn)(cl ca:Int):Prop:=∀t a e,t.cl=cl->t.ca=ca->K'.P0 t a e->K.P0 t a e
def uO.refl(K)(cl ca):uO K K cl ca:=λ_ _ _ _ _ h=>h
def NH.L(h:NH S K F E ie)(i:uO K K' ie.cl ie.ca)(A:E<=E'):NH S K' F E' ie:=
 ⟨h.kd,h.cl,λa e x=>bt (h.pe a e (i _ _ _ rfl rfl x)) A,λt a e x j y=>h.pu t a e (i _ _ _ j y x) j y,h.fn⟩
def Cb.L(h:Cb S K F J id E c)(j:Kv S K)(k:kZ S K K')(y:uO K K' id c.gU)(A:∀a b c d e,J a b c d e->J' a b c d e)(M:E<=E'):Cb S K' F J' id E' c:=by
 let⟨T,V⟩:=h.oc;have i:uO K K' c.ie.cl c.ie.ca:=by rw[T,V];exact y
 exact⟨h.kd,h.oc,A _ _ _ _ _ h.st,λu=>(h.fl u).H (k.d u),λe=>(h.ow e).L i M,λe a W=>(h.gu e a W).L j k (λe' x=>i _ _ _ rfl rfl x) (h.ow (.inl e)).kd,h.oa,λe=>k.mk' _ (h.om e)⟩
def UD.L{mark:Int}(h:UD S K E c mark)(k:kZ S K K')(i:K.In E)(j:c.kind=1\/c.kind=3->c.ie.kd≠0):UD S K' E c mark:=by
 obtain h|h|⟨y,⟨g,l,A,H⟩,L,M⟩:=h
 .exact .inl h
 .exact .inr (.inl h)
 refine .inr (.inr ⟨y,⟨g,l,by rw[k.C i];exact A,H.L (j ?_) k⟩,L,M⟩);omega
def qI.L(h:qI S K F J id E c)(T:Kv S K)(k:kZ S K K')(i:K.In E)(A:uO K K' id c.gU)(Y:∀a b c d e,J a b c d e->J' a b c d e):qI S K' F J' id E c:=by
 let⟨Z,o2⟩:=h.oc;have H:uO K K' c.ie.cl c.ie.ca:=by rw[Z,o2];exact A
 refine⟨h.toCb.L T k A Y iK,λe e'=>(h.g1 e e').L T k (λe' x=>H _ _ _ rfl rfl x) (h.ow (.inl e)).kd,λe e'=>⟨(h.o1 e e').1,(h.o1 e e').2.elim λx y=>⟨x,k.p0 _ _ _ y⟩⟩,h.tR,h.a5,h.qk,h.ep,λe e'=>?_,λe e'=>?_,λe e'=>?_⟩
 .have w:=h.q2 e e';obtain⟨u,l1,l2,w1,w2,w3,w4⟩:=w.jU;have hk:l1≠[]->c.jb.kd≠0:=λhn=>by obtain⟨V,M⟩:=w.rt (by rw[<-w2];exact cU.2 hn);exact M.kd
  refine⟨w.kd,w.ok,w.pl,w.ct,⟨u,l1,l2,by rw[k.C i];exact w1,w2,w3,λx W=>?_⟩,w.c0,w.c1,λA=>?_,k.p0 _ _ _ w.p0⟩
  .obtain⟨⟨a1,a2⟩,a3⟩:=w4 x W;exact⟨⟨a1.L (hk (bM W)) k,bt a2 (k.d x).ep⟩,a3⟩
  obtain⟨V,M⟩:=w.rt A;exact⟨V,M.L k i.2⟩
 .have w:=h.q3 e e';exact⟨w.kd,w.pl,by rw[k.C i];exact w.nd,λz j=>⟨(w.an z j).1,(w.an z j).2.L k⟩⟩
 have w:=h.q4 e e';exact⟨by rw[k.lay i];exact w.nd,k.mk' _ w.b,λz j=>⟨(w.an z j).1,(w.an z j).2.L k⟩,w.D.L k i λe=>(h.ow e).kd⟩
def NS.L{kind:Int}{A V:Int}{r:Rz}(h:NS S K F kind ie A V r)(M:Kv S K)(k:kZ S K K')(Y:uO K K' ie.cl ie.ca):NS S K' F kind ie A V r:=by
 obtain⟨H,L,h⟩|⟨H,L,h⟩|⟨H,j,i⟩|⟨H,h⟩:=h
 .refine .inl ⟨H,L,?_⟩;have W:∀a,Gu S K ie a->Gu S K' ie a:=λa g=>g.L M k (λe' x=>Y _ _ _ rfl rfl x) L;obtain⟨j,i,y,T⟩|⟨j,i,y⟩:=h
  .exact .inl ⟨j,i.L M k,y.L k,λa Z=>W a (T a Z)⟩
  exact .inr ⟨j,k.fu _ i,λa=>W a (y a)⟩
 .refine .inr (.inl ⟨H,L,?_⟩);obtain⟨t,j,i,y⟩|⟨j,i,y⟩|⟨j,i⟩|⟨j,i,T,h6⟩:=h
  .exact .inl ⟨t,j,i.L k,y.L k⟩
  .exact .inr (.inl ⟨j,i,y.L k⟩)
  .exact .inr (.inr (.inl ⟨j,i.L k⟩))
  exact .inr (.inr (.inr ⟨j,i,T.L M k,h6.L k⟩))
 .exact .inr (.inr (.inl ⟨H,j,i.L k⟩))
 refine .inr (.inr (.inr ⟨H,?_⟩));obtain⟨j,e,i,y⟩|⟨j,e,i,y⟩:=h
 .exact .inl ⟨j,e,i.L k,by rw[k.lay i];exact y⟩
 exact .inr ⟨j,e,i.L k,by rw[k.lay i];exact y⟩
def Rf.L{n:Nat}{r:Rz}(h:Rf S K F J id n r)(y:Kv S K)(k:kZ S K K')(A:uO K K' id n)(H:∀a b c d e,J a b c d e->J' a b c d e):Rf S K' F J' id n r:=by let⟨kind,ie,i,L,M,j,T⟩:=h;exact⟨kind,ie,i,L,H _ _ _ _ _ M,j,T.L y k (by rw[j.1,j.2];exact A)⟩
def Ha.B{s:St}(h:Ha S K u s)(j:Td S K u r)(hk:r.kd=1\/r.kd=2\/r.kd=3\/r.kd=4)(Z:r.kd=2->sy r.ct.kd r.ct.val.length=true):Ha S K u (lK S.n S.m S.v S.ce (u/S.m) s r).2:=by
 have T:¬r.ep<s.ep->Ha S K u ⟨r.ep,s.mark,s.ct⟩:=λhe=>⟨j.e0,j.e1,h.b,h.c0,λa H hk=>(h.rt a H hk).up (by show s.ep<=r.ep;omega)⟩;obtain hk|hk|hk|hk:=hk
 .have e:lK S.n S.m S.v S.ce (u/S.m) s r=th s r.ep:=by unfold lK uT;rw[hk];rfl
  rw[e];unfold th;split
  .exact h
  exact T (by assumption)
 .by_cases L:(lK S.n S.m S.v S.ce (u/S.m) s r).1.wh=5
  .rw[(U1 L).2];exact h
  let⟨V,W⟩:=BN S.ok hk (j.w hk).1 (Z hk) L;obtain⟨_,_,_,Y⟩|⟨Y,_⟩:=W
  .rw[Y];refine⟨j.e0,j.e1,h.b,λi hi=>?_,λa H A=>?_⟩
   .show(if i=_ then _ else _)=no;have y:(if i=cell S.n r.pl then r.ct else s.ct i).kd=0:=hi;split
    .rename_i q;rw[aE q]at y;exact absurd y (zc (Z hk))
    rename_i q;rw[az q]at y;exact h.c0 i y
   show DO S K u a (if cell S.n a=cell S.n r.pl then r.ct else s.ct _) r.ep;have M:(if cell S.n a=cell S.n r.pl then r.ct else s.ct (cell S.n a)).kd≠0:=A;by_cases q:cell S.n a=cell S.n r.pl
   .have e1:=H.eq;have e2:=(j.w hk).1.eq;rw[q]at e1;have e3:a=r.pl:=C;rw[aE q,e3];exact(j.w hk).2
   rw[az q]at M|-;exact(h.rt a H M).up V
  rw[Y];exact T C
 .have e:lK S.n S.m S.v S.ce (u/S.m) s r=s9 S.n S.m S.v S.ce (u/S.m) s r.ep r.pl:=by unfold lK uT;rw[hk];rfl
  rw[e];unfold s9;split
  .exact h
  exact T (by assumption)
 by_cases L:(lK S.n S.m S.v S.ce (u/S.m) s r).1.wh=5
 .rw[(U1 L).2];exact h
 let⟨V,W,_⟩:=EU hk L;rw[W];refine⟨j.e0,j.e1,?_,h.c0,λa H A=>(h.rt a H A).up V⟩;show K.e (if s.mark<r.pl then r.pl else s.mark);split
 .exact j.t hk
 exact h.b
theorem qI.A(h:qI S K F J id E c)(Z:Kv S K)(L:K.In E)(A:u∈c.q.nodes):Td S K u c.q.A:=by
 have i:c.q.nodes≠[]:=bM A;have he:=h.ep i;have h1:=L.1;have T:=L.2;refine⟨C,C,λM=>?_,λM=>(h.q4 i M).b⟩;have w:=h.q2 i M;obtain⟨x,l1,l2,H,w2,w3,w4⟩:=w.jU;rw[w3]at A;simp at A;subst A;rw[w.pl,w.ct,he];refine⟨Z.D L (nG H) w.ok.1 w.ok.2,?_⟩
 cases l1 with
 |nil=>have V:=w.c0 (by rw[<-w2];rfl);exact⟨E,E,[],l2,by rw[V];exact(h.ow w.kd).kd,h1,iK,iK,T,by rw[V];exact w.p0,H,gG,λe' W Y=>⟨u,l2,by rw[show e'=E by omega];exact H,.inl rfl⟩⟩
 |cons y l1=>
  obtain⟨e0,j⟩:=w.rt (by rw[<-w2];simp);exact⟨e0,E,y::l1,l2,j.kd,j.z0,j.z1,iK,T,j.p,H,λx hx=>(w4 x hx).1.1,λe' W Y=>by
   obtain⟨g,l,g1,g2⟩:=j.hd e' W Y
   exact⟨g,l,g1,.inr g2⟩⟩
end
structure XB(S:Cf)(K:Kn)(X:Cx):Prop where
 n:X.n=S.n
 m:X.m=S.m
 v:X.vo=S.v
 c:X.ce=S.ce
 e:K.In X.b
 l:X.lay=K.lay X.b
inductive rW(S:Cf)(K:Kn)(F:Fl)(J:Jq)(X:Cx)(c:jz)(X':Cx):Prop
 |put (c':jz) (a:Int) (hn:c'.gU=c.gU) (e:X'=({X with ib:=a}:Cx).put c') (hc:qI S K F J X.id X.b c') (hq:(a=X.ib/\(c'.q.nodes=[]\/(c'.q.A=c.q.A/\c'.q.nodes=c.q.nodes)))\/(a=X.ib+1/\c'.q.A.nr=X.ib+1))
 |fin (r:Rz) (e:X'=X.fin c r) (hr:Rf S K F J X.id c.gU r) (hw:r.wh≠0)
def Kn.D3(K:Kn)(t:Ct)(a e:Int):Kn:={K with P0:=λt' a' e'=>K.P0 t' a' e'\/(t'=t/\a'=a/\e'=e)}
section
variable{F:Fl}{J J':Jq}
def XB.chain(h:XB S K X)(a):X.chain a=K.C S X.b a:=by unfold Cx.chain Kn.C;rw[h.l,h.n]
def Kz(t)(a e):kZ S K (K.D3 t a e):=⟨⟨[],by simp[Kn.D3]⟩,λ_=>rb.refl ..,λ_ _=>yj.refl _,λ_ _ _ h=>h,λ_ _ _ h=>.inl h,λ_ _ _ h=>h,λ_ _=>⟨rfl,rfl⟩,λ_ _ _ h=>.inl h,λ_ h=>h,λ_ h=>h⟩
def SQ{a i ca:Int}(h:¬(i=t.cl/\ca=t.ca)):uO K (K.D3 t a e) i ca:=λy A e' H L j=>by obtain j|⟨rfl,_⟩:=j;all_goals omega
def Sb{a:Int}(h:Kw S K)(M:∀j V e',K.P0 j V e'->j.cl=t.cl->j.ca=t.ca->j=t):Kw S (K.D3 t a e):=by
 have T:kZ S K _:=Kz t a e;refine⟨⟨h.l0,h.ls,h.lc,h.a,h.au,h.av,λZ t2 a1 a2 e1 e2 y i A H=>?_,h.T9⟩,λu W=>(h.sd u W).L T,λq Y=>(h.vd q Y).L T,h.va⟩;obtain y|⟨rfl,_,_⟩:=y
 .obtain i|⟨rfl,_,_⟩:=i
  .exact h.pu _ _ _ _ _ _ y i A H
  exact M _ _ _ y A H
 obtain i|⟨rfl,_,_⟩:=i
 .exact(M _ _ _ i A.symm H.symm).symm
 rfl
def Cb.A{id:Int}(h:Cb S K F J id E c)(i:c'.kind=c.kind)(j:c'.ie=c.ie)(A:c'.gU=c.gU)(H:c'.unit=c.unit)(y:c'.ij=c.ij):Cb S K F J id E c':=
 ⟨by rw[i];exact h.kd,by rw[j,A];exact h.oc,by rw[i,j,A,H,y];exact h.st,h.fl,by rw[i,j];exact h.ow,by rw[i,j,y];exact h.gu,by rw[i,y];exact h.oa,by rw[i,y];exact h.om⟩
def wR(h:Cb S K F J X.id X.b c){nodes:List Int}{kd pl:Int}(i:nodes≠[])(j:c.kind≠5)(y:c.kind=1->Ok S c.ij/\∃e,K.P0 c.ie c.ij e)(A:kd=2\/kd=3\/kd=4)(H:kd=2->X0 S K F X.b {c with q:=Qn.new nodes ⟨kd,c.a,X.ib+1,X.b,pl,t⟩})(L:kd=3->X3 S K F X.b {c with q:=Qn.new nodes ⟨kd,c.a,X.ib+1,X.b,pl,t⟩})(M:kd=4->X4 S K F X.b {c with q:=Qn.new nodes ⟨kd,c.a,X.ib+1,X.b,pl,t⟩}):rW S K F J X c (X.tR c nodes kd pl t):=
 .put {c with q:=Qn.new nodes ⟨kd,c.a,X.ib+1,X.b,pl,t⟩} _ rfl rfl ⟨h.A rfl rfl rfl rfl rfl,λ_ e=>absurd e i,λe _=>y e,λ_=>i,λe=>absurd e j,λ_=>A,λ_=>rfl,λ_ e=>H e,λ_ e=>L e,λ_ e=>M e⟩ (.inr ⟨rfl,rfl⟩)
def pU(j:XB S K X)(A:Kv S K)(h:Cb S K F J X.id X.b c)(H:c.kind≠5)(L:c.kind=1->Ok S c.ij/\∃e,K.P0 c.ie c.ij e){i:Int}{e:Rz}(M:K.e i)(T:UD S K X.b {c with e:=e} i):rW S K F J X c (X.pW c i e):=by
 have y:jW X.lay≠[]:=by rw[j.l];let⟨g,l,V⟩:=bQ (A.ne j.e 0);exact bM (A.zw j.e (yG V))
 rcases (wR (c:={c with e:=e}) (h.A rfl rfl rfl rfl rfl) y H L (.inr (.inr rfl)) (λe=>absurd e gF) (λe=>absurd e gF) λ_=>⟨by rw[j.l];rfl,M,by simp[Qn.new],T⟩)with⟨c',a,h1,h2,h3,h4⟩|⟨r,h1,h2,h3⟩
 .exact .put c' a h1 h2 h3 h4
 exact .fin r h1 h2 h3
structure Yb(S:Cf)(K:Kn)(F:Fl)(E:Int)(c:jz)(l1:List Int):Prop where
 kd:c.kind=1\/c.kind=3
 ok:Ok S c.ij
 has:∀x∈l1,(K.tA S x c.ij c.jb/\E<=(K.D x).ep)/\(F x).ep<=E/\(F x).mark<=c.ij
 c1:c.kind=1->c.jb=c.ie
 rt:∃e0,Iq S K c.ij c.jb E e0
 p0:K.P0 c.ie c.ij E
theorem GP(j:XB S K X)(W:Kv S K)(h:Cb S K F J X.id X.b c){l1 l2:List Int}(w:Yb S K F X.b c l1)(i:K.C S X.b c.ij=l1++l2)(Y:l1.length=c.c+1):rW S K F J X c (X.kW c):=by
 obtain⟨e0,Z⟩:=w.rt;have h5:c.kind≠5:=by obtain e|e:=w.kd<;>rw[e]<;>decide
 unfold Cx.kW;rw[j.chain,i]
 cases l2 with
 |cons u l2=>
  rw[aE ig];unfold Cx.kL;have hn:({c with c:=c.c+1}:jz).ij=c.ij:=rfl;rw[j.chain,hn,i];have A:(l1++u::l2).getD (c.c+1) 0=u:=by rw[aS,aC C,Y];simp
  show rW S K F J X c (X.tR {c with c:=c.c+1} [(l1++u::l2).getD (c.c+1) 0] 2 c.ij c.jb);rw[A];have hs:=wR (c:={c with c:=c.c+1}) (X:=X) (nodes:=[u]) (kd:=2) (pl:=c.ij) (t:=c.jb) (h.A rfl rfl rfl rfl rfl) gG h5 (λ_=>⟨w.ok,_,w.p0⟩) (.inl rfl) (λ_=>⟨w.kd,w.ok,rfl,rfl,⟨u,l1,l2,i,Y,rfl,w.has⟩,λe=>absurd e (by show c.c+1≠0;omega),w.c1,λ_=>w.rt,w.p0⟩) (λe=>absurd e gF) λe=>absurd e gF;obtain⟨c',a,H,L,M,h4⟩|⟨r,H,L,M⟩:=hs
  .exact .put c' a H L M h4
  exact .fin r H L M
 |nil=>
  rw[az ig];simp only[cF]at i;have hf:xk S K c.ij c.jb:=⟨⟨Z.kd,w.ok⟩,X.b,j.e,by rw[i];exact λu T=>(w.has u T).1⟩;have y:NB S K F c.ij:=by
   let⟨g,l,A⟩:=bQ (W.ne j.e c.ij);have V:g∈l1:=by rw[<-i,A];exact aN ..
   exact⟨X.b,j.e,⟨g,l,A,(w.has g V).2.2⟩,by rw[i];exact λu T=>(w.has u T).2.1⟩
  obtain hk|hk:=w.kd
  .rw[aE hk];refine .fin _ rfl ⟨c.kind,c.ie,c.unit,c.ij,h.st,h.oc,.inl ⟨hk,(h.ow w.kd).kd,.inl ⟨rfl,?_,y,h.gu hk⟩⟩⟩ (show(1:Int)≠0 by decide);rw[<-w.c1 hk];exact hf.fix W
  rw[az (mG hk)];exact .fin _ rfl ⟨c.kind,c.ie,c.unit,c.ij,h.st,h.oc,.inr (.inl ⟨.inr hk,w.ok,.inl ⟨c.jb,rfl,hf,y⟩⟩)⟩ Z.kd
def JP(Z:XB S K X)(H:Kw S K)(h:Cb S K F J X.id X.b c)(h5:c.kind≠5)(ho:c.kind=1->Ok S c.ij):∃K',kZ S K K'/\Kw S K'/\(∀M T:Int,¬(M=X.id/\T=c.gU)->uO K K' M T)/\K'.b=K.b/\K'.a=K.a/\(∀t a e,K'.P0 t a e->K.P0 t a e\/(t=c.ie/\a=c.ij/\(c.kind=1\/c.kind=3)))/\K'.D=K.D/\K'.e=K.e/\K'.Fu=K.Fu/\K'.c=K.c/\K'.d=K.d/\rW S K' F J X c (X.dO c):=by
 let⟨g,l,hg⟩:=bQ (H.ne Z.e c.ij);unfold Cx.dO;by_cases i:c.kind=1\/c.kind=3
 .rw[aE i];have j:=h.ow i;have kl:kZ S K (K.D3 c.ie c.ij X.b):=Kz _ _ _;have V:Ok S c.ij:=by
   obtain e|e:=i
   .exact ho e
   exact h.oa (.inr e)
  refine⟨K.D3 c.ie c.ij X.b,kl,Sb H j.pu,λM T a0=>SQ (by rw[h.oc.1,h.oc.2];exact a0),rfl,rfl,?_,rfl,rfl,rfl,rfl,rfl,?_⟩
  .rintro t a e (x|⟨x,y,_⟩)
   .exact .inl x
   exact .inr ⟨x,y,i⟩
  have a1:Cb S (K.D3 c.ie c.ij X.b) F J X.id X.b c:=by
   refine⟨h.kd,h.oc,h.st,h.fl,λ_=>⟨j.kd,j.cl,?_,?_,j.fn⟩,λhk a ha=>(h.gu hk a ha).L H.toKv kl ?_ j.kd,h.oa,h.om⟩
   .rintro a e (x|⟨_,_,rfl⟩)
    .exact j.pe a e x
    exact iK
   .rintro t a e (x|⟨rfl,_,_⟩) W A
    .exact j.pu t a e x W A
    rfl
   rintro e (x|⟨_,y,_⟩)
   .exact x
   exact absurd y ha
  unfold Cx.kL;have hn:({c with jb:=c.ie,c:=0}:jz).ij=c.ij:=rfl;rw[Z.chain,hn,hg];show rW S _ F J X c (X.tR {c with jb:=c.ie,c:=0} [g] 2 c.ij c.ie);have hs:=wR (c:={c with jb:=c.ie,c:=0}) (X:=X) (nodes:=[g]) (kd:=2) (pl:=c.ij) (t:=c.ie) (a1.A rfl rfl rfl rfl rfl) gG h5 (λ_=>⟨V,X.b,.inr ⟨rfl,rfl,rfl⟩⟩) (.inl rfl) (λ_=>⟨i,V,rfl,rfl,⟨g,[],l,hg,rfl,rfl,gG⟩,λ_=>rfl,λ_=>rfl,λe=>absurd (show 0<0 from e) gF,.inr ⟨rfl,rfl,rfl⟩⟩) (λe=>absurd e gF) λe=>absurd e gF;obtain⟨c',a,W,A,h3,Y⟩|⟨r,W,A,h3⟩:=hs
  .exact .put c' a W A h3 Y
  exact .fin r W A h3
 rw[az i];refine⟨K,kZ.refl ..,H,λM T _=>uO.refl K M T,rfl,rfl,λ_ _ _ h=>.inl h,rfl,rfl,rfl,rfl,rfl,?_⟩;by_cases A:c.kind=2
 .rw[aE A];unfold Cx.qq;rw[Z.chain];exact wR h (nG hg) h5 (λe=>absurd (.inl e) i) (.inr (.inl rfl)) (λe=>absurd e gF) (λ_=>⟨A,rfl,rfl,by simp[Qn.new]⟩) λe=>absurd e gF
 rw[az A];have Y:c.kind=4:=by
  obtain e|e|e|e|e:=h.kd
  .exact absurd (.inl e) i
  .exact absurd e A
  .exact absurd (.inr e) i
  .exact e
  exact absurd e h5
 rw[aE Y];exact pU Z H.toKv h h5 (λe=>absurd (.inl e) i) (h.om Y) (.inl ⟨Y,rfl,rfl⟩)
end
inductive Uy(S:Cf)(K:Kn)(F:Fl)(u:Int)(r:Rq)(A:An):Prop
 |ou (h:A.wh=1) (hk:r.kd=2) (hh:K.tA S u r.pl r.ct) (hr:DO S K u r.pl r.ct r.ep) (hm:(F u).mark<=r.pl)
 |some (h:A.wh=2) (hk:A.ct.kd≠0) (hh:K.tA S u r.pl A.ct) (hr:DO S K u r.pl A.ct r.ep) (hm:(F u).mark<=r.pl)
 |none (h:A.wh=3) (hk:r.kd=3) (hf:((F u).ct (cell S.n r.pl)).kd=0) (hm:(F u).mark<=r.pl)
 |oB (h:A.wh=4) (hm:r.pl<A.mark) (hM:K.e A.mark) (hd:K.I0 S u r.pl) (hc:A.ct.cl=0)
 |kV (t:Ct) (h:A.wh=4) (hm:r.pl<A.mark) (hM:K.e A.mark) (hk:t.kd≠0) (hh:K.tA S u r.pl t) (hr:DO S K u r.pl t r.ep) (hc:A.ct.cl=t.cl/\A.ct.ca=t.ca)
section
variable{F:Fl}{J J':Jq}
theorem sN.R7{A:An}(h:sN S K F u r A)(h5:A.wh≠5)(ha:KN S.n S.ce (u/S.m) r.pl)(y:r.kd=3\/(r.kd=2/\sy r.ct.kd r.ct.val.length=true)):(r.ep<=(K.D u).ep/\(F u).ep<=r.ep)/\Uy S K F u r A:=by
 let⟨i,Z,h2,T,L⟩:=h;have ni:∀{s1:St},Ha S K u s1->rb S.n (u/S.m) s1 (K.D u)->i.ep<=r.ep->s1=⟨r.ep,i.mark,i.ct⟩->J6 S.n i r.pl A->(A.wh=3->r.kd=3)->(r.ep<=(K.D u).ep/\(F u).ep<=r.ep)/\Uy S K F u r A:=fun{s1} T L he e ht a4=>by
  subst e;refine⟨⟨L.ep,bt Z.ep he⟩,?_⟩;have hh:(i.ct (cell S.n r.pl)).kd≠0->K.tA S u r.pl (i.ct (cell S.n r.pl)):=λy=>L.ct _ y;have hr:(i.ct (cell S.n r.pl)).kd≠0->DO S K u r.pl (i.ct (cell S.n r.pl)) r.ep:=λy=>T.rt _ ha y
  cases ht with
  |kV W V M t4=>
   have hM:K.e A.mark:=by rw[M];exact T.b
   by_cases H:(i.ct (cell S.n r.pl)).kd=0
   .have hd:K.I0 S u r.pl:=⟨L.dd _ H (by rw[ha.eq];exact V),eH V L.b⟩;refine .oB W (jk M V) hM hd ?_;rw[t4];show(i.ct (cell S.n r.pl)).cl=0;have:=T.c0 _ H;rw[show i.ct (cell S.n r.pl)=no from this];rfl
   exact .kV (i.ct (cell S.n r.pl)) W (jk M V) hM H (hh H) (hr H) (by rw[t4];exact⟨rfl,rfl⟩)
  |none W V M=>refine .none W (a4 W) ?_ (bt Z.b V);refine bk λhn=>?_;rw[Z.ct _ hn]at M;exact hn M
  |some W V M t4=>exact .some W (jk t4 M) (by rw[t4];exact hh M) (by rw[t4];exact hr M) (bt Z.b V)
 obtain y|⟨y,hc⟩:=y
 .let⟨a1,a2,a3⟩:=Ou (s:=i) S.ok y ha (jJ h2 h5);rw[<-h2]at a3;exact ni T L a1 a2 a3 λ_=>y
 let⟨a1,a2⟩:=BN (s:=i) S.ok y ha hc (jJ h2 h5);obtain⟨b1,b2,b3,b4⟩|⟨b1,b2,b3⟩:=a2
 .rw[b4]at T L;have Y:(⟨r.ep,i.mark,λj=>if j=cell S.n r.pl then r.ct else i.ct j⟩:St).ct (cell S.n r.pl)=r.ct:=aE rfl;have a0:((⟨r.ep,i.mark,λj=>if j=cell S.n r.pl then r.ct else i.ct j⟩:St).ct (cell S.n r.pl)).kd≠0:=by rw[Y];exact zc hc
  refine⟨⟨L.ep,bt Z.ep a1⟩,.ou (jk h2 b1) y ?_ ?_ (bt Z.b b2)⟩
  .have:=L.ct _ a0;rwa[Y]at this
  have:=T.rt _ ha a0;rwa[Y]at this
 rw[<-h2]at b2 b3;exact ni T L a1 b1 b2 λe=>absurd e b3
def rW.A(h:rW S K F J X c X')(i:c'.gU=c.gU)(H:c'.q=c.q):rW S K F J X c' X':=by
 obtain⟨d,a,j,y,A,L⟩|⟨r,j,y,A⟩:=h
 .exact .put d a (j.H i.symm) y A (jk H L)
 exact .fin r (by rw[j];unfold Cx.fin;rw[i]) (jk i y) A
def Ce(h:qI S K F J X.id X.b c):rW S K F J X c (X.put c):= .put c X.ib rfl rfl h (.inl ⟨rfl,.inr ⟨rfl,rfl⟩⟩)
def xz(h:Cb S K F J X.id X.b c)(i:c.kind=1)(j:Gu S K c.ie c.ij):rW S K F J X c (X.put {c with q:=Qn.zero}):=
 .put {c with q:=Qn.zero} X.ib rfl rfl ⟨h.A rfl rfl rfl rfl rfl,λ_ _=>j,λ_ e=>absurd rfl e,λe=>by
  have e':c.kind=2\/c.kind=3\/c.kind=4:=e
  rw[i]at e';exact absurd e' gF,λ_=>rfl,λe=>absurd rfl e,λe=>absurd rfl e,λe=>absurd rfl e,λe=>absurd rfl e,λe=>absurd rfl e⟩ (.inl ⟨rfl,.inl rfl⟩)
theorem I3(hb:XB S K X)(kw:Kw S K)(h:qI S K F J X.id X.b c){A:An}(hu:u∈c.q.nodes)(hk:c.q.A.kd=2)(ha:sN S K F u c.q.A A)(h5:A.wh≠5)(hC:sy c.jb.kd c.jb.val.length=true){c1:jz}(a4:c1={c with q:=c.q.add u A}):rW S K F J X c1 (X.ou c1 A):=by
 have ab:c.q.nodes≠[]:=bM hu;have w:=h.q2 ab hk;have hE:=hb.e;obtain⟨u',l1,l2,w1,w2,w3,w4⟩:=w.jU;have eu:u=u':=by rw[w3]at hu;simpa using hu
 subst eu;have a3:u∈K.C S X.b c.ij:=nG w1;have au:=kw.D hE a3 w.ok.1 w.ok.2;have ak:=h.A kw.toKv hE hu;obtain⟨⟨s1,s2⟩,hs⟩:=ha.R7 h5 (ak.w hk).1 (.inr ⟨hk,by rw[w.ct];exact hC⟩);have W:=h.ow w.kd;have a7:=h.ep ab;rw[a7]at s1 s2;have L:Cb S K F J X.id X.b c1:=h.toCb.A (mf a4) (mf a4) (mf a4) (mf a4) (mf a4);have k1:c1.kind=c.kind/\c1.ij=c.ij/\c1.c=c.c/\c1.jb=c.jb/\c1.ie=c.ie:=by rw[a4];exact⟨rfl,rfl,rfl,rfl,rfl⟩
 let⟨H,Z,e3,e4,T⟩:=k1;have a5:∃e,K.P0 c1.ie c1.ij e:=⟨X.b,by rw[T,Z];exact w.p0⟩;have al:(l1++u::l2).Nodup:=by rw[<-w1];exact kw.nd hE c.ij
 have ac:(l1++[u]).length=c.c+1:=nN w2;have am:K.C S X.b c.ij=(l1++[u])++l2:=nG w1;have ad:∀t,DO S K u c.ij t X.b->0<c.c->t=c.jb:=λt⟨e0,av,q1,j,V⟩ hp=>by
  have a1:=V.Ub;have a2:=V.z1;let⟨g,l,g1,g2⟩:=V.N5 kw.toKv (e':=X.b) C hE.2 a3;rw[w1]at g1
  cases l1 with
  |nil=>simp at w2;omega
  |cons y l1=>
   simp at g1;have hy:=(w4 y (aN ..)).1.1;obtain g2|g2:=g2
   .exfalso;have:y=u:=jJ g2 g1.1;subst this;simp at al
   rw[<-g1.1]at g2;unfold Kn.tA at g2 hy;rw[<-g2,<-hy]
 have ag:∀t,t.kd≠0->K.tA S u c.ij t->DO S K u c.ij t X.b->(F u).mark<=c.ij->(c.kind=1->t=c.ie)->(0<c.c->t=c.jb)->rW S K F J X c1 (X.kW {c1 with jb:=t}):=λt hk hh V hm h1 M=>by
  refine(GP (c:={c1 with jb:=t}) hb kw.toKv (L.A rfl rfl rfl rfl rfl) (l1:=l1++[u]) (l2:=l2) ⟨by show c1.kind=1\/c1.kind=3;rw[H];exact w.kd,by show Ok S c1.ij;rw[Z];exact w.ok,λx hx=>?_,by show c1.kind=1->t=c1.ie;rw[H,T];exact h1,?_,by show K.P0 c1.ie c1.ij _;rw[T,Z];exact w.p0⟩ (by show K.C S X.b c1.ij=_;rw[Z];exact am) (by show _=c1.c+1;rw[e3];exact ac)).A rfl rfl
  .show(K.tA S x c1.ij t/\_)/\_/\(F x).mark<=c1.ij;rw[Z];obtain hx|hx:=aT.1 hx
   .have h3:=w4 x hx;have:t=c.jb:=M (by rw[<-w2];exact cJ hx);rw[this];exact h3
   simp at hx;subst hx;exact⟨⟨hh,s1⟩,s2,hm⟩
  show∃e0,Iq S K c1.ij t X.b e0;rw[Z];exact V.root kw.toKv hE a3 hh
 have a8:∀t,DO S K u c.ij t X.b->t.cl=c.ie.cl->t.ca=c.ie.ca->t=c.ie:=λt⟨e0,_,_,_,V⟩ q1 j=>W.pu t _ _ V.p q1 j;unfold Cx.ou
 cases hs with
 |ou q1 j Y q4 q5=>rw[aE q1];rw[w.pl,w.ct,a7]at q4;rw[w.pl,w.ct]at Y;rw[w.pl]at q5;have:=ag c.jb (zc hC) Y q4 q5 (λe=>w.c1 e) λ_=>rfl;rwa[<-e4]at this
 |some q1 j Y q4 q5=>
  rw[az (mG q1),aE q1];rw[w.pl,a7]at q4;rw[w.pl]at Y q5;unfold Cx.kY;have an:Cx.iX c1 A.ct=true->A.ct=c.ie:=λe=>by unfold Cx.iX at e;rw[T]at e;simp only[bL,ZT]at e;exact a8 _ q4 e.1 e.2
  by_cases hd:c1.kind=1/\Cx.iX c1 A.ct=false
  .rw[aE hd];have hkk:=hd.1;rw[H]at hkk;refine xz L hd.1 ?_;rw[T,Z];have hp:¬0<c.c:=λhp=>by have:=ad _ q4 hp;rw[w.c1 hkk]at this;have M:=hd.2;unfold Cx.iX at M;rw[T,this]at M;simp at M
   have a6:l1=[]:=aW.1 C;subst a6;refine .inr ⟨w.ok,X.b,hE,λe0 x=>W.pe _ _ x,u,l2,w1,?_,.inl ?_⟩
   .unfold Kn.tA at Y;rw[Y];intro e;have M:=hd.2;unfold Cx.iX at M;rw[T,e]at M;simp at M
   unfold Kn.tA at Y;rw[Y];exact j
  rw[az hd];refine ag A.ct j Y q4 q5 (λe=>an ?_) (ad _ q4)
  cases ho:Cx.iX c1 A.ct with
  |true=>rfl
  |false=>exact absurd ⟨H.H e,ho⟩ hd
 |none q1 j _ _=>rw[hk]at j;exact absurd j gF
 |oB q1 j Y q4 q5=>
  rw[az (mG q1),az (mG q1),aE q1];rw[w.pl]at j q4;have ap:Cx.iX c1 A.ct=false:=by unfold Cx.iX;rw[q5,T];have:¬(0=c.ie.cl):=λe=>W.cl e.symm;simp[this]
  unfold Cx.kV;rw[ap,fb];have a0:c1.kind≠5:=by rw[H];obtain e|e:=w.kd<;>rw[e]<;>decide
  have i:Ok S c1.ij:=by rw[Z];exact w.ok
  by_cases hp:(decide (0<c1.c)&&Cx.iX c1 c1.jb)=true
  .rw[aE hp];rw[e3,e4]at hp;simp only[bL,ZX]at hp;obtain⟨e0,V⟩:=w.rt hp.1;have a9:c.jb=c.ie:=by have M:=hp.2;unfold Cx.iX at M;rw[T]at M;simp only[bL,ZT]at M;exact W.pu _ _ _ V.p M.1 M.2
   obtain⟨g,l,g1,g2⟩:=V.hd X.b V.z1 iK;rw[a9,<-T]at g2;rw[<-Z]at g1 g2 j;obtain hkk|hkk:=w.kd
   .rw[aE (H.H hkk)];exact pU hb kw.toKv L a0 (λ_=>⟨i,a5⟩) Y (.inr (.inr ⟨j,⟨g,l,g1,g2⟩,i,.inr ⟨H.H hkk,rfl⟩⟩))
   rw[az (by rw[H,hkk];decide)];exact pU hb kw.toKv L a0 (λ_=>⟨i,a5⟩) Y (.inr (.inr ⟨j,⟨g,l,g1,g2⟩,i,.inl ⟨H.H hkk,rfl⟩⟩))
  rw[az hp];obtain hkk|hkk:=w.kd
  .rw[aE (H.H hkk)];refine xz L (H.H hkk) ?_;rw[T,Z];have aq:¬0<c.c:=λh0=>by refine hp ?_;rw[e3,e4,w.c1 hkk];unfold Cx.iX;rw[T];simp[h0]
   have a6:l1=[]:=aW.1 C;subst a6;exact .inr ⟨w.ok,X.b,hE,λe0 x=>W.pe _ _ x,u,l2,w1,λe=>W.kd (jJ e q4.1),.inr q4.2⟩
  rw[az (by rw[H,hkk];decide)];exact pU hb kw.toKv L a0 (λ_=>⟨i,a5⟩) Y (.inr (.inl ⟨.inr (H.H hkk),rfl,by rwa[<-Z]at j⟩))
 |kV t q1 j Y q4 q5 q6 q7=>
  rw[az (mG q1),az (mG q1),aE q1];rw[w.pl,a7]at q6;rw[w.pl]at j q5;unfold Cx.kV;have a0:c1.kind≠5:=by rw[H];obtain e|e:=w.kd<;>rw[e]<;>decide
  have i:Ok S c1.ij:=by rw[Z];exact w.ok
  have ai:(∃g l,K.C S X.b c.ij=g::l/\K.tA S g c.ij c.ie)->rW S K F J X c1 (if c1.kind=1 then X.pW c1 A.mark ⟨1,c1.ij,[]⟩else X.pW c1 A.mark ⟨9,0,[]⟩):=λhg=>by
   rw[<-T,<-Z]at hg;rw[<-Z]at j;obtain hkk|hkk:=w.kd
   .rw[aE (H.H hkk)];exact pU hb kw.toKv L a0 (λ_=>⟨i,a5⟩) Y (.inr (.inr ⟨j,hg,i,.inr ⟨H.H hkk,rfl⟩⟩))
   rw[az (by rw[H,hkk];decide)];exact pU hb kw.toKv L a0 (λ_=>⟨i,a5⟩) Y (.inr (.inr ⟨j,hg,i,.inl ⟨H.H hkk,rfl⟩⟩))
  by_cases hp:(Cx.iX c1 A.ct||(decide (0<c1.c)&&Cx.iX c1 c1.jb))=true
  .rw[aE hp];refine ai ?_;rw[e3,e4]at hp;simp only[eV,bL,ZX]at hp;obtain hp|hp:=hp
   .have ar:t=c.ie:=by unfold Cx.iX at hp;rw[T,q7.1,q7.2]at hp;simp only[bL,ZT]at hp;exact a8 _ q6 hp.1 hp.2
    rw[ar]at q5 q6;let⟨e0,V⟩:=q6.root kw.toKv hE a3 q5;exact V.hd X.b V.z1 iK
   obtain⟨e0,V⟩:=w.rt hp.1;have a9:c.jb=c.ie:=by have M:=hp.2;unfold Cx.iX at M;rw[T]at M;simp only[bL,ZT]at M;exact W.pu _ _ _ V.p M.1 M.2
   obtain⟨g,l,g1,g2⟩:=V.hd X.b V.z1 iK;rw[a9]at g2;exact⟨g,l,g1,g2⟩
  rw[az hp];obtain hkk|hkk:=w.kd
  .rw[aE (H.H hkk)];refine xz L (H.H hkk) ?_;rw[T,Z];have aq:¬0<c.c:=λh0=>by refine hp ?_;rw[e3,e4,w.c1 hkk];unfold Cx.iX;rw[T];simp[h0]
   have a6:l1=[]:=aW.1 C;subst a6;have aa:=q5;unfold Kn.tA at aa;refine .inr ⟨w.ok,X.b,hE,λe0 x=>W.pe _ _ x,u,l2,w1,?_,.inl (jk aa q4)⟩;rw[aa];intro e;refine hp ?_;unfold Cx.iX;rw[q7.1,q7.2,T,e];simp
  rw[az (by rw[H,hkk];decide)];exact pU hb kw.toKv L a0 (λ_=>⟨i,a5⟩) Y (.inr (.inl ⟨.inr (H.H hkk),rfl,by rwa[<-Z]at j⟩))
end
structure oM{α:Type}(q:Qn α):Prop where
 nd:q.nodes.Nodup
 ai:∀z∈q.B,z.1∈q.nodes
 an:(q.B.map (·.1)).Nodup
def oM.of{α:Type}{R:Rq->Prop}{i:α->Prop}{q:Qn α}(h:QK R i iQ q):oM q:=⟨h.nd,h.ai,h.an⟩
def oM.le{α:Type}{q:Qn α}(h:oM q):q.B.length<=q.nodes.length:=by
 have:=oq h.an λx i=>by obtain⟨z,j,rfl⟩:=aD.1 i;exact h.ai z j
 simp_all
def oM.all{α:Type}{q:Qn α}(h:oM q)(i:q.nodes.length<=q.B.length)(j:u∈q.nodes):∃a,(u,a)∈q.B:=by
 have:=xb h.an (λx y=>by
  obtain⟨z,A,rfl⟩:=aD.1 y
  exact h.ai z A) (iU i) j
 simp_all
def oM.every{α:Type}{q:Qn α}(h:oM q){i:α->Bool}(j:q.count i=q.nodes.length):q.nodes.length<=q.B.length/\∀z∈q.B,i z.2=true:=by have F:=h.le;unfold Qn.count at j;have H:=bF (λz:Int×α=>i z.2) q.B;have y:(q.B.filter λz=>i z.2).length=q.B.length:=C;exact⟨C,λz A=>eh.1 y z A⟩
theorem oM.find{α:Type}{q:Qn α}(h:oM q){a:α}(F:(u,a)∈q.B):q.B.find? (λz=>z.1==u)=some (u,a):=by
 cases e:q.B.find? (λz=>z.1==u)with
 |none=>exact absurd (bU.1 e _ F) gG
 |some z=>
  have L:=bu e;have H:=cR e;simp at H;have M:=h.an;congr 1;have j:∀(l:List (Int×α)),(l.map (·.1)).Nodup->∀x∈l,∀y∈l,x.1=y.1->x=y:=by
   intro l;induction l with
   |nil=>simp
   |cons w l T=>
    intro A x hx y hy i;simp only[bj,bY]at A;obtain rfl|hx:=bh.1 hx
    .simp_all
    obtain hy|hy:=bh.1 hy
    .exact absurd (aD.2 ⟨x,hx,jS i hy⟩) A.1
    exact T A.2 x hx y hy i
  exact j _ M z L (u,a) F H
section
variable{F:Fl}{J J':Jq}
def qI.add{id:Int}(h:qI S K F J id E c){A:An}(i:sN S K F u c.q.A A)(j:A.wh≠5)(y:c.q.A.kd=3->A.wh≠4):qI S K F J id E {c with q:=c.q.add u A}:=by
 refine⟨h.toCb.A rfl rfl rfl rfl rfl,h.g1,h.o1,h.tR,h.a5,h.qk,h.ep,λe e'=>?_,λe e'=>?_,λe e'=>?_⟩
 .have w:=h.q2 e e';exact⟨w.kd,w.ok,w.pl,w.ct,w.jU,w.c0,w.c1,w.rt,w.p0⟩
 .have w:=h.q3 e e';refine⟨w.kd,w.pl,w.nd,λz hz=>?_⟩;obtain hz|hz:=aT.1 hz
  .exact w.an z hz
  simp at hz;subst hz;exact⟨⟨y e',j⟩,i⟩
 have w:=h.q4 e e';refine⟨w.nd,w.b,λz hz=>?_,w.D⟩;obtain hz|hz:=aT.1 hz
 .exact w.an z hz
 simp at hz;subst hz;exact⟨j,i⟩
theorem Fw(hb:XB S K X)(kw:Kw S K)(h:qI S K F J X.id X.b c){A:An}(hu:u∈c.q.nodes)(hk:c.q.A.kd=3)(ha:sN S K F u c.q.A A)(h5:A.wh≠5)(hq:oM (c.q.add u A)):rW S K F J X {c with q:=c.q.add u A} (X.oe {c with q:=c.q.add u A} A):=by
 have a4:c.q.nodes≠[]:=bM hu;have w:=h.q3 a4 hk;have hE:=hb.e;have M:=h.oa (.inl w.kd);have a5:=h.ep a4;have T:∀{x},x∈c.q.nodes->KN S.n S.ce (x/S.m) c.q.A.pl:=fun{x} j=>by rw[w.pl];rw[w.nd]at j;exact kw.D hE j M.1 M.2
 have ab:c.kind≠5:=by rw[w.kd];decide
 have ac:c.kind≠1:=by rw[w.kd];decide
 have ad:Cb S K F J X.id X.b {c with q:=c.q.add u A}:=h.toCb.A rfl rfl rfl rfl rfl;unfold Cx.oe;by_cases h4:A.wh=4
 .rw[aE h4];have a6:c.ij<A.mark/\K.e A.mark:=by
   let⟨_,hs⟩:=ha.R7 h5 (T hu) (.inl hk);rw[<-w.pl]
   cases hs with
   |ou i=>rw[h4]at i;exact absurd i gF
   |some i=>rw[h4]at i;exact absurd i gF
   |none i=>rw[h4]at i;exact absurd i gF
   |oB i H L=>exact⟨H,L⟩
   |kV t i H L=>exact⟨H,L⟩
  exact pU hb kw.toKv ad ab (λe=>absurd e ac) a6.2 (.inr (.inl ⟨.inl w.kd,rfl,a6.1⟩))
 rw[az h4];have a3:=h.add ha h5 λ_=>h4;by_cases ja:(c.q.add u A).B.length<(c.q.add u A).nodes.length
 .rw[aE ja];exact Ce a3
 rw[az ja];have a7:(c.q.add u A).nodes.length<=(c.q.add u A).B.length:=C;have hw:∀z∈(c.q.add u A).B,(z.2.wh≠4/\z.2.wh≠5)/\sN S K F z.1 c.q.A z.2:=(a3.q3 a4 hk).an;have V:∀x,x∈K.C S X.b c.ij->∃B,(x,B)∈(c.q.add u A).B/\B.wh≠4/\(X.b<=(K.D x).ep/\(F x).ep<=X.b)/\Uy S K F x c.q.A B:=λx j=>by rw[<-w.nd]at j;obtain⟨B,hB⟩:=hq.all a7 j;obtain⟨⟨b1,W⟩,b3⟩:=hw (x,B) hB;let⟨s1,s2⟩:=sN.R7 (u:=x) (A:=B) b3 W (T j) (.inl hk);rw[a5]at s1;exact⟨B,hB,b1,s1,s2⟩
 by_cases y:(c.q.add u A).count (λa=>a.wh==2)=(c.q.add u A).nodes.length
 .rw[aE y];let⟨_,ag⟩:=hq.every y;let⟨g,l,hg⟩:=bQ (kw.ne hE c.ij);have ai:g∈K.C S X.b c.ij:=yG hg;have Y:∀x,x∈K.C S X.b c.ij->∃B:An,(x,B)∈(c.q.add u A).B/\B.ct.kd≠0/\K.tA S x c.ij B.ct/\DO S K x c.ij B.ct X.b/\(F x).mark<=c.ij/\(X.b<=(K.D x).ep/\(F x).ep<=X.b):=λx j=>by
   let⟨B,hB,b1,W,b3⟩:=V x j;have Z:=ag _ hB;simp at Z
   cases b3 with
   |ou i=>rw[Z]at i;exact absurd i gF
   |some i H L q4 q5=>rw[w.pl]at L q4 q5;rw[a5]at q4;exact⟨B,hB,H,L,q4,q5,W⟩
   |none i=>rw[Z]at i;exact absurd i gF
   |oB i=>rw[Z]at i;exact absurd i gF
   |kV t i=>rw[Z]at i;exact absurd i gF
  let⟨B,hB,b1,W,b3,b4,b5⟩:=Y g ai;have a0:(((c.q.add u A).B.find? λz=>z.1==(c.q.add u A).nodes.headD 0).map λz=>z.2.ct).getD no=B.ct:=by
   have:(c.q.add u A).nodes.headD 0=g:=by show c.q.nodes.headD 0=g;rw[w.nd,hg];rfl
   rw[this,hq.find hB];rfl
  show rW S K F J X _ (X.fin _ (Cx.py ((((c.q.add u A).B.find? λz=>z.1==(c.q.add u A).nodes.headD 0).map λz=>z.2.ct).getD no)));rw[a0];refine .fin _ rfl ⟨c.kind,c.ie,c.unit,c.ij,h.st,h.oc,.inr (.inl ⟨.inl w.kd,M,.inl ⟨B.ct,rfl,⟨⟨b1,M⟩,X.b,hE,λx j=>?_⟩,⟨X.b,hE,⟨g,l,hg,b4⟩,λx j=>(V x j).elim λ_ q=>q.2.2.1.2⟩⟩⟩)⟩ b1;obtain⟨B',al,d1,d2,⟨e0,e1,i,H,hr⟩,d4,d5⟩:=Y x j;have a1:=hr.Ub;have a2:=hr.z1;let⟨g',l',g1,g2⟩:=hr.N5 kw.toKv (e':=X.b) C hE.2 j;rw[hg]at g1;simp at g1;refine⟨?_,d5.1⟩;have ak:B'.ct=B.ct:=by
   unfold Kn.tA at d2 W g2;obtain g2|g2:=g2
   .rw[<-d2,<-W,<-g2,g1.1]
   rw[<-g2,<-W,g1.1]
  rw[<-ak];exact d2
 rw[az y];refine .fin _ rfl ⟨c.kind,c.ie,c.unit,c.ij,h.st,h.oc,.inr (.inl ⟨.inl w.kd,M,.inr (.inl ⟨w.kd,rfl,X.b,hE,λx j=>?_,?_⟩)⟩)⟩ gF
 .let⟨B,hB,b1,W,b3⟩:=V x j;refine⟨W.2,?_⟩
  cases b3 with
  |ou i H L q4 q5=>rwa[w.pl]at q5
  |some i H L q4 q5=>rwa[w.pl]at q5
  |none i H L q4=>rwa[w.pl]at q4
  |oB i=>exact absurd i b1
  |kV t i=>exact absurd i b1
 refine bk λhn=>y ?_;have a8:∀z∈(c.q.add u A).B,(z.2.wh==2)=true:=λz hz=>by
  have a9:=hq.ai z hz;have aa:z.1∈K.C S X.b c.ij:=by rw[<-w.nd];exact a9
  obtain⟨⟨b1,W⟩,b3⟩:=hw z hz;let⟨s1,s2⟩:=b3.R7 W (T a9) (.inl hk)
  cases s2 with
  |ou i H=>rw[hk]at H;exact absurd H gF
  |some i=>simp[i]
  |none i H L=>rw[w.pl]at L;exact absurd ⟨z.1,aa,L⟩ hn
  |oB i=>exact absurd i b1
  |kV t i=>exact absurd i b1
 unfold Qn.count;rw[eh.2 a8];have:=hq.le;omega
def Ns(hb:XB S K X)(kw:Kw S K)(h:qI S K F J X.id X.b c){A:An}(hu:u∈c.q.nodes)(hk:c.q.A.kd=4)(ha:sN S K F u c.q.A A)(h5:A.wh≠5)(hq:oM (c.q.add u A))(a0:(c.q.add u A).count (λa=>a.wh==1)=(c.q.add u A).nodes.length):rW S K F J X {c with q:=c.q.add u A} (X.fin {c with q:=c.q.add u A} c.e):=by
 have W:c.q.nodes≠[]:=bM hu;have a4:=h.add ha h5 λe=>pS hk e;have w:=a4.q4 W hk;have H:=hb.e;have a5:=h.ep W;let⟨a6,ak⟩:=hq.every a0;have y:∀x,x∈jW (K.lay X.b)->∃Y,Ha S K x Y/\rb S.n (x/S.m) Y (K.D x)/\Y.ep=X.b/\c.q.A.pl<=Y.mark/\(F x).ep<=X.b:=λx L=>by
  have ad:x∈(c.q.add u A).nodes:=by rw[w.nd];exact L
  obtain⟨B,hB⟩:=hq.all a6 ad;obtain⟨b2,s0,b3,b4,b5,b6⟩:B.wh≠5/\sN S K F x c.q.A B:=w.an (x,B) hB;let⟨a1,a2,a3⟩:=EU (n:=S.n) (m:=S.m) (v:=S.v) (ce:=S.ce) (ch:=x/S.m) (s:=s0) hk (jJ b4 b2);have a7:(lK S.n S.m S.v S.ce (x/S.m) s0 c.q.A).2=_:=a2;refine⟨_,b5,b6,?_,?_,?_⟩
  .show(lK S.n S.m S.v S.ce (x/S.m) s0 c.q.A).2.ep=_;rw[a7];exact a5
  .show _<=(lK S.n S.m S.v S.ce (x/S.m) s0 c.q.A).2.mark;rw[a7];show _<=if s0.mark<c.q.A.pl then c.q.A.pl else s0.mark
   split<;>omega
  rw[<-a5];exact bt b3.ep a1
 have a8:∀m,m<=c.q.A.pl->sb K m:=λm hm=>⟨X.b,H,λx L=>by
  let⟨Y,_,Z,q3,q4,_⟩:=y x L
  exact⟨bt hm (bt q4 Z.b),by rw[<-q3];exact Z.ep⟩⟩
 have a9:UD S K X.b c c.q.A.pl:=(h.q4 W hk).D;obtain⟨p1,p2,T⟩|⟨p1,p2,T⟩|⟨p1,⟨g,l,g1,g2⟩,T,p4⟩:=a9
 .refine .fin _ rfl ⟨c.kind,c.ie,c.unit,c.ij,h.st,h.oc,.inr (.inr (.inl ⟨p1,p2,a8 _ C⟩))⟩ (mG p2)
 .refine .fin _ rfl ⟨c.kind,c.ie,c.unit,c.ij,h.st,h.oc,.inr (.inl ⟨p1,h.oa p1,.inr (.inr (.inl ⟨p2,a8 _ C⟩))⟩)⟩ (mG p2)
 have ag:c.kind=1\/c.kind=3:=by
  obtain p4|p4:=p4
  .exact .inr p4.1
  exact .inl p4.1
 have M:=h.ow ag;have aa:g∈K.C S X.b c.ij:=yG g1;have V:BQ S K c.ij c.ie:=by
  refine⟨⟨M.kd,T⟩,X.b,H,⟨g,l,g1,g2⟩,λx L=>?_⟩;let⟨Y,q1,Z,q3,q4,_⟩:=y x (kw.zw H L);refine⟨by rw[<-q3];exact Z.ep,?_⟩;have i:=kw.D H L T.1 T.2;by_cases j:(Y.ct (cell S.n c.ij)).kd=0
  .exact .inr ⟨Z.dd _ j (by rw[i.eq];omega),gS Z.b⟩
  obtain⟨e0,e1,r1,r2,hr⟩:=q1.rt _ i j;have a1:=hr.Ub;have a2:=hr.z1;let⟨g',l',z1,z2⟩:=hr.N5 kw.toKv (e':=X.b) C H.2 L;rw[g1]at z1;simp at z1;have ai:=Z.ct _ j;left;unfold Kn.tA at g2 z2|-;obtain z2|z2:=z2
  .rw[<-z2,<-z1.1];exact g2
  rw[ai,<-z2,<-z1.1];exact g2
 have ab:NB S K F c.ij:=by
  refine⟨X.b,H,⟨g,l,g1,?_⟩,λx L=>?_⟩
  .refine bk λhn=>?_;have i:=kw.D H aa T.1 T.2;have ac:=h.fl g;unfold Kn.tA at g2;by_cases j:((F g).ct (cell S.n c.ij)).kd=0
   .have:=ac.dd _ j (by rw[i.eq];omega);rw[g2]at this;exact M.kd this
   have:=ac.ct _ j;exact M.fn g c.ij (kw.un H aa) i (by rw[<-this];exact g2)
  let⟨_,_,_,_,_,q5⟩:=y x (kw.zw H L);exact q5
 obtain⟨p5,p6⟩|⟨p5,p6⟩:=p4
 .exact .fin _ rfl ⟨c.kind,c.ie,c.unit,c.ij,h.st,h.oc,.inr (.inl ⟨.inr p5,T,.inr (.inr (.inr ⟨p5,p6,V,ab⟩))⟩)⟩ (mG p6)
 exact .fin _ rfl ⟨c.kind,c.ie,c.unit,c.ij,h.st,h.oc,.inl ⟨p5,M.kd,.inl ⟨p6,V,ab,h.gu p5⟩⟩⟩ (by rw[p6];exact(show(1:Int)≠0 by decide))
def Lx(L:XB S K X)(M:Kw S K)(h:qI S K F J X.id X.b c){A:An}(j:u∈c.q.nodes)(y:sN S K F u c.q.A A)(H:A.wh≠5)(V:oM (c.q.add u A))(W:c.q.A.kd=2->sy c.jb.kd c.jb.val.length=true):rW S K F J X {c with q:=c.q.add u A} (X.rT {c with q:=c.q.add u A} A):=by
 have T:c.q.nodes≠[]:=bM j;show rW S K F J X _ (if c.q.A.kd=3 then _ else if c.q.A.kd=2 then _ else if c.q.A.kd=4 then _ else _);obtain hk|hk|hk:=h.qk T
 .rw[az (mG hk),aE hk];exact I3 L M h j hk y H (W hk) rfl
 .rw[aE hk];exact Fw L M h j hk y H V
 rw[az (mG hk),az (mG hk),aE hk];split
 .rename_i i;exact Ns L M h j hk y H V i
 exact Ce (h.add y H λe=>pS hk e)
end
structure Ee(S:Cf)(K:Kn)(ch:Bool)(r:Rq)(z:Int×Vo):Prop where
 b0:0<=z.2.ba
 r7:r.kd=7->(0<z.2.ba->K.b r.ep z.2.ba z.2.val/\K.d z.1 r.ep z.2.ba)/\(ch=true->z.1∈K.cq r.ep.toNat->K.cb r.ep.toNat<=z.2.ba)
 p5:r.kd=5->z.2.wh=1->r.pl<=((K.c z.1).E r.ep).pr/\z.2.ba<r.pl/\(0<z.2.ba->K.b r.ep z.2.ba z.2.val)/\∀b2,K.d z.1 r.ep b2->b2<=z.2.ba\/r.pl<=b2
 a6:r.kd=6->z.2.wh=1->K.d z.1 r.ep r.pl/\K.b r.ep r.pl r.ct.val
def T5(K:Kn)(q:Qn An):Prop:=q.nodes≠[]->(0<=q.A.ep/\q.A.ep<=K.a.length)/\q.A.kd=1
structure qh(S:Cf)(K:Kn)(X:Cx):Prop where
 tl:X.e<=K.a.length
 e0:0<=X.b
 pb:T5 K X.d
 sl:T5 K X.mv.a
 sc:X.mv.a.nodes≠[]->X.mv.c=false/\X.mv.A.nodes≠[]
 ep:X.mv.A.nodes≠[]->X.mv.A.A.ep=X.mv.b
 me:X.mv.A.nodes≠[]->X.b<X.mv.b/\X.mv.b<=K.a.length
 nc:X.mv.A.nodes≠[]->X.mv.c=false->X.mv.b=X.b+1
 hc:X.mv.A.nodes≠[]->X.mv.c=true->X.mv.b<K.a.length/\X.mv.A.A.kd=7
 k:X.mv.A.nodes≠[]->X.mv.A.A.kd=5\/X.mv.A.A.kd=6\/X.mv.A.A.kd=7
 an:X.mv.A.nodes≠[]->∀z∈X.mv.A.B,Ee S K X.mv.c X.mv.A.A z
 q5:X.mv.A.nodes≠[]->X.mv.A.A.kd=5->X.mv.A.A.pl=X.mv.B/\X.mv.B=X.B/\1<=X.mv.B/\X.mv.B%100=X.id-1000/\∀e v,¬K.b e X.mv.B v
 q6:X.mv.A.nodes≠[]->X.mv.A.A.kd=6->X.mv.A.A.pl=X.mv.B/\X.mv.A.A.ct.val=X.mv.value/\(X.mv.value≠[]->K.b X.mv.b X.mv.B X.mv.value)
 bg:∀z∈X.mv.D,0<z.2.ba->K.b X.mv.b z.2.ba z.2.val
 bl:∀e b v,K.b e b v->b%100=X.id-1000->b<=X.B
 b0:0<=X.B
 id:1000<=X.id/\X.id<=1099
def Q9(K K':Kn)(id:Int):Prop:=∀e b v,K'.b e b v->b%100=id-1000->K.b e b v
section
variable{F:Nat->Fl}{J J':Jq}
def Q9.refl(K)(id):Q9 K K id:=λ_ _ _ h _=>h
def Ee.L{ch:Bool}{z:Int×Vo}(h:Ee S K ch r z)(k:kZ S K K')(y:r.kd=7->ch=true->K.In r.ep):Ee S K' ch r z:=by
 refine⟨h.b0,λe=>⟨λe'=>⟨k.a _ _ _ ((h.r7 e).1 e').1,k.av _ _ _ ((h.r7 e).1 e').2⟩,λe' i=>?_⟩,λe e'=>?_,λe e'=>⟨k.av _ _ _ (h.a6 e e').1,k.a _ _ _ (h.a6 e e').2⟩⟩
 .have j:=y e e';obtain⟨A,H⟩:=k.cb r.ep.toNat (by have:=j.1;have:=j.2;omega);rw[H]at i;rw[A];exact(h.r7 e).2 e' i
 obtain⟨L,M,T,V⟩:=h.p5 e e';refine⟨bt L (k.dv _ _).pr,M,λe=>k.a _ _ _ (T e),λW hb=>?_⟩;obtain hb|hb:=k.an _ _ _ hb
 .simp_all
 omega
def T5.L{q:Qn An}(h:T5 K q)(k:kZ S K K'):T5 K' q:=λe=>⟨⟨(h e).1.1,by have:=(h e).1.2;have:=k.len;omega⟩,(h e).2⟩
def qh.L(h:qh S K X)(k:kZ S K K')(M:Q9 K K' X.id):qh S K' X:=by
 have W:=k.len;refine⟨gS h.tl,h.e0,h.pb.L k,h.sl.L k,h.sc,h.ep,λe=>⟨(h.me e).1,by have:=(h.me e).2;omega⟩,h.nc,λe e'=>⟨by have:=(h.hc e e').1;omega,(h.hc e e').2⟩,h.k,λe z i=>(h.an e z i).L k λ_ e'=>?_,λe e'=>?_,λe e'=>?_,λz i e=>k.a _ _ _ (h.bg z i e),λe b v x y=>h.bl e b v (M _ _ _ x y) y,h.b0,h.id⟩
 .have Y:=(h.me e).1;rw[h.ep e];have:=h.e0;exact⟨C,((h.hc e e').1)⟩
 .obtain⟨j,A,H,T,V⟩:=h.q5 e e';exact⟨j,A,H,T,λe v x=>V e v (M _ _ _ x T)⟩
 obtain⟨j,A,H⟩:=h.q6 e e';exact⟨j,A,λe=>k.a _ _ _ (H e)⟩
structure XI(S:Cf)(K:Kn)(F:Nat->Fl)(J:Jq)(P:Nat->Prop)(X:Cx):Prop where
 b:XB S K X
 d:∀c∈X.a,P c.gU->qI S K (F c.gU) J X.id X.b c
 c:∀k r,X.c[k]?=some r->r.wh≠0->Rf S K (F k) J X.id k r
 f:∀c∈X.a,∀r,X.c[c.gU]?=some r->r.wh=0
 nd:∀c∈X.a,∀d∈X.a,c.gU=d.gU->c=d
 mv:qh S K X
structure LM(X:Cx):Prop where
 c:∀c∈X.a,c.q.nodes≠[]->c.q.A.nr<=X.ib
 p:X.d.nodes≠[]->X.d.A.nr<=X.ib/\∀c∈X.a,c.q.nodes≠[]->c.q.A.nr≠X.d.A.nr
 s:X.mv.a.nodes≠[]->X.mv.a.A.nr<=X.ib/\∀c∈X.a,c.q.nodes≠[]->c.q.A.nr≠X.mv.a.A.nr
 v:X.mv.A.nodes≠[]->X.mv.A.A.nr<=X.ib/\(∀c∈X.a,c.q.nodes≠[]->c.q.A.nr≠X.mv.A.A.nr)/\(X.d.nodes≠[]->X.d.A.nr≠X.mv.A.A.nr)/\(X.mv.a.nodes≠[]->X.mv.a.A.nr≠X.mv.A.A.nr)
def LM.Py(h:LM X)(t)(ha:X.ib<=X'.ib)(V:∀c'∈X'.a,c'.q.nodes≠[]->(∃c∈X.a,c.q.nodes≠[]/\c.q.A.nr=c'.q.A.nr)\/(t=0/\c'.q.A.nr=X'.ib/\X.ib<X'.ib))(Z:X'.d.nodes≠[]->(X.d.nodes≠[]/\X.d.A.nr=X'.d.A.nr)\/(t=1/\X'.d.A.nr=X'.ib/\X.ib<X'.ib))(hs:X'.mv.a.nodes≠[]->(X.mv.a.nodes≠[]/\X.mv.a.A.nr=X'.mv.a.A.nr)\/(t=2/\X'.mv.a.A.nr=X'.ib/\X.ib<X'.ib))(hv:X'.mv.A.nodes≠[]->(X.mv.A.nodes≠[]/\X.mv.A.A.nr=X'.mv.A.A.nr)\/(t=3/\X'.mv.A.A.nr=X'.ib/\X.ib<X'.ib)):LM X':=by
 refine⟨λc j M=>?_,λM=>⟨?_,λc j H=>?_⟩,λM=>⟨?_,λc j H=>?_⟩,λM=>⟨?_,λc j H=>?_,λW=>?_,λY=>?_⟩⟩
 .obtain⟨d,y,i,T⟩|⟨_,i,_⟩:=V c j M
  .have:=h.c d y i;omega
  omega
 .obtain⟨A,L⟩|⟨_,L,_⟩:=Z M
  .have:=(h.p A).1;omega
  omega
 .obtain⟨A,L⟩|⟨q,L,p3⟩:=Z M
  .obtain⟨d,y,i,T⟩|⟨_,i,T⟩:=V c j H
   .have:=(h.p A).2 d y i;omega
   have:=(h.p A).1;omega
  obtain⟨d,y,i,T⟩|⟨q',_,_⟩:=V c j H
  .have:=h.c d y i;omega
  omega
 .obtain⟨A,L⟩|⟨_,L,_⟩:=hs M
  .have:=(h.s A).1;omega
  omega
 .obtain⟨A,L⟩|⟨q,L,p3⟩:=hs M
  .obtain⟨d,y,i,T⟩|⟨_,i,T⟩:=V c j H
   .have:=(h.s A).2 d y i;omega
   have:=(h.s A).1;omega
  obtain⟨d,y,i,T⟩|⟨q',_,_⟩:=V c j H
  .have:=h.c d y i;omega
  omega
 .obtain⟨A,L⟩|⟨_,L,_⟩:=hv M
  .have:=(h.v A).1;omega
  omega
 .obtain⟨A,L⟩|⟨q,L,p3⟩:=hv M
  .obtain⟨d,y,i,T⟩|⟨_,i,T⟩:=V c j H
   .have:=(h.v A).2.1 d y i;omega
   have:=(h.v A).1;omega
  obtain⟨d,y,i,T⟩|⟨q',_,_⟩:=V c j H
  .have:=h.c d y i;omega
  omega
 .obtain⟨A,L⟩|⟨q,L,p3⟩:=hv M
  .obtain⟨y,i⟩|⟨_,i,T⟩:=Z W
   .have:=(h.v A).2.2.1 y;omega
   have:=(h.v A).1;omega
  obtain⟨y,i⟩|⟨q',_,_⟩:=Z W
  .have:=(h.p y).1;omega
  omega
 obtain⟨A,L⟩|⟨q,L,p3⟩:=hv M
 .obtain⟨y,i⟩|⟨_,i,T⟩:=hs Y
  .have:=(h.v A).2.2.2 y;omega
  have:=(h.v A).1;omega
 obtain⟨y,i⟩|⟨q',_,_⟩:=hs Y
 .have:=(h.s y).1;omega
 omega
def LM.A(h:LM X)(L:X'.ib=X.ib+1)(y:X'.a=X.a)(j:X'.d=X.d)(A:X'.mv.a.nodes=[]\/X'.mv.a=X.mv.a)(M:X'.mv.A.A.nr=X.ib+1):LM X':=
 h.Py 3 C (λc H i=>.inl ⟨c,jJ y H,i,rfl⟩) (λi=>.inl ⟨jJ j i,mf j⟩) (λi=>.inl (by have e:=A.resolve_left i;rw[e]at i|-;exact⟨i,rfl⟩)) λ_=>.inr ⟨rfl,C,C⟩
def LM.B(h:LM X)(M:X'.ib=X.ib)(y:X'.a=X.a)(j:X'.d.A=X.d.A/\X'.d.nodes=X.d.nodes)(A:X'.mv.a.nodes=[]\/(X'.mv.a.A=X.mv.a.A/\X'.mv.a.nodes=X.mv.a.nodes))(H:X'.mv.A.nodes=[]\/(X'.mv.A.A=X.mv.A.A/\X'.mv.A.nodes=X.mv.A.nodes)):LM X':=
 h.Py 4 C (λc L i=>.inl ⟨c,jJ y L,i,rfl⟩) (λi=>.inl ⟨jJ j.2 i,mf j.1⟩) (λi=>.inl (by have e:=A.resolve_left i;exact⟨jJ e.2 i,mf e.1⟩)) λi=>.inl (by have e:=H.resolve_left i;exact⟨jJ e.2 i,mf e.1⟩)
structure Qo(X X':Cx):Prop where
 a:X.ib<=X'.ib
 c:∀c'∈X'.a,c'.q.nodes≠[]->(∃c∈X.a,c.gU=c'.gU/\c.q.A=c'.q.A/\c.q.nodes=c'.q.nodes)\/X.ib<c'.q.A.nr
 v:X'.mv.A.nodes≠[]->(X'.mv.A.A=X.mv.A.A/\X'.mv.A.nodes=X.mv.A.nodes/\X'.mv.c=X.mv.c)\/X.ib<X'.mv.A.A.nr
structure Qg(X X':Cx):Prop extends Qo X X' where
 n:LM X->LM X'
def Qg.refl(X):Qg X X:=⟨⟨iK,λc i _=>.inl ⟨c,i,rfl,rfl,rfl⟩,λ_=>.inl ⟨rfl,rfl,rfl⟩⟩,λh=>h⟩
def Qg.H(h:Qg X X')(k:Qg X' X2):Qg X X2:=by
 have Z:=h.a;refine⟨⟨bt h.a k.a,λc V i=>?_,λi=>?_⟩,λx=>k.n (h.n x)⟩
 .obtain⟨d,W,H,j,y⟩|h1:=k.c c V i
  .obtain⟨Y,A,L,M,T⟩|h1:=h.c d W (jk y i)
   .exact .inl ⟨Y,A,L.H H,M.H j,T.H y⟩
   simp_all
  omega
 obtain⟨H,j,y⟩|h1:=k.v i
 .obtain⟨L,M,T⟩|h1:=h.v (jJ j i);all_goals simp_all
 exact .inr C
structure Kx(S:Cf)(K K':Kn)(id:Int):Prop extends kZ S K K' where
 w:Kw S K'
 np:∀cl ca:Int,cl≠id->uO K K' cl ca
 na:∀j:Int,1000<=j->j<=1099->j≠id->Q9 K K' j
 dd:K'.D=K.D/\K'.c=K.c/\K'.d=K.d/\K'.e=K.e/\K'.Fu=K.Fu
def Kx.refl{id:Int}(h:Kw S K):Kx S K K id:=⟨kZ.refl ..,h,λi y _=>uO.refl K i y,λj _ _ _=>Q9.refl K j,rfl,rfl,rfl,rfl,rfl⟩
def Kx.H{id:Int}(h:Kx S K K' id)(k:Kx S K' K2 id):Kx S K K2 id:=
 ⟨h.tokZ.H k.tokZ,k.w,λi A H t a e L M x=>h.np i A H t a e L M (k.np i A H t a e L M x),λj T V W e b v x y=>h.na j T V W e b v (k.na j T V W e b v x y) y,k.dd.1.H h.dd.1,k.dd.2.1.H h.dd.2.1,k.dd.2.2.1.H h.dd.2.2.1,k.dd.2.2.2.1.H h.dd.2.2.2.1,k.dd.2.2.2.2.H h.dd.2.2.2.2⟩
def XB.L(h:XB S K X)(k:kZ S K K'):XB S K' X:=⟨h.n,h.m,h.v,h.c,h.e.L k,by rw[k.lay h.e];exact h.l⟩
def XI.L(h:XI S K F J P X)(i:Kv S K)(k:kZ S K K')(j:∀H:Int,uO K K' X.id H)(A:Q9 K K' X.id)(y:∀a b c d e,J a b c d e->J' a b c d e):XI S K' F J' P X:=
 ⟨h.b.L k,λc M T=>(h.d c M T).L i k h.b.e (j _) y,λn r V W=>(h.c n r V W).L i k (j _) y,h.f,h.nd,h.mv.L k A⟩
def qh.A(h:qh S K X)(H:X'.e=X.e)(j:X'.b=X.b)(L:X'.d=X.d)(i:X'.mv=X.mv)(y:X'.B=X.B)(A:X'.id=X.id):qh S K X':=by refine⟨by rw[H];exact h.tl,by rw[j];exact h.e0,by rw[L];exact h.pb,by rw[i];exact h.sl,by rw[i];exact h.sc,by rw[i];exact h.ep,by rw[i,j];exact h.me,by rw[i,j];exact h.nc,by rw[i];exact h.hc,by rw[i];exact h.k,by rw[i];exact h.an,by rw[i,y,A];exact h.q5,by rw[i];exact h.q6,by rw[i];exact h.bg,by rw[y,A];exact h.bl,by rw[y];exact h.b0,by rw[A];exact h.id⟩
theorem XI.step(h:XI S K F J P X)(kw:Kw S K)(k:kZ S K K')(hp:∀cl ca:Int,¬(cl=X.id/\ca=c.gU)->uO K K' cl ca)(hA:K'.b=K.b)(hc:c∈X.a)(hs:rW S K' (F c.gU) J X c X'):XI S K' F J (λn=>P n\/n=c.gU) X'/\Qg X X':=by
 have a4:Q9 K K' X.id:=λe b v x _=>jJ hA x;have hr:=h.f c hc;have H:=h.b.L k;have a0:=h.mv.L k a4;have T:∀n:Nat,n≠c.gU->uO K K' X.id n:=λn A=>hp _ _ λe=>A (gS e.2);obtain⟨c',a,h1,h2,h3,h4⟩|⟨r,h1,h2,h3⟩:=hs
 .subst h2;refine⟨⟨⟨H.n,H.m,H.v,H.c,H.e,H.l⟩,λd i hP=>?_,λn r A hw=>?_,λd i=>?_,λd i d' V M=>?_,a0.A rfl rfl rfl rfl rfl rfl⟩,⟨?_,λd i A=>?_,λ_=>.inl ⟨rfl,rfl,rfl⟩⟩,λhN=>?_⟩
  .rcases jV (X:={X with ib:=a}) i with e|⟨W,Z⟩
   .subst e;rw[h1];exact h3
   rw[h1]at Z;obtain hP|hP:=hP
   .exact(h.d d W hP).L kw.toKv k h.b.e (T _ Z) λ_ _ _ _ _ x=>x
   exact absurd hP Z
  .by_cases en:n=c.gU
   .subst en;exact absurd (hr r A) hw
   exact(h.c n r A hw).L kw.toKv k (T _ en) λ_ _ _ _ _ x=>x
  .rcases jV (X:={X with ib:=a}) i with e|⟨W,Z⟩
   .subst e;rw[h1];exact hr
   exact h.f d W
  .rcases jV (X:={X with ib:=a}) i with e|⟨W,Z⟩
   .rcases jV (X:={X with ib:=a}) V with e'|⟨a1,a2⟩
    .rw[e,e']
    exact absurd (by rw[<-M,e]) a2
   rcases jV (X:={X with ib:=a}) V with e'|⟨a1,a2⟩
   .exact absurd (jS M e') Z
   exact h.nd d W d' a1 M
  .show X.ib<=a;obtain⟨e,_⟩|⟨e,_⟩:=h4<;>omega
  .rcases jV (X:={X with ib:=a}) i with e|⟨W,Z⟩
   .subst e;obtain⟨_,Y|⟨Y,e4⟩⟩|⟨Y,e4⟩:=h4
    .exact absurd Y A
    .exact .inl ⟨c,hc,h1.symm,Y.symm,e4.symm⟩
    exact .inr C
   exact .inl ⟨d,W,rfl,rfl,rfl⟩
  refine hN.Py 0 (by show X.ib<=a;obtain⟨e,_⟩|⟨e,_⟩:=h4<;>omega) (λd i A=>?_) (λe=>.inl ⟨e,rfl⟩) (λe=>.inl ⟨e,rfl⟩) λe=>.inl ⟨e,rfl⟩;rcases jV (X:={X with ib:=a}) i with e|⟨W,Z⟩
  .subst e;obtain⟨_,Y|⟨Y,e4⟩⟩|⟨Y,e4⟩:=h4
   .exact absurd Y A
   .exact .inl ⟨c,hc,jJ e4 A,mf Y⟩
   exact .inr ⟨rfl,by show _=a;omega,by show X.ib<a;omega⟩
  exact .inl ⟨d,W,A,rfl⟩
 subst h1;refine⟨⟨⟨H.n,H.m,H.v,H.c,H.e,H.l⟩,λd i hP=>?_,λn r' A hw=>?_,λd i=>?_,λd i d' V M=>h.nd d (aU.1 i).1 d' (aU.1 V).1 M,a0.A rfl rfl rfl rfl rfl rfl⟩,⟨iK,λd i A=>?_,λ_=>.inl ⟨rfl,rfl,rfl⟩⟩,λhN=>?_⟩
 .let⟨d1,d2⟩:=aU.1 i;have d3:d.gU≠c.gU:=iU d2;obtain hP|hP:=hP
  .exact(h.d d d1 hP).L kw.toKv k h.b.e (T _ d3) λ_ _ _ _ _ x=>x
  exact absurd hP d3
 .have j:(X.c.set c.gU r)[n]?=some r':=A;by_cases en:n=c.gU
  .subst en;rw[List.getElem?_set_self']at j
   cases hx:X.c[c.gU]? with
   |none=>rw[hx]at j;simp at j
   |some y=>rw[hx]at j;simp at j;subst j;exact h2
  rw[aH (λe=>en e.symm)]at j;exact(h.c n r' j hw).L kw.toKv k (T _ en) λ_ _ _ _ _ x=>x
 .let⟨d1,d2⟩:=aU.1 i;have d3:d.gU≠c.gU:=iU d2;intro r' a5;have a3:(X.c.set c.gU r)[d.gU]?=some r':=a5;rw[aH (λe=>d3 e.symm)]at a3;exact h.f d d1 r' a3
 .exact .inl ⟨d,(aU.1 i).1,rfl,rfl,rfl⟩
 exact hN.Py 4 iK (λd i A=>.inl ⟨d,(aU.1 i).1,A,rfl⟩) (λe=>.inl ⟨e,rfl⟩) (λe=>.inl ⟨e,rfl⟩) λe=>.inl ⟨e,rfl⟩
end
structure VX(K:Kn)(X:Cx):Prop where
 tl:X.e<=K.a.length
 e:K.In X.b
 pb:T5 K X.d
 bl:∀e b v,K.b e b v->b%100=X.id-1000->b<=X.B
 b0:0<=X.B
 id:1000<=X.id/\X.id<=1099
structure Ut(K:Kn)(X:Cx):Prop extends VX K X where
 sl:T5 K X.mv.a
 sc:X.mv.a.nodes≠[]->X.mv.c=false
 me:X.b<X.mv.b/\X.mv.b<=K.a.length
 nc:X.mv.c=false->X.mv.b=X.b+1
 hc:X.mv.c=true->X.mv.b<K.a.length
 bg:∀z∈X.mv.D,0<z.2.ba->K.b X.mv.b z.2.ba z.2.val
structure Sc(X X':Cx):Prop where
 s:(X'.n=X.n/\X'.m=X.m)/\X'.vo=X.vo/\X'.ce=X.ce/\X'.id=X.id
 e:X'.b=X.b
 l:X'.lay=X.lay
 p:X'.a=X.a
 r:X'.c=X.c
section
variable{F:Nat->Fl}{J J':Jq}
def Sc.refl(X):Sc X X:=⟨⟨⟨rfl,rfl⟩,rfl,rfl,rfl⟩,rfl,rfl,rfl,rfl⟩
def Sc.H(h:Sc X X')(k:Sc X' X2):Sc X X2:=⟨⟨⟨k.s.1.1.H h.s.1.1,k.s.1.2.H h.s.1.2⟩,k.s.2.1.H h.s.2.1,k.s.2.2.1.H h.s.2.2.1,k.s.2.2.2.H h.s.2.2.2⟩,k.e.H h.e,k.l.H h.l,k.p.H h.p,k.r.H h.r⟩
def XI.sc(h:XI S K F J P X)(k:Sc X X')(j:qh S K X'):XI S K F J P X':=by obtain⟨⟨⟨y,A⟩,H,L,i⟩,e,l,p,r⟩:=k;exact⟨⟨y.H h.b.n,A.H h.b.m,H.H h.b.v,L.H h.b.c,by rw[e];exact h.b.e,by rw[l,e];exact h.b.l⟩,by rw[p,i,e];exact h.d,by rw[r,i];exact h.c,by rw[p,r];exact h.f,by rw[p];exact h.nd,j⟩
def qh.a(h:qh S K X)(i:K.In X.b):VX K X:=⟨h.tl,i,h.pb,h.bl,h.b0,h.id⟩
def qh.base(h:qh S K X)(j:K.In X.b)(i:X.mv.A.nodes≠[]):Ut K X:=⟨h.a j,h.sl,λe=>(h.sc e).1,h.me i,h.nc i,λe=>(h.hc i e).1,h.bg⟩
def LL(h:1<=X.vo):X.vP≠[]:=by intro e;have:=(Cp X).2.1;rw[e]at this;simp at this;omega
def Ut.tR(h:Ut K X)(i:1<=X.vo){kd pl:Int}{val:List Int}(j:kd=5\/kd=6\/kd=7)(L:kd≠7->X.mv.c=false)(y:kd=5->pl=X.mv.B/\X.mv.B=X.B/\1<=X.mv.B/\X.mv.B%100=X.id-1000/\∀e v,¬K.b e X.mv.B v)(A:kd=6->pl=X.mv.B/\val=X.mv.value/\(X.mv.value≠[]->K.b X.mv.b X.mv.B X.mv.value)):qh S K (X.lH kd pl val):=by refine⟨h.tl,h.e.1,h.pb,h.sl,λe=>⟨h.sc e,(LL i)⟩,λ_=>rfl,λ_=>h.me,λ_=>h.nc,λ_ e=>⟨h.hc e,?_⟩,λ_=>j,λ_ z H=>absurd H (by simp[Cx.lH,Qn.new]),λ_ e=>y e,λ_ e=>A e,h.bg,h.bl,h.b0,h.id⟩;show kd=7;refine bk λq=>?_;have e':X.mv.c=true:=e;simp_all
def Qg.of(y:X'.ib=X.ib)(i:X'.a=X.a)(j:X'.mv.A.nodes=[]\/(X'.mv.A.A=X.mv.A.A/\X'.mv.A.nodes=X.mv.A.nodes/\X'.mv.c=X.mv.c))(A:X'.d.A=X.d.A/\X'.d.nodes=X.d.nodes)(H:X'.mv.a.nodes=[]\/(X'.mv.a.A=X.mv.a.A/\X'.mv.a.nodes=X.mv.a.nodes)):Qg X X':=
 ⟨⟨C,λc L _=>.inl ⟨c,jJ i L,rfl,rfl,rfl⟩,λM=>.inl (j.resolve_left M)⟩,λh=>h.B y i A H (j.imp (λe=>e) λe=>⟨e.1,e.2.1⟩)⟩
def wi(h:VX K X)(i:1<=X.vo):qh S K X.jH/\Sc X X.jH/\Qg X X.jH:=by
 have y:=h.e.1;have A:=h.e.2;have H:=h.tl;refine⟨?_,⟨⟨⟨rfl,rfl⟩,rfl,rfl,rfl⟩,rfl,rfl,rfl,rfl⟩,⟨by show X.ib<=X.ib+1;omega,λc j _=>.inl ⟨c,j,rfl,rfl,rfl⟩,λ_=>.inr (by show X.ib<X.ib+1;omega)⟩,λh=>h.A rfl rfl rfl (.inl rfl) rfl⟩;unfold Cx.jH;refine Ut.tR (X:={X with mv:={Mv.zero with b:=max (X.b+1) (X.e-1),c:=decide _}}) ⟨⟨h.tl,h.e,h.pb,h.bl,h.b0,h.id⟩,λe=>absurd rfl e,λe=>absurd rfl e,?_,λe=>?_,λe=>?_,by simp[Mv.zero]⟩ i (.inr (.inr rfl)) (λe=>absurd rfl e) (λe=>absurd e gF) λe=>absurd e gF
 .show X.b<max (X.b+1) (X.e-1)/\max (X.b+1) (X.e-1)<=K.a.length;omega
 .have e':decide (max (X.b+1) (X.e-1)<X.e)=false:=e;simp only[decide_eq_false_iff_not]at e';show max (X.b+1) (X.e-1)=X.b+1;omega
 have e':decide _=true:=e;simp only[ZX]at e';show max (X.b+1) (X.e-1)<K.a.length;omega
def qh.Mq(h:qh S K X)(i:e<=K.a.length):qh S K {X with e:=e}:=
 ⟨i,h.e0,h.pb,h.sl,h.sc,h.ep,h.me,h.nc,h.hc,h.k,h.an,h.q5,h.q6,h.bg,h.bl,h.b0,h.id⟩
def Cy(h:qh S K X)(H:K.In X.b)(L:1<=X.vo)(A:e<=K.a.length):qh S K (X.iW e)/\Sc X (X.iW e)/\Qg X (X.iW e)/\((X.iW e).mv=X.mv\/X.ib<(X.iW e).mv.A.A.nr):=by
 unfold Cx.iW;split
 .exact⟨h,Sc.refl X,Qg.refl X,.inl rfl⟩
 split
 .obtain⟨M,i,j⟩:=wi (X:={X with e:=e}) ⟨A,H,h.pb,h.bl,h.b0,h.id⟩ L;exact⟨M,⟨i.s,i.e,i.l,i.p,i.r⟩,⟨⟨j.a,j.c,λ_=>.inr (by show X.ib<X.ib+1;omega)⟩,λy=>j.n (y.B rfl rfl ⟨rfl,rfl⟩ (.inr ⟨rfl,rfl⟩) (.inr ⟨rfl,rfl⟩))⟩,.inr (by show X.ib<X.ib+1;omega)⟩
 exact⟨h.Mq A,⟨⟨⟨rfl,rfl⟩,rfl,rfl,rfl⟩,rfl,rfl,rfl,rfl⟩,⟨⟨iK,λc T _=>.inl ⟨c,T,rfl,rfl,rfl⟩,λ_=>.inl ⟨rfl,rfl,rfl⟩⟩,λy=>y.B rfl rfl ⟨rfl,rfl⟩ (.inr ⟨rfl,rfl⟩) (.inr ⟨rfl,rfl⟩)⟩,.inl rfl⟩
def OR(h:qh S K X)(j:K.In X.b):qh S K X.jM/\Sc X X.jM/\Qg X X.jM:=
 ⟨⟨h.tl,h.e0,λ_=>⟨⟨j.1,by have:=j.2;show X.b<=_;omega⟩,rfl⟩,h.sl,h.sc,h.ep,h.me,h.nc,h.hc,h.k,h.an,h.q5,h.q6,h.bg,h.bl,h.b0,h.id⟩,⟨⟨⟨rfl,rfl⟩,rfl,rfl,rfl⟩,rfl,rfl,rfl,rfl⟩,⟨⟨by show X.ib<=X.ib+1;omega,λc i _=>.inl ⟨c,i,rfl,rfl,rfl⟩,λ_=>.inl ⟨rfl,rfl,rfl⟩⟩,λy=>y.Py 1 (by show X.ib<=X.ib+1;omega) (λc i A=>.inl ⟨c,i,A,rfl⟩) (λ_=>.inr ⟨rfl,rfl,by show X.ib<X.ib+1;omega⟩) (λe=>.inl ⟨e,rfl⟩) λe=>.inl ⟨e,rfl⟩⟩⟩
def RL(h:qh S K X)(i:X.mv.A.nodes≠[])(j:X.mv.c=false):qh S K X.qT/\Sc X X.qT/\Qg X X.qT:=
 ⟨⟨h.tl,h.e0,h.pb,λ_=>⟨⟨by have:=(h.me i).1;have:=h.e0;show 0<=X.mv.b;omega,(h.me i).2⟩,rfl⟩,λ_=>⟨j,i⟩,h.ep,h.me,h.nc,h.hc,h.k,h.an,h.q5,h.q6,h.bg,h.bl,h.b0,h.id⟩,⟨⟨⟨rfl,rfl⟩,rfl,rfl,rfl⟩,rfl,rfl,rfl,rfl⟩,⟨⟨by show X.ib<=X.ib+1;omega,λc j _=>.inl ⟨c,j,rfl,rfl,rfl⟩,λ_=>.inl ⟨rfl,rfl,rfl⟩⟩,λy=>y.Py 2 (by show X.ib<=X.ib+1;omega) (λc j i=>.inl ⟨c,j,i,rfl⟩) (λe=>.inl ⟨e,rfl⟩) (λ_=>.inr ⟨rfl,rfl,by show X.ib<X.ib+1;omega⟩) λe=>.inl ⟨e,rfl⟩⟩⟩
def xu(h:0<=X.B)(gP:1000<=X.id/\X.id<=1099)(p):X.B<X.jv p/\1<=X.jv p/\X.jv p%100=X.id-1000:=by unfold Cx.jv;omega
def vI(h:qh S K X)(A:K.In X.b)(L:1<=X.vo)(M:X.mv.A.nodes≠[])(j:X.mv.c=false):qh S K X.lL/\Sc X X.lL/\Qg X X.lL:=by
 unfold Cx.lL;split
 .exact⟨h,Sc.refl X,Qg.refl X⟩
 obtain⟨b1,T,H⟩:=xu h.b0 h.id _;have i:=h.base A M;refine⟨?_,⟨⟨⟨rfl,rfl⟩,rfl,rfl,rfl⟩,rfl,rfl,rfl,rfl⟩,⟨by show X.ib<=X.ib+1;omega,λc j _=>.inl ⟨c,j,rfl,rfl,rfl⟩,λ_=>.inr (by show X.ib<X.ib+1;omega)⟩,λh=>h.A rfl rfl rfl (.inr rfl) rfl⟩;refine Ut.tR (X:={X with B:=X.jv (kC X.mv.D),mv:={X.mv with B:=X.jv _}}) ⟨⟨h.tl,A,h.pb,λe b v x y=>by have:=h.bl e b v x y;show b<=X.jv _;omega,by show 0<=X.jv _;omega,h.id⟩,i.sl,i.sc,i.me,i.nc,i.hc,i.bg⟩ L (.inl rfl) (λ_=>j) (λ_=>⟨rfl,rfl,T,H,λe v x=>?_⟩) λe=>absurd e gF;have:=h.bl e _ v x H;have:X.jv (kC X.mv.D)<=X.B:=this;omega
def Dx(h:qh S K X)(V:K.In X.b)(W:1<=X.vo)(j:X.mv.A.nodes≠[])(i:X.mv.c=false)(h7:X.mv.A.A.kd=7):qh S K X.lj/\Sc X X.lj/\Qg X X.lj:=by
 unfold Cx.lj;split
 .exact⟨⟨h.tl,h.e0,h.pb,h.sl,h.sc,h.ep,h.me,h.nc,h.hc,h.k,h.an,h.q5,h.q6,h.bg,h.bl,h.b0,h.id⟩,⟨⟨⟨rfl,rfl⟩,rfl,rfl,rfl⟩,rfl,rfl,rfl,rfl⟩,⟨⟨iK,λc i _=>.inl ⟨c,i,rfl,rfl,rfl⟩,λ_=>.inl ⟨rfl,rfl,rfl⟩⟩,λy=>y.B rfl rfl ⟨rfl,rfl⟩ (.inr ⟨rfl,rfl⟩) (.inr ⟨rfl,rfl⟩)⟩⟩
 dsimp only;have Y:qh S K {X with wb:=true,mv:={X.mv with D:=X.mv.A.B}}:=⟨h.tl,h.e0,h.pb,h.sl,h.sc,h.ep,h.me,h.nc,h.hc,h.k,h.an,h.q5,h.q6,λz hz hb=>by
  have:=((h.an j z hz).r7 h7).1 hb
  rw[h.ep j]at this
  exact this.1,h.bl,h.b0,h.id⟩
 have Z:Sc X {X with wb:=true,mv:={X.mv with D:=X.mv.A.B}}:=⟨⟨⟨rfl,rfl⟩,rfl,rfl,rfl⟩,rfl,rfl,rfl,rfl⟩;have qY:Qg X {X with wb:=true,mv:={X.mv with D:=X.mv.A.B}}:=⟨⟨iK,λc i _=>.inl ⟨c,i,rfl,rfl,rfl⟩,λ_=>.inl ⟨rfl,rfl,rfl⟩⟩,λy=>y.B rfl rfl ⟨rfl,rfl⟩ (.inr ⟨rfl,rfl⟩) (.inr ⟨rfl,rfl⟩)⟩;split
 .let⟨A,L,M⟩:=vI Y V W j i;exact⟨A,Z.H L,qY.H M⟩
 let⟨s1,T,s3⟩:=RL Y j i;let⟨A,L,M⟩:=vI s1 (by rw[T.e];exact V) (by rw[T.s.2.1];exact W) j i;exact⟨A,(Z.H T).H L,(qY.H s3).H M⟩
def Kn.LA(K:Kn)(e b:Int)(v:List Int):Kn:={K with b:=λe' b' v'=>K.b e' b' v'\/(e'=e/\b'=b/\v'=v)}
def J2(e b)(v):kZ S K (K.LA e b v):=⟨⟨[],by simp[Kn.LA]⟩,λ_=>rb.refl ..,λ_ _=>yj.refl _,λ_ _ _ h=>h,λ_ _ _ h=>.inl h,λ_ _ _ h=>.inl h,λ_ _=>⟨rfl,rfl⟩,λ_ _ _ h=>h,λ_ h=>h,λ_ h=>h⟩
def xq.L(h:xq S K e b v)(k:kZ S K K'):xq S K' e b v:=by
 let⟨Q,y,bm,A,H,L,i⟩:=h;refine⟨Q,y,bm,A,H,L.imp (λe=>e) λe=>k.a _ _ _ e,λq j=>⟨bt (i q j).1 (k.dv q e).pr,λM hb T=>?_⟩⟩;obtain hb|hb:=k.an _ _ _ hb
 .exact(i q j).2 M hb T
 have:=(i q j).1;omega
def TR(h:Kw S K)(i:1<=e/\e<=K.a.length)(j:1<=b)(M:∃l,v=jW l/\nS l (K.lay (e-1)))(T:xq S K e b v)(h5:∀e' H,¬K.b e' b H):Kw S (K.LA e b v):=by
 have A:kZ S K _:=J2 e b v;refine⟨⟨h.l0,h.ls,λe i j=>⟨.inl (h.lc e i j).1,(h.lc e i j).2⟩,λe' b' H x=>?_,λe' b' v1 v2 x y=>?_,h.av,h.pu,h.T9⟩,λu V=>(h.sd u V).L A,λq W=>(h.vd q W).L A,h.va⟩
 .obtain x|⟨rfl,rfl,rfl⟩:=x
  .obtain⟨Y,Z,a3,a4⟩:=h.a _ _ _ x;exact⟨Y,Z,a3,a4.L A⟩
  exact⟨i,j,M,T.L A⟩
 obtain x|⟨rfl,rfl,rfl⟩:=x
 .obtain y|⟨rfl,rfl,rfl⟩:=y
  .exact h.au _ _ _ _ x y
  simp_all
 obtain y|⟨_,_,rfl⟩:=y
 .simp_all
 rfl
def G5{α:Type}{l i:List (Int×α)}(h:i.Sublist l)(j:(l.map (·.1)).Nodup):(i.map (·.1)).Nodup:=j.sublist (h.map _)
def wC{q:Qn Vo}(h:oM q)(j:∀x∈q.nodes,oj S.v x){l:List (Int×Vo)}(i:l.Sublist q.B)(y:S.nP<=l.length):Mj S (l.map (·.1)):=
 ⟨G5 i h.an,iU y,λx A=>by
  obtain⟨z,H,rfl⟩:=aD.1 A
  exact j _ (h.ai z (i.subset H))⟩
def XB.nP(h:XB S K X):X.nP=S.nP:=by unfold Cx.nP Cf.nP;rw[h.v]
theorem EM(h:qh S K X)(Z:XB S K X)(kw:Kw S K)(L:X.mv.A.nodes≠[])(h5:X.mv.A.A.kd=5)(hq:oM X.mv.A)(hi:∀x∈X.mv.A.nodes,oj S.v x):∃K',Kx S K K' X.id/\K'.P0=K.P0/\qh S K' X.kT/\Sc X X.kT/\Qg X X.kT:=by
 have hv:1<=X.vo:=by rw[Z.v];exact S.A.2.2.1.1
 have hc:X.mv.c=false:=by
  cases e:X.mv.c with
  |false=>rfl
  |true=>have:=(h.hc L e).2;rw[h5]at this;exact absurd this gF
 obtain⟨p1,p2,p3,p4,p5⟩:=h.q5 L h5;have a2:=h.ep L;have a8:=h.me L;have a9:=h.nc L hc;unfold Cx.kT;dsimp only;split
 .exact⟨K,Kx.refl kw,rfl,h,Sc.refl X,Qg.refl X⟩
 rename_i V;rw[Z.nP]at V;let⟨v,a0⟩:=gJ (jP (X.mW (nA X.mv.A.B)));rw[a0]at V|-;let⟨val,i⟩:=gJ (if v.1=0 then X.kF.getD []else v.2);rw[i];have sc:Sc X (({X with mv:={X.mv with value:=val}}:Cx).lH 6 X.mv.B val):=⟨⟨⟨rfl,rfl⟩,rfl,rfl,rfl⟩,rfl,rfl,rfl,rfl⟩;have qg:Qg X (({X with mv:={X.mv with value:=val}}:Cx).lH 6 X.mv.B val):=⟨⟨by show X.ib<=X.ib+1;omega,λc hc _=>.inl ⟨c,hc,rfl,rfl,rfl⟩,λ_=>.inr (by show X.ib<X.ib+1;omega)⟩,λh=>h.A rfl rfl rfl (.inr rfl) rfl⟩;have H:=h.base Z.e L;by_cases a3:val=[]
 .refine⟨K,Kx.refl kw,rfl,?_,sc,qg⟩;exact Ut.tR (X:={X with mv:={X.mv with value:=val}}) ⟨⟨h.tl,Z.e,h.pb,h.bl,h.b0,h.id⟩,H.sl,H.sc,H.me,H.nc,H.hc,H.bg⟩ hv (.inr (.inl rfl)) (λ_=>hc) (λe=>absurd e gF) λ_=>⟨rfl,rfl,λe=>absurd a3 e⟩
 --the jP zr
 have W:v=(0,[])\/∃z∈X.mv.A.B,z.2.wh=1/\v=(z.2.ba,z.2.val):=by
  obtain e|⟨z,W,e⟩:=qH (X.mW (nA X.mv.A.B))
  .exact .inl (a0.symm.H e)
  have h1:=(sG X _).subset W;let⟨h2,h3⟩:=aU.1 h1;exact .inr ⟨z,h2,iU h3,a0.symm.H e⟩
 have a4:0<=v.1/\v.1<X.mv.B:=by
  obtain e|⟨z,h1,h2,e⟩:=W
  .rw[e];exact⟨iK,by show 0<X.mv.B;omega⟩
  have M:=h.an L z h1;rw[e];refine⟨M.b0,?_⟩;have:=(M.p5 h5 h2).2.1;show z.2.ba<_;rwa[p1]at this
 have a5:v.1≠0->K.b X.mv.b v.1 v.2:=λT=>by
  obtain e|⟨z,h1,h2,e⟩:=W
  .rw[e]at T;exact absurd rfl T
  have M:=h.an L z h1;have:=(M.p5 h5 h2).2.2.1 (by have:=M.b0;rw[e]at T;have:z.2.ba≠0:=T;omega);rw[a2]at this;rw[e];exact this
 have a1:xq S K X.mv.b X.mv.B val:=by
  have a6:(zU v.1 (nA X.mv.A.B)).Sublist X.mv.A.B:=cE.H cE;have aa:=wC hq hi a6 C;refine⟨_,aa,v.1,a4.1,a4.2,?_,λq ab=>?_⟩
  .by_cases h0:v.1=0
   .exact .inl h0
   rw[az h0]at i;rw[<-i];exact .inr (a5 h0)
  obtain⟨z,ac,rfl⟩:=aD.1 ab;let⟨z1,z2⟩:=aU.1 ac;let⟨z3,z4⟩:=aU.1 z1;simp at z2 z4;have M:=(h.an L z z3).p5 h5 z4;rw[a2,p1]at M;refine⟨M.1,λb2 ad ja=>?_⟩;obtain q|q:=M.2.2.2 b2 ad<;>omega
 have a7:∃l,val=jW l/\nS l (K.lay (X.mv.b-1)):=by
  by_cases h0:v.1=0
  .rw[aE h0]at i
   cases Y:X.kF with
   |none=>rw[Y]at i;exact absurd i.symm a3
   |some pv=>
    rw[Y]at i;have ag:pv=val:=i;subst ag;unfold Cx.kF at Y;split at Y
    .rename_i A;simp at Y;obtain e|⟨z,W,e⟩:=qH (X.mW X.mv.D)
     .rw[e]at A;exact absurd A gF
     rw[e]at A Y;have ai:=(sG X _).subset W;have:=kw.a _ _ _ (h.bg z ai A);rw[<-Y];exact this.2.2.1
    obtain⟨R,hR,e⟩:=bN.1 Y;let⟨r1,_⟩:=Cx.xp hR;refine⟨R,e.symm,?_⟩;rw[a9,show X.b+1-1=X.b by omega,<-Z.l];exact r1
  rw[az h0]at i;rw[<-i];exact(kw.a _ _ _ (a5 h0)).2.2.1
 have ak:1<=X.mv.b:=by have:=Z.e.1;omega
 have kl:kZ S K (K.LA X.mv.b X.mv.B val):=J2 _ _ _;refine⟨K.LA X.mv.b X.mv.B val,⟨kl,TR kw ⟨ak,a8.2⟩ p3 a7 a1 p5,λcl ca _=>λ_ _ _ _ _ x=>x,λj j1 j2 j3 e b v x y=>?_,rfl,rfl,rfl,rfl,rfl⟩,rfl,?_,sc,qg⟩
 .obtain x|⟨_,rfl,_⟩:=x
  .exact x
  omega
 exact Ut.tR (K:=K.LA X.mv.b X.mv.B val) (X:={X with mv:={X.mv with value:=val}}) ⟨⟨h.tl,Z.e,h.pb,λe b v x y=>by
  obtain x|⟨_,rfl,_⟩:=x
  .exact h.bl e b v x y
  .show X.mv.B<=X.B;omega,h.b0,h.id⟩,H.sl,H.sc,H.me,H.nc,H.hc,λz W e=>.inl (H.bg z W e)⟩ hv (.inr (.inl rfl)) (λ_=>hc) (λe=>absurd e gF) λ_=>⟨rfl,rfl,λ_=>.inr ⟨rfl,rfl,rfl⟩⟩
end
def yF(J:Jq)(gQ:Ct->Int->Prop)(K K':Kn):Prop:=∀t a e,K'.P0 t a e->(∃e',K.P0 t a e')\/(∃k u,J k 3 t u a)\/gQ t a
def G0:Ct->Int->Prop:=λ_ _=>False
section
variable{F:Nat->Fl}{J J':Jq}{P':Nat->Prop}
def yF.B(h:K'.P0=K.P0):yF J G K K':=λt a e x=>.inl ⟨e,jJ h x⟩
def yF.H(h:yF J G K K')(k:yF J G K' K2):yF J G K K2:=λt a e x=>by
 obtain⟨e',x⟩|x:=k t a e x
 .exact h t a e' x
 simp_all
def Kn.Be(K:Kn)(l:List (List Int))(b:Int)(Q:List Int):Kn:={K with a:=K.a++[l],cb:=λe=>if e=K.a.length then b else K.cb e,cq:=λe=>if e=K.a.length then Q else K.cq e}
def Kb(l)(b)(Q):kZ S K (K.Be l b Q):=⟨⟨[l],rfl⟩,λ_=>rb.refl ..,λ_ _=>yj.refl _,λ_ _ _ h=>h,λ_ _ _ h=>.inl h,λ_ _ _ h=>h,λe i=>⟨az C,az C⟩,λ_ _ _ h=>h,λ_ h=>h,λ_ h=>h⟩
def EC(l)(b)(Q):(K.Be l b Q).lay (K.a.length:Nat)=l:=by unfold Kn.lay Kn.Be;simp
def TQ(h:Kw S K)(h1:K.b K.a.length b (jW l))(h2:nS l (K.lay (K.a.length-1)))(hQ:Mj S Q)(hv:∀q∈Q,K.d q K.a.length b):Kw S (K.Be l b Q):=by
 have y:kZ S K (K.Be l b Q):=Kb l b Q;have hp:=h.pos;refine⟨⟨?_,λe R L e1 e2=>?_,λe M T=>?_,λe b' v x=>?_,h.au,h.av,h.pu,h.T9⟩,λu hu=>(h.sd u hu).L y,λq hq=>(h.vd q hq).L y,h.va⟩
 .show(K.a++[l])[0]?=_;rw[aB C];exact h.l0
 .have j:(K.a++[l])[e]?=some L:=e1;have i:(K.a++[l])[e+1]?=some R:=e2;by_cases V:e+1<K.a.length
  .rw[aB C]at j i;exact h.ls e R L j i
  have A:=(aj.1 i).1;simp at A;have W:e+1=K.a.length:=C;rw[aB C]at j;rw[W,aC jl]at i;simp at i;subst i;have:K.lay (K.a.length-1)=L:=by unfold Kn.lay;rw[show((K.a.length:Int)-1).toNat=e by omega,aS,j];rfl
  rw[<-this];exact h2
 .have H:e<(K.a++[l]).length:=T;simp at H;by_cases V:e<K.a.length
  .obtain⟨c1,c2,c3⟩:=h.lc e M V;obtain⟨Y,Z⟩:=y.cb e V;rw[Y,Z,y.lay ⟨C,C⟩];exact⟨c1,c2,c3⟩
  have W:e=K.a.length:=C;subst W;rw[EC];have Y:(K.Be l b Q).cb K.a.length=b:=aE rfl;have Z:(K.Be l b Q).cq K.a.length=Q:=aE rfl;rw[Y,Z];exact⟨h1,hQ,hv⟩
 obtain⟨a1,a2,a3,a4⟩:=h.a _ _ _ x;refine⟨⟨a1.1,by show e<=((K.a++[l]).length:Int);simp;omega⟩,a2,?_,a4.L y⟩;rw[y.lay ⟨C,C⟩];exact a3
def PL(i:Kw S K){id:Int}{val:List Int}(L:1<=e/\e<=K.a.length)(h:K.b e b val)(y:Mj S Q)(A:∀q∈Q,K.d q e b):∃K',Kx S K K' id/\K'.P0=K.P0/\K'.b=K.b/\K'.In e/\val=jW (K'.lay e):=by
 by_cases H:e<K.a.length
 .exact⟨K,Kx.refl i,rfl,rfl,⟨C,H⟩,Lu i.toKv ⟨C,H⟩ L.1 h y A⟩
 have M:e=K.a.length:=C;subst M;obtain⟨_,_,⟨l,rfl,T⟩,_⟩:=i.a _ _ _ h;have V:kZ S K (K.Be l b Q):=Kb l b Q;refine⟨K.Be l b Q,⟨V,TQ i h T y A,λW Y _=>λ_ _ _ _ _ x=>x,λj _ _ _=>λ_ _ _ x _=>x,rfl,rfl,rfl,rfl,rfl⟩,rfl,rfl,⟨C,?_⟩,?_⟩
 .show(_:Int)<((K.a++[l]).length:Int);simp;omega
 rw[show(K.Be l b Q).lay _=l from EC l b Q]
def KW(h:XI S K F J P X)(L:Kw S K)(Z:c∈X.a){E0:Int}(hE:E0<=X.b)(y:qI S K (F c.gU) J X.id E0 c):∃K',Kx S K K' X.id/\(∀i:Int,i≠c.gU->uO K K' X.id i)/\yF J G K K'/\XI S K' F J (λn=>P n\/n=c.gU) (X.kP c)/\Qg X (X.kP c):=by
 have T:=h.b;have lU:c.q.nodes=[]->c.kind=1\/c.kind=5->∃K',Kx S K K' X.id/\(∀i:Int,i≠c.gU->uO K K' X.id i)/\yF J G K K'/\XI S K' F J (λn=>P n\/n=c.gU) X/\Qg X X:=λY hk=>by
  have a0:qI S K (F c.gU) J X.id X.b c:=⟨y.toCb.L L.toKv (kZ.refl ..) (uO.refl K _ _) (λ_ _ _ _ _ x=>x) hE,y.g1,y.o1,y.tR,y.a5,y.qk,λe=>absurd Y e,λe=>absurd Y e,λe=>absurd Y e,λe=>absurd Y e⟩;refine⟨K,Kx.refl L,λi _=>uO.refl K _ i,yF.B rfl,⟨h.b,λd hd hP=>?_,h.c,h.f,h.nd,h.mv⟩,Qg.refl X⟩;obtain hP|hP:=hP
  .exact h.d d hd hP
  rw[h.nd d hd c Z hP];exact a0
 have fin:∀r,r.wh≠0->Rf S K (F c.gU) J X.id c.gU r->∃K',Kx S K K' X.id/\(∀i:Int,i≠c.gU->uO K K' X.id i)/\yF J G K K'/\XI S K' F J (λn=>P n\/n=c.gU) (X.fin c r)/\Qg X (X.fin c r):=λr H hr=>by obtain⟨x1,x2⟩:=h.step (c:=c) L (kZ.refl ..) (λcl i _=>uO.refl K cl i) rfl Z (.fin r rfl hr H);exact⟨K,Kx.refl L,λi _=>uO.refl K _ i,yF.B rfl,x1,x2⟩
 unfold Cx.kP;by_cases M:c.kind=5
 .rw[aE M];unfold Cx.kE;have hl:X.lay.getD (c.unit/X.m).toNat []=(K.lay X.b).getD (c.unit/S.m).toNat []:=by rw[T.l,T.m]
  rw[hl];split
  .rename_i A;split
   .rename_i V;refine fin _ gF ⟨c.kind,c.ie,c.unit,c.ij,y.st,y.oc,.inr (.inr (.inr ⟨M,.inr ⟨rfl,X.b,T.e,?_⟩⟩))⟩;obtain⟨x,hx⟩:=List.length_eq_one_iff.1 V;rw[hx]at A|-;simp at A;rw[A]
   exact lU (y.a5 M) (.inr M)
  rename_i A;refine fin _ gF ⟨c.kind,c.ie,c.unit,c.ij,y.st,y.oc,.inr (.inr (.inr ⟨M,.inl ⟨rfl,X.b,T.e,?_⟩⟩))⟩;simpa using A
 rw[az M];by_cases H:Cx.ml c=true
 .rw[aE H];unfold Cx.ml Qn.T at H;simp at H;exact lU H.2 (.inl H.1)
 rw[az H];have W:c.kind=1->c.q.nodes≠[]:=λe e'=>H (by unfold Cx.ml Qn.T;simp[e,e']);obtain⟨K',k1,k2,k3,k4,k5,k6,k7,k8,k9,a1,a2,a3⟩:=JP T L (y.toCb.L L.toKv (kZ.refl ..) (uO.refl K _ _) (λ_ _ _ _ _ x=>x) hE) M λe=>(y.o1 e (W e)).1;obtain⟨x1,x2⟩:=h.step (c:=c) L k1 k3 k4 Z a3;refine⟨K',⟨k1,k2,λcl i a4=>k3 cl i λe=>a4 e.1,λj _ _ _=>λe b v x _=>jJ k4 x,k7,a1,a2,k8,k9⟩,λi a5=>k3 _ _ λe=>a5 e.2,λt a e x=>?_,x1,x2⟩;obtain x|⟨rfl,rfl,x|x⟩:=k6 t a e x
 .exact .inl ⟨e,x⟩
 .exact .inl (y.o1 x (W x)).2
 exact .inr (.inl ⟨c.gU,c.unit,by rw[<-x];exact y.st⟩)
def M9(X:Cx)(c):(X.kP c).id=X.id/\(X.kP c).b=X.b/\(X.kP c).n=X.n/\(X.kP c).vo=X.vo/\(X.kP c).mv=X.mv/\(X.kP c).e=X.e:=by
 unfold Cx.kP Cx.kE Cx.dO;repeat' split
 all_goals exact⟨rfl,rfl,rfl,rfl,rfl,rfl⟩
theorem FE:∀(l:List jz) {K:Kn} {P:Nat->Prop} {X:Cx},XI S K F J P X->Kw S K->(∀c∈l,c∈X.a/\∃A,A<=X.b/\K.In A/\qI S K (F c.gU) J X.id A c)->l.Pairwise (λc d=>c.gU≠d.gU)->∃K',Kx S K K' X.id/\yF J G K K'/\XI S K' F J (λn=>P n\/∃c∈l,c.gU=n) (l.foldl Cx.kP X)/\Qg X (l.foldl Cx.kP X)/\(l.foldl Cx.kP X).id=X.id/\(l.foldl Cx.kP X).vo=X.vo
 |[],K,P,X,h,H,_,_=>⟨K,Kx.refl H,yF.B rfl,⟨h.b,λd i y=>h.d d i (y.resolve_right gG),h.c,h.f,h.nd,h.mv⟩,Qg.refl X,rfl,rfl⟩
 |c::l,K,P,X,h,H,Y,hp=>by
  obtain⟨M,T⟩:=cI.1 hp;let⟨c1,A,c2,c3,c4⟩:=Y c (aN ..);let⟨K',L,k2,k3,k4,k5⟩:=KW (G:=G) h H c1 c2 c4;let⟨V,s2,_,s4,_⟩:=M9 X c;let⟨K2,Z,q2,j,q4,q5,q6⟩:=FE l (X:=X.kP c) k4 L.w (λd i=>by
   obtain⟨d1,E1,d2,d3,d4⟩:=Y d (aX _ i)
   have W:=M d i
   exact⟨Cj d1 λe=>W e.symm,E1,jk s2 d2,d3.L L.tokZ,by rw[V];exact d4.L H.toKv L.tokZ d3 (k2 _ C) λ_ _ _ _ _ x=>x⟩) T
  refine⟨K2,L.H (by rwa[V]at Z),k3.H q2,⟨j.b,λd i y=>j.d d i ?_,j.c,j.f,j.nd,j.mv⟩,k5.H q4,q5.H V,q6.H s4⟩;obtain y|⟨d',hd',e⟩:=y
  .exact .inl (.inl y)
  obtain rfl|hd':=bh.1 hd'
  .exact .inl (.inr e.symm)
  exact .inr ⟨d',hd',e⟩
def CU(h:VX K X)(j:X.mv=Mv.zero):qh S K X:=by
 have i:¬X.mv.A.nodes≠[]:=by rw[j];exact λe=>e rfl
 have y:¬X.mv.a.nodes≠[]:=by rw[j];exact λe=>e rfl
 exact⟨h.tl,h.e.1,h.pb,λe=>absurd e y,λe=>absurd e y,λe=>absurd e i,λe=>absurd e i,λe=>absurd e i,λe=>absurd e i,λe=>absurd e i,λe=>absurd e i,λe=>absurd e i,λe=>absurd e i,by rw[j];simp[Mv.zero],h.bl,h.b0,h.id⟩
def Cx.jU(X:Cx)(l:List (List Int)):Cx:={X with b:=X.mv.b,lay:=l,mv:=Mv.zero,wb:=false,wl:=false}
def Og(h:within X.lay v=some l):X.oK v=if((X.a.foldl Cx.kP (X.jU l)).jn||decide ((X.a.foldl Cx.kP (X.jU l)).b<(X.a.foldl Cx.kP (X.jU l)).e))=true then(X.a.foldl Cx.kP (X.jU l)).jH else X.a.foldl Cx.kP (X.jU l):=by unfold Cx.oK;rw[h];rfl
theorem FI(h:XI S K F J (λ_=>True) X)(kw:Kw S K)(a0:X.a.Pairwise λc d=>c.gU<d.gU)(hi:K.In X.mv.b)(ja:X.b<=X.mv.b)(hv:v=jW (K.lay X.mv.b)):∃K',Kx S K K' X.id/\yF J G K K'/\XI S K' F J (λ_=>True) (X.oK v)/\Qg X (X.oK v):=by
 have j:=h.b;have hw:within X.lay v=some (K.lay X.mv.b):=by rw[hv,j.l];exact zK (kw.sub hi j.e.1 ja) (kw.all j.e).1
 have a1:1<=X.vo:=by rw[j.v];exact S.A.2.2.1.1
 rw[Og hw];let⟨Z,W⟩:=gJ (X.a.foldl Cx.kP (X.jU (K.lay X.mv.b)));rw[W];let⟨Y,hY⟩:=gJ (X.jU (K.lay X.mv.b):Cx);rw[hY]at W;have M:Y.id=X.id/\Y.b=X.mv.b/\Y.a=X.a/\Y.vo=X.vo:=by rw[<-hY];exact⟨rfl,rfl,rfl,rfl⟩
 have a2:XI S K F J (λ_=>False) Y:=by rw[<-hY];exact⟨⟨j.n,j.m,j.v,j.c,hi,rfl⟩,λ_ _ e=>e.elim,h.c,h.f,h.nd,CU ⟨h.mv.tl,hi,h.mv.pb,h.mv.bl,h.mv.b0,h.mv.id⟩ rfl⟩
 have qY:Qg X Y:=by rw[<-hY];exact Qg.of rfl rfl (.inl rfl) ⟨rfl,rfl⟩ (.inl rfl)
 let⟨K',k1,k2,y,k4,k5,k6⟩:=FE (G:=G) X.a a2 kw (λc hc=>⟨jk M.2.2.1 hc,X.b,jk M.2.1 ja,j.e,by rw[M.1];exact h.d c hc trivial⟩) (a0.imp λe=>C);rw[M.1]at k1;rw[W]at y k4 k5 k6;have L:XI S K' F J (λ_=>True) Z:=⟨y.b,λd i _=>y.d d i ?_,y.c,y.f,y.nd,y.mv⟩
 .split
  .let⟨m1,m2,m3⟩:=wi (S:=S) (X:=Z) (y.mv.a y.b.e) (by rw[k6,M.2.2.2];exact a1);exact⟨K',k1,k2,L.sc m2 m1,(qY.H k4).H m3⟩
  exact⟨K',k1,k2,L,qY.H k4⟩
 right;have T:∀(l:List jz) (V:Cx) (d:jz),d∈(l.foldl Cx.kP V).a->∃c∈V.a,c.gU=d.gU:=by
  intro l;induction l with
  |nil=>exact λV d i=>⟨d,i,rfl⟩
  |cons c l ih=>
   intro V d i;let⟨c',A,e⟩:=ih (V.kP c) d i;have a3:∀(V:Cx) (c:jz) (d:jz),d∈(V.kP c).a->∃c'∈V.a,c'.gU=d.gU:=by
    intro V c d i;unfold Cx.kP Cx.kE Cx.dO at i;have hp:∀(V:Cx) (c:jz),d∈(V.put c).a->∃c'∈V.a,c'.gU=d.gU:=λV c i=>(Gf (X:=V) (c':=c) d.gU).2 ⟨d,i,rfl⟩;have hf:∀(V:Cx) (c:jz) (r:Rz),d∈(V.fin c r).a->∃c'∈V.a,c'.gU=d.gU:=λV c r i=>⟨d,(aU.1 i).1,rfl⟩;repeat' split at i
    all_goals first|exact⟨d,i,rfl⟩|exact hf _ _ _ i|exact hp {V with ib:=V.ib+1} _ i
   let⟨c2,h2,e2⟩:=a3 V c c' A;exact⟨c2,h2,e2.H e⟩
 let⟨c',A,e⟩:=T X.a Y d (jk W i);rw[M.2.2.1]at A;exact⟨c',A,e⟩
end
def Dq(S:Cf)(K:Kn)(F:Nat->Fl)(J:Jq)(gQ:Ct->Int->Prop)(X X':Cx):Prop:=∃K',Kx S K K' X.id/\yF J gQ K K'/\XI S K' F J (λ_=>True) X'/\Qg X X'
theorem IM(l):∀z∈l,z.2.ba<=(jP l).1:=by
 have step:∀(b:Int×List Int) (v:Vo),b.1<=(qA b v).1/\v.ba<=(qA b v).1:=λb v=>by
  unfold qA;split
  .rename_i h;simp at h;omega
  simp_all
 have i:∀(l:List (Int×Vo)) (b:Int×List Int),b.1<=(l.foldl (λb z=>qA b z.2) b).1/\∀z∈l,z.2.ba<=(l.foldl (λb z=>qA b z.2) b).1:=by
  intro l;induction l with
  |nil=>exact λb=>⟨iK,gG⟩
  |cons y l A=>
   intro b;let⟨j,F⟩:=A (qA b y.2);let⟨H,L⟩:=step b y.2;refine⟨bt H j,λz hz=>?_⟩;obtain rfl|hz:=bh.1 hz
   .exact bt L j
   exact F z hz
 exact(i l (0,[])).2
section
variable{F:Nat->Fl}{J J':Jq}{b:Bd}
def Dq.B(h:XI S K F J (λ_=>True) X)(i:Kw S K):Dq S K F J G X X:=⟨K,Kx.refl i,yF.B rfl,h,Qg.refl X⟩
def Dq.mv(h:XI S K F J (λ_=>True) X)(j:Kw S K)(i:qh S K X'/\Sc X X'/\Qg X X'):Dq S K F J G X X':=⟨K,Kx.refl j,yF.B rfl,h.sc i.2.1 i.1,i.2.2⟩
def XB.VN(h:XB S K X):1<=X.vo:=by rw[h.v];exact S.A.2.2.1.1
def FG(h:XI S K F J (λ_=>True) X)(L:Kw S K)(i:X.a.Pairwise λc d=>c.gU<d.gU)(V:X.mv.A.nodes≠[]){M:Int}{val:List Int}(j:K.b X.mv.b M val)(W:Mj S Q)(Y:∀q∈Q,K.d q X.mv.b M):Dq S K F J G X (X.oK val):=by have y:=h.mv.me V;have he:=h.b.e.1;obtain⟨Z,A,T,k3,k4,k5⟩:=PL (id:=X.id) L ⟨C,y.2⟩ j W Y;have h1:XI S Z F J _ X:=h.L L.toKv A.tokZ (λca=>λt a e _ _ x=>jJ T x) (λe b v x _=>jJ k3 x) λ_ _ _ _ _ x=>x;obtain⟨K2,q1,q2,q3,q4⟩:=FI h1 A.w i k4 C k5;exact⟨K2,A.H q1,(yF.B T).H q2,q3,q4⟩
def Em(h:XI S K F J (λ_=>True) X)(L:Kw S K)(hx:Xk b X)(M:X.mv.A.nodes≠[])(h7:X.mv.A.A.kd=7):Dq S K F J G X X.mM:=by
 have T:=h.b;have hq:oM X.mv.A:=oM.of hx.vt;have hi:∀x∈X.mv.A.nodes,oj S.v x:=λx a1=>by rw[<-T.v];exact hx.vt.id x a1
 have a2:=h.mv.ep M;have j:∀z∈X.mv.A.B,0<=z.2.ba/\(0<z.2.ba->K.b X.mv.b z.2.ba z.2.val/\K.d z.1 X.mv.b z.2.ba)/\(X.mv.c=true->z.1∈K.cq X.mv.b.toNat->K.cb X.mv.b.toNat<=z.2.ba):=λz V=>by have ha:=h.mv.an M z V;have W:=ha.r7 h7;rw[a2]at W;exact⟨ha.b0,W⟩
 unfold Cx.mM;dsimp only;split
 .rename_i i;unfold sO at i|-;rcases qH (X.mv.A.B.filter λz=>decide (X.nP<=(X.mv.A.B.filter λy=>y.2.ba==z.2.ba).length))with e|⟨z,V,e⟩
  .rw[e]at i;exact absurd i gF
  rw[e]at i|-;let⟨z1,z2⟩:=aU.1 V;simp only[ZX]at z2;rw[T.nP]at z2;have Y:(X.mv.A.B.filter λy=>y.2.ba==z.2.ba).Sublist X.mv.A.B:=cE;refine FG h L hx.a.gU M ((j z z1).2.1 i).1 (wC hq hi Y z2) λq a3=>?_;obtain⟨y,hy,rfl⟩:=aD.1 a3;let⟨y1,y2⟩:=aU.1 hy;have y3:y.2.ba=z.2.ba:=iU y2;have:=((j y y1).2.1 (jk y3 i)).2;rwa[y3]at this
 split
 .exact Dq.B h L
 rename_i Z;split
 .rename_i A;have hc:=h.mv.hc M A;have a6:=h.mv.me M;have a7:=T.e.1;have a0:K.In X.mv.b:=⟨C,hc.1⟩;obtain⟨c1,c2,c3⟩:=L.lc X.mv.b.toNat C (gS hc.1);rw[T.nP]at Z;obtain⟨q,q1,q2⟩:=PB c2 (wC hq hi (dy _) C);obtain⟨y,hy,rfl⟩:=aD.1 q2;have H:=IM X.mv.A.B y hy;have a8:=(j y hy).2.2 A q1;have a9:=(L.a _ _ _ c1).2.1;obtain e|⟨z,V,e⟩:=qH X.mv.A.B
  .rw[e]at H;have:y.2.ba<=0:=H;omega
  rw[e]at H|-;have a5:y.2.ba<=z.2.ba:=H;have a4:=((j z V).2.1 C).1;let⟨K2,r1,r2,r3,r4⟩:=FI (G:=G) h L hx.a.gU a0 C (Mo L.toKv a0 C a4 C);exact⟨K2,r1,r2,r3,r4⟩
 rename_i A;exact Dq.mv h L (Dx h.mv T.e T.VN M (iU A) h7)
def Fs(h:XI S K F J (λ_=>True) X)(W:Kw S K)(L:Xk b X)(H:X.mv.A.nodes≠[])(Y:X.mv.A.A.kd=6):Dq S K F J G X X.nC:=by
 have Z:=h.b;have hq:oM X.mv.A:=oM.of L.vt;have hi:∀x∈X.mv.A.nodes,oj S.v x:=λx M=>by rw[<-Z.v];exact L.vt.id x M
 have a0:=h.mv.ep H;obtain⟨p1,p2,_⟩:=h.mv.q6 H Y;unfold Cx.nC;split
 .rename_i i;rw[Z.nP]at i;have j:(nA X.mv.A.B).Sublist X.mv.A.B:=cE;have A:∀z∈nA X.mv.A.B,K.d z.1 X.mv.b X.mv.B/\K.b X.mv.b X.mv.B X.mv.value:=λz T=>by let⟨z1,z2⟩:=aU.1 T;have:=(h.mv.an H z z1).a6 Y (iU z2);simp_all
  obtain⟨z,T⟩:=List.exists_mem_of_length_pos (l:=nA X.mv.A.B) (by unfold Cf.nP at i;omega);refine FG h W L.a.gU H (A z T).2 (wC hq hi j i) λq V=>?_;obtain⟨y,hy,rfl⟩:=aD.1 V;exact(A y hy).1
 exact Dq.B h W
def xQ(h:XI S K F J (λ_=>True) X)(A:Kw S K)(M:Xk b X)(Y:X.mv.A.nodes≠[])(Z:X.mv.A.A.kd=5):Dq S K F J G X X.kT:=by
 have j:=h.b;let⟨K',y,T,k3,k4,k5⟩:=EM h.mv j A Y Z (oM.of M.vt) λx H=>by rw[<-j.v];exact M.vt.id x H
 refine⟨K',y,yF.B T,?_,k5⟩;have V:∀ca:Int,uO K K' X.id ca:=λca=>λt a e _ _ x=>jJ T x;obtain⟨⟨⟨s1,s2⟩,s3,s4,W⟩,e,l,p,r⟩:=k4;have i:=j.L y.tokZ;exact⟨⟨s1.H i.n,s2.H i.m,s3.H i.v,s4.H i.c,by rw[e];exact i.e,by rw[l,e];exact i.l⟩,by rw[p,W,e];exact λc hc hP=>(h.d c hc hP).L A.toKv y.tokZ j.e (V _) λ_ _ _ _ _ x=>x,by rw[r,W];exact λn r hr hw=>(h.c n r hr hw).L A.toKv y.tokZ (V _) λ_ _ _ _ _ x=>x,by rw[p,r];exact h.f,by rw[p];exact h.nd,k3⟩
def IF(h:XI S K F J (λ_=>True) X)(i:Kw S K)(y:Xk b X)(A:X.mv.a.nodes≠[]):Dq S K F J G X X.mD:=by
 obtain⟨H,j⟩:=h.mv.sc A;unfold Cx.mD;split
 .exact Dq.mv h i (vI h.mv h.b.e h.b.VN j H)
 split
 .rename_i L;exact xQ h i y j L
 exact Dq.B h i
def QI(h:XI S K F J (λ_=>True) X)(kw:Kw S K)(hx:Xk b X){fr nr lt:Int}{v:Vo}(hv:Bg b v)(hl:0<=lt/\lt<=b.E+1)(ja:lt<=K.a.length)(a6:nr<=X.ib)(ha:X.mv.A.nodes≠[]->X.mv.A.A.nr=nr->fr∈X.mv.A.nodes->Ee S K X.mv.c X.mv.A.A (fr,v)):Dq S K F J G X (X.sg fr nr lt v):=by
 unfold Cx.sg;split
 .rename_i hw;obtain⟨w1,w2,w3⟩:=Qn.oO.1 hw;dsimp only;let⟨m1,m2,m3,m4⟩:=Cy h.mv h.b.e h.b.VN ja;have hY:=h.sc m2 m1;have a0:=hx.iW hl;split
  .rename_i L;obtain⟨v1,v2,v3⟩:=Qn.oO.1 L;have M:(X.iW lt).mv=X.mv:=by
    obtain m4|m4:=m4
    .exact m4
    omega
   have hn:X.mv.A.nodes≠[]:=bM w2;have a1:=ha hn w1 w2;let⟨Y,a4⟩:=gJ (X.iW lt);rw[a4]at hY a0 L M m2 m3|-;let⟨Z,j⟩:=gJ (({Y with mv:={Y.mv with A:=Y.mv.A.add fr v,D:=if Y.mv.A.A.kd=7/\Y.mv.D≠[]then Y.mv.A.B++[(fr,v)]else Y.mv.D}}:Cx):Cx);have T:Xk (b.up 1) Z:=by rw[<-j];exact a0.M (hv.L (b.A gF).toln) L
   have sZ:Sc Y Z:=by rw[<-j];exact⟨⟨⟨rfl,rfl⟩,rfl,rfl,rfl⟩,rfl,rfl,rfl,rfl⟩
   have qZ:Qg Y Z:=by rw[<-j];exact Qg.of rfl rfl (.inr ⟨rfl,rfl,rfl⟩) ⟨rfl,rfl⟩ (.inr ⟨rfl,rfl⟩)
   have V:Y.mv.A.nodes≠[]:=jk M hn;have a2:Ee S K Y.mv.c Y.mv.A.A (fr,v):=jk M a1;have a5:qh S K Z:=by
    have i:=hY.mv;rw[<-j];refine⟨i.tl,i.e0,i.pb,i.sl,i.sc,i.ep,i.me,i.nc,i.hc,i.k,λe z hz=>?_,i.q5,i.q6,λz hz hb=>?_,i.bl,i.b0,i.id⟩
    .obtain hz|hz:=aT.1 hz
     .exact i.an e z hz
     simp at hz;subst hz;exact a2
    have hz':z∈(if Y.mv.A.A.kd=7/\Y.mv.D≠[]then Y.mv.A.B++[(fr,v)]else Y.mv.D):=hz;split at hz'
    .rename_i h7;have a3:∀z,Ee S K Y.mv.c Y.mv.A.A z->0<z.2.ba->K.b Y.mv.b z.2.ba z.2.val:=λz hz hb=>by have:=((hz.r7 h7.1).1 hb).1;rwa[i.ep V]at this
     obtain hz'|hz':=aT.1 hz'
     .exact a3 z (i.an V z hz') hb
     simp at hz';subst hz';exact a3 _ a2 hb
    exact i.bg z hz' hb
   have y:XI S K F J (λ_=>True) Z:=hY.sc sZ a5;have W:Z.mv.A.nodes≠[]:=jJ j V;have gP:Z.id=X.id:=sZ.s.2.2.2.H m2.s.2.2.2;have fin:∀X2,Dq S K F J G Z X2->Dq S K F J G X X2:=λX2⟨K',d1,d2,d3,d4⟩=>⟨K',by rwa[gP]at d1,d2,d3,(m3.H qZ).H d4⟩;split
   .rename_i k;have q:=fin _ (Em y kw T W (jJ j k));rwa[<-j]at q
   split
   .rename_i k;have q:=fin _ (xQ y kw T W (jJ j k));rwa[<-j]at q
   split
   .rename_i k;have q:=fin _ (Fs y kw T W (jJ j k));rwa[<-j]at q
   have q:=fin _ (Dq.B y kw);rwa[<-j]at q
  exact⟨K,Kx.refl kw,yF.B rfl,hY,m3⟩
 exact Dq.B h kw
def JA(h:XI S K F J (λ_=>True) X)(V:Kw S K)(L:Xk b X){fr nr:Int}{A:An}(hA:DC b A)(h5:A.wh=5->A.ep<=K.a.length)(ha:∀c∈X.a,c.q.A.nr=nr->fr∈c.q.nodes->sN S K (F c.gU) fr c.q.A A):Dq S K F J G X (X.kI fr nr A):=by
 have W:A.wh=5->Dq S K F J G X (X.iW A.ep):=λe=>by let⟨m1,m2,m3,_⟩:=Cy h.mv h.b.e h.b.VN (h5 e);exact Dq.mv h V ⟨m1,m2,m3⟩
 unfold Cx.kI;split
 .split
  .rename_i e;exact W e
  have i:=h.mv;exact Dq.mv h V ⟨⟨i.tl,i.e0,i.pb,i.sl,i.sc,i.ep,i.me,i.nc,i.hc,i.k,i.an,i.q5,i.q6,i.bg,i.bl,i.b0,i.id⟩,⟨⟨⟨rfl,rfl⟩,rfl,rfl,rfl⟩,rfl,rfl,rfl,rfl⟩,Qg.of rfl rfl (.inr ⟨rfl,rfl,rfl⟩) ⟨rfl,rfl⟩ (.inr ⟨rfl,rfl⟩)⟩
 split
 .rename_i Z;obtain⟨w1,w2,w3⟩:=Qn.oO.1 Z;split
  .rename_i e;exact W e
  have i:=h.mv;have hs:({X with mv:={X.mv with a:=X.mv.a.add fr A}}:Cx).mv.a.nodes≠[]:=bM w2;have a5:Xk b {X with mv:={X.mv with a:=X.mv.a.add fr A}}:=L.vh L.me L.mb (L.sl.add Z hA) L.vt L.bg L.bl L.mv;have a6:qh S K {X with mv:={X.mv with a:=X.mv.a.add fr A}}:=⟨i.tl,i.e0,i.pb,i.sl,i.sc,i.ep,i.me,i.nc,i.hc,i.k,i.an,i.q5,i.q6,i.bg,i.bl,i.b0,i.id⟩;have sZ:Sc X {X with mv:={X.mv with a:=X.mv.a.add fr A}}:=⟨⟨⟨rfl,rfl⟩,rfl,rfl,rfl⟩,rfl,rfl,rfl,rfl⟩;obtain⟨K',d1,d2,d3,d4⟩:=IF (G:=G) (h.sc sZ a6) V a5 hs;have q0:Qg X {X with mv:={X.mv with a:=X.mv.a.add fr A}}:=Qg.of rfl rfl (.inr ⟨rfl,rfl,rfl⟩) ⟨rfl,rfl⟩ (.inr ⟨rfl,rfl⟩);exact⟨K',d1,d2,d3,q0.H d4⟩
 split
 .exact Dq.B h V
 rename_i c hf;have T:=bu hf;have Z:=cR hf;obtain⟨w1,w2,w3⟩:=Qn.oO.1 Z;split
 .rename_i e;exact W e
 rename_i a7;have a0:=h.d c T trivial;have a9:=L.Wr T Z hA;let⟨c1,M⟩:=gJ (({c with q:=c.q.add fr A}:jz):jz);have j:c1.gU=c.gU:=by rw[<-M]
 have a8:c1∈(X.put c1).a:=DY T j;have hY:XI S K F J (λn=>n≠c.gU) (X.put c1):=by
  refine⟨⟨h.b.n,h.b.m,h.b.v,h.b.c,h.b.e,h.b.l⟩,λd H hP=>?_,h.c,λd H=>?_,λd H d' a1 e=>?_,h.mv.A rfl rfl rfl rfl rfl rfl⟩
  .obtain e|⟨Y,_⟩:=jV H
   .rw[e,j]at hP;exact absurd rfl hP
   exact h.d d Y trivial
  .obtain e|⟨Y,_⟩:=jV H
   .rw[e,j];exact h.f c T
   exact h.f d Y
  obtain q|⟨Y,e2⟩:=jV H
  .obtain q'|⟨a2,a3⟩:=jV a1
   .rw[q,q']
   exact absurd (by rw[<-e,q]) a3
  obtain q'|⟨a2,a3⟩:=jV a1
  .exact absurd (jS e q') e2
  exact h.nd d Y d' a2 e
 have y:=Lx (S:=S) (K:=K) (F:=F c.gU) (J:=J) (X:=X.put c1) (c:=c) (u:=fr) (A:=A) ⟨h.b.n,h.b.m,h.b.v,h.b.c,h.b.e,h.b.l⟩ V a0 w2 (ha c T w1 w2) a7 (oM.of ((L.d c T).q.add Z hA)) λe=>((L.d c T).c2 e).1;rw[M]at y|-;rw[<-j]at y;obtain⟨x1,x2⟩:=hY.step (c:=c1) V (kZ.refl ..) (λcl ca _=>uO.refl K cl ca) rfl a8 y;refine⟨K,Kx.refl V,yF.B rfl,⟨x1.b,λd H _=>x1.d d H ?_,x1.c,x1.f,x1.nd,x1.mv⟩,Qg.H ?_ x2⟩
 .by_cases e:d.gU=c.gU
  .exact .inr (e.H j.symm)
  exact .inl e
 have a4:∀d∈(X.put c1).a,∃c∈X.a,c.gU=d.gU/\c.q.A=d.q.A/\c.q.nodes=d.q.nodes:=λd H=>by
  obtain e|⟨Y,_⟩:=jV H
  .refine⟨c,T,jS e j,?_,?_⟩
   .rw[e,<-M];rfl
   rw[e,<-M];rfl
  exact⟨d,Y,rfl,rfl,rfl⟩
 refine⟨⟨iK,λd H hn=>.inl (a4 d H),λ_=>.inl ⟨rfl,rfl,rfl⟩⟩,λhN=>hN.Py 4 iK (λd H hn=>?_) (λe=>.inl ⟨e,rfl⟩) (λe=>.inl ⟨e,rfl⟩) λe=>.inl ⟨e,rfl⟩⟩;let⟨c2,z1,z2,z3,z4⟩:=a4 d H;exact .inl ⟨c2,z1,jk z4 hn,mf z3⟩
end
end Go.Proofs.YtbghhbpacijmmaaGreat
