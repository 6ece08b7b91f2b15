import Derived.Test.YtbghhbpacijmmaaGreatL11
open Go.Proofs.Tryz
namespace Go.Proofs.YtbghhbpacijmmaaGreat
set_option maxRecDepth 99999
set_option maxHeartbeats 0
set_option linter.defProp false
open Go.RowKit Go.Maps
attribute [local go_sem ↓] Go.wp_at_zero Go.wp_at_succ
variable {aY bp qb:Nat->Nat} {w w':World} {W:Wd} {k g n i m v t ce gi iH mk p gl j k0:Nat} {b:Bd} {V:WV} {P:Pl} {A:Ac} {dv cv:Value} {l:Le} {rs:List Rc} {X:Cx} {D ns:List Int} {fr tt nr:Int} {ps:List Value} {r:Rq} {c:Kl}
def Jg(h:∀n∈ns,0<=n/\n<=1000000000000000):∀n∈ns,(Lit.int .i64 n).wf=true:=λn d=>qy (h n d).1 (h n d).2
def OL.ok(h:OL b r)(s:Sm b):Rc.Ok m8 ⟨r.kd,[r.ln,r.nr,r.ep,r.pl,r.ct.kd,r.ct.cl,r.ct.ca],r.ct.val⟩:=by
 have F:=h.kd;have L:=h.ct.vl;have H:=h.c0;have M:=h.ln;have Q:=h.nr;have S:=h.ep;have T:=h.pl;have Y:=h.ct.kd;have Z:=h.ct.cl;have a7:=h.ct.ca;have s1:=s.e;have s2:=s.k;have s3:=s.n;refine⟨by show 0<=r.kd;omega,by show r.kd<=255;omega,aq,aq,by show r.ct.val.length<=255;omega,Jg ?_,h.ct.a,?_⟩
 .intro n y;simp only[bh,dB,or_false]at y;obtain rfl|rfl|rfl|rfl|rfl|rfl|rfl:=y<;>omega
 have d:∀k:Int,r.kd=k->k≠2->(r.ct.val.length:Int)<=0:=λk e1 e2=>by rw[H C];simp
 obtain e|e|e|e:=F
 .exact⟨(1,7,0),by simp[m8],e.symm,rfl,d 1 e au⟩
 .exact⟨(2,7,8),by simp[m8],e.symm,rfl,by show(r.ct.val.length:Int)<=8;omega⟩
 .exact⟨(3,7,0),by simp[m8],e.symm,rfl,d 3 e au⟩
 exact⟨(4,7,0),by simp[m8],e.symm,rfl,d 4 e au⟩
def ON.ok(h:ON b r)(s:Sm b):Rc.Ok m8 ⟨r.kd,[r.ln,r.nr,r.ep,r.pl,r.ct.kd,r.ct.cl,r.ct.ca],r.ct.val⟩:=by
 have F:=h.kd;have H:=h.vl;have d:=h.v0;have L:=h.ln;have M:=h.nr;have Q:=h.ep;have S:=h.pl;have T:=h.c0;have Y:=s.e;have Z:=s.k;have s3:=s.ba;refine⟨by show 0<=r.kd;omega,by show r.kd<=255;omega,aq,aq,H,Jg ?_,h.a,?_⟩
 .intro n y;simp only[bh,dB,or_false]at y;obtain rfl|rfl|rfl|rfl|rfl|rfl|rfl:=y<;>omega
 obtain e|e|e:=F
 .exact⟨(5,7,0),by simp[m8],e.symm,rfl,by rw[d C];simp⟩
 .exact⟨(6,7,255),by simp[m8],e.symm,rfl,by show(r.ct.val.length:Int)<=255;omega⟩
 exact⟨(7,7,0),by simp[m8],e.symm,rfl,by rw[d C];simp⟩
def Fh.ok{A:An}(h:Fh b A)(s:Sm b)(d:0<=nr/\nr<=b.K):Rc.Ok vT ⟨101,[nr,A.wh,A.ep,A.mark,A.ct.kd,A.ct.cl,A.ct.ca],A.ct.val⟩:=by have y:=h.wh;have F:=h.ep;have H:=h.EB;have L:=h.ct.kd;have M:=h.ct.cl;have Q:=h.ct.ca;have S:=h.ct.vl;have T:=s.e;have Y:=s.k;have Z:=s.n;refine⟨by show(0:Int)<=101;omega,by show(101:Int)<=255;omega,aq,aq,by show A.ct.val.length<=255;omega,Jg ?_,h.ct.a,⟨(101,7,8),by simp[vT],rfl,rfl,by show(A.ct.val.length:Int)<=8;omega⟩⟩;intro n d;simp at d;omega
def CU.ok{v:Vo}(h:CU b v)(s:Sm b){d:Int}(y:0<=nr/\nr<=b.K)(H:0<=d/\d<=b.E+1):Rc.Ok vZ ⟨102,[nr,d,v.wh,v.pr,v.ba],v.val⟩:=by have L:=h.wh;have M:=h.pr;have Q:=h.ba;have F:=h.vl;have S:=s.e;have T:=s.k;have Y:=s.ba;refine⟨by show(0:Int)<=102;omega,by show(102:Int)<=255;omega,aq,aq,F,Jg ?_,h.a,⟨(102,5,255),by simp[vZ],rfl,rfl,by show(v.val.length:Int)<=255;omega⟩⟩;intro n y;simp at y;omega
def GF(k0 n)(h:k0<=n+1):(List.range (n+2)).drop k0=(List.range (n+1)).drop k0++[n+1]:=by rw[dp,List.drop_append_of_le_length (iG h)]
def DO{α:Type}{S S':Nat->α}{h:List α}(y:k0<=n+1)(H:(((List.range (n+1)).drop k0).map S).Sublist h)(F:∀k,k<=n->S' k=S k):(((List.range (n+2)).drop k0).map S').Sublist (h++[S' (n+1)]):=by
 rw[GF k0 n y,aZ];refine gD ?_ (dy _);rw[bf]
 .omega
 intro k d;have:=eC d;exact F k (gI (di.1 this))
def D4{d:List Rc}(h:k0<=rs.length)(r)(e:d=rs++[r]):off d k0=off rs k0:=by unfold off;rw[e,ft h]
def I9{E:Int->Ep}{e:Int}{s:Ep}(h:nD E e s=E):E e=s:=by have:=congrFun h e;simp[nD]at this;simp_all
theorem QP{H:List Rc}{S S':Nat->Int->Ep}{d e L:Int}{val:List Int}(hk:d=5\/d=6\/d=7)(hw:oS rs S)(a0:oS H S')(hM:tS rs S H S')(Q:S' H.length=(nV (S rs.length) d e L val).2):oG H=if(nV (S rs.length) d e L val).1.wh=1/\d≠7 then max (oG rs) e else oG rs:=by
 have hl:=(hw.lt rs.length jc).2.1;rw[bZ]at hl;have y:((nV (S rs.length) d e L val).2=S rs.length/\¬((nV (S rs.length) d e L val).1.wh=1/\d≠7))\/(∃s:Ep,(nV (S rs.length) d e L val).2=nD (S rs.length) e s/\s.pr≠0/\((nV (S rs.length) d e L val).1.wh=1/\d≠7)):=by
  obtain rfl|rfl|rfl:=hk
  .unfold nV;rw[aE rfl];split
   .exact .inl ⟨rfl,λh=>absurd h.1 aq⟩
   rename_i hq;exact .inr ⟨_,rfl,by show L≠0;omega,rfl,au⟩
  .unfold nV;rw[az au,aE rfl];split
   .exact .inl ⟨rfl,λh=>absurd h.1 aq⟩
   rename_i hq;exact .inr ⟨_,rfl,by show L≠0;omega,rfl,au⟩
  unfold nV;rw[az au,az au];exact .inl ⟨rfl,λh=>h.2 rfl⟩
 obtain⟨rfl,rfl⟩|⟨r,E',rfl,rfl⟩:=hM
 .obtain⟨_,c2⟩|⟨s,c1,c2,c3⟩:=y
  .rw[az c2]
  rw[aE c3];have:=I9 (c1.symm.H Q.symm);have T:=hl e (by rw[this];exact c2);omega
 have M:=a0.step rs.length aq;have e1:(rs++[r])[rs.length]' aq=r:=aq;have e2:OM S rs.length E' rs.length=S rs.length:=by simp[OM]
 rw[e1,e2]at M;have e3:(rs++[r]).length=rs.length+1:=aq;rw[e3]at Q;rw[Fe];generalize OM S rs.length E' (rs.length+1)=En at M Q;have Y:∀(F:Int) (t:Ep),En=nD (S rs.length) F t->t≠S rs.length F->r.ns.headD 0=F->max (oG rs) (r.ns.headD 0)=if(nV (S rs.length) d e L val).1.wh=1/\d≠7 then max (oG rs) e else oG rs:=λF t h1 T h3=>by
  rw[h3];obtain⟨c1,c2⟩|⟨s,c1,c2,c3⟩:=y
  .exact absurd (I9 (h1.symm.H (Q.H c1))).symm T
  rw[aE c3];by_cases ee:F=e
  .rw[ee]
  have Z:=congrFun (h1.symm.H (Q.H c1)) F;simp only[nD,aE,az ee]at Z;exact absurd Z T
 cases M with
 |prep F b h1 T h3=>exact Y F _ rfl (λh=>by have:=Z5 Ep.pr h;simp at this;omega) rfl
 |acc F b ys h1 T h3 _ _ _ hne=>
  refine Y F _ rfl (λh=>?_) rfl;have Z:=Z5 Ep.ba h;have h5:=Z5 Ep.val h;simp at Z h5;obtain hne|hne:=hne
  .exact hne Z
  exact hne h5
def CT(w:World)(dv:Value)(p:Pk):Prop:=match p with
 | .noi ds=>Nz w dv ds
 |p=>rI w dv p.bytes
theorem CT.bl{p:Pk}(h:CT w dv p)(d:Bl w w'):CT w' dv p:=by
 cases p with
 |noi ds=>exact Nz.bl h d
 |req r=>exact rI.bl h d
 |rep nr A=>exact rI.bl h d
 |vot nr y u=>exact rI.bl h d
def Kt.VW{tg:Nat}{a b c d ch:Int}{S:Nat->St}(h:Kt w aY tg p a b c d ch rs S):zO a b c d ch rs S:=h.TX
theorem xP.recv(h:xP w aY n m v ce i gi iH mk P)(hk:G1 b n m v i P)(s:Sm b)(a1:n<=3/\m<=3)(av:300*iH<=1000000000000){p:Pk}(hl:tJ b n m v ⟨fr,tt,p⟩)(T:jZ n m i=tt)(hi:i<14)(dv)(hd:CT w dv p):ib 101 #[O gi,I fr,dv] w λen w'=>en=gS/\∃bp,jq (λt=>t=10+3*i\/t=11+3*i) w aY w' bp/\xP w' bp n m v ce i gi (iH+1) mk (P.recv n m v ce fr p):=by
 cases p with
 |noi ds=>refine gF (BJ gi fr dv ds w hd) λw' hb=>?_;exact⟨rfl,aY,jq.B hb λ_ _=>rfl,(h.B (P:=λ_=>False) (jq.B hb λ_ _=>rfl) aq aq aq).later pK⟩
 |rep nr A=>have Y:=hl.1;change 1000<=tt at Y;rw[<-T]at Y;unfold jZ at Y;split at Y<;>omega
 |vot nr lt u=>have Y:=hl.1;change 1000<=tt at Y;rw[<-T]at Y;unfold jZ at Y;split at Y<;>omega
 |req r=>
  obtain⟨N,k0,hN,Z,a0,rfl,a9,aa⟩:=h;obtain⟨ad,H⟩:=hl;obtain⟨j,hj,a5⟩:=ad;change fr=iM j at a5;have ag:1000<=fr:=by rw[a5];unfold iM;omega
  have ai:fr<=1099:=by rw[a5];unfold iM;omega
  have b0:=hk.q.len;have ak:=tE a1.1 a1.2;have aw:(n:Int)*m<=9:=by exact_mod_cast ak
  simp only at H;have al:(P.q.map Qe.z).length<=1000:=by rw[ay];omega
  have ab:Pj r N:=by
   cases N with
   |unit ch rs S=>
    obtain⟨u1,_⟩:=Z;obtain⟨_,y⟩|⟨t1,_⟩:=H
    .exact⟨y.ln,⟨y.kd,y.c2⟩,y.ok s,y.ct.a⟩
    rw[T]at u1;unfold BU at t1;omega
   |voter rs S=>
    obtain⟨u1,_⟩:=Z;obtain⟨t1,_⟩|⟨_,y⟩:=H
    .rw[T]at u1;unfold r8 at t1;omega
    exact⟨y.ln,y.kd,y.ok s,y.a⟩
  refine(N1 w gi fr dv _ (NY hN C C C C al dv fr r ag ai hd ab C C)).L ?_;rintro en w'⟨rfl,N',ds,bp,t1,y,t3,t4⟩;refine⟨rfl,bp,⟨t4,t1⟩,?_⟩;obtain⟨a3,q,up,qk⟩:=P
  cases N with
  |unit ch rs S=>
   cases N' with
   |voter rs' S'=>exact y.elim
   |unit am rs' S'=>
    obtain⟨rfl,Q,e3,e4,e5⟩:=y
    cases a3 with
    |voter s' h'=>exact a0.elim
    |unit M s' h'=>
     obtain⟨rfl,a2,rfl,a4⟩:=a0;obtain⟨o1,o2,_⟩:=Z;have F:zO n m v ce M rs' S':=by obtain⟨iv,⟨p,_,a6⟩,_⟩:=t3;exact a6.TX
     have ac:rs'.length<=rs.length+1:=by obtain⟨d,_⟩|⟨r0,_,d,_⟩:=Q<;>rw[d]<;>simp
     refine⟨.unit M rs' S',k0,?_,⟨o1,o2,F⟩,⟨rfl,?_,e3.symm,?_⟩,?_,?_,?_⟩
     .rw[e5]at t3;have hz:=Ml q ⟨fr,r.ln,r.nr,.rep r.nr (my n m v ce M (S rs.length) r).1⟩;show Nd _ _ _ _ _ _ _ _ _ _ _ ((xL q _).map Qe.z);rw[<-hz];exact t3
     .obtain⟨d,_⟩|⟨r0,_,d,_⟩:=Q
      .rw[d];exact a2
      rw[d];simp;omega
     .obtain⟨d,g2⟩|⟨r0,s0,d,g2⟩:=Q
      .rw[d,g2];exact a4.H (fR _ _)
      have an:S' (rs.length+1)=(my n m v ce M (S rs.length) r).2:=by have:rs'.length=rs.length+1:=nI d;rwa[this]at e3
      have:=DO (S':=S') (by omega:k0<=rs.length+1) a4 (λk hk=>by rw[g2];simp[PE];omega);rw[an]at this;rw[d];simpa using this
     .obtain⟨d,_⟩|⟨r0,_,d,_⟩:=Q
      .show off rs k0=off rs' k0;rw[d]
      exact(D4 a2 r0 d).symm
     .have:(gY rs).length<=300*iH:=a9;show(gY rs').length<=300*(iH+1);omega
     have:rs.length<=iH:=aa;show rs'.length<=iH+1;omega
  |voter rs S=>
   cases N' with
   |unit am rs' S'=>exact y.elim
   |voter rs' S'=>
    obtain⟨Q,e3,e4,e5⟩:=y
    cases a3 with
    |unit M s' h'=>exact a0.elim
    |voter s' h'=>
     obtain⟨a2,rfl,a4⟩:=a0;obtain⟨o1,o2,a7⟩:=Z;have F:oS rs' S':=by obtain⟨iv,⟨p,_,a6⟩,_⟩:=t3;obtain⟨_,_,_,_,hw,_⟩:=a6;exact hw
     have ac:rs'.length<=rs.length+1:=by obtain⟨d,_⟩|⟨r0,_,d,_⟩:=Q<;>rw[d]<;>simp
     have ap:r.kd=5\/r.kd=6\/r.kd=7:=ab.kd;have iV:=QP ap a7 F Q e3;have a8:(uB ⟨S rs.length,oG rs⟩ r).2=⟨S' rs'.length,oG rs'⟩:=by unfold uB;dsimp only;rw[e3,iV]
     refine⟨.voter rs' S',k0,?_,⟨o1,o2,F⟩,⟨?_,a8,?_⟩,?_,?_,?_⟩
     .rw[e5]at t3;have hz:=Ml q ⟨fr,r.ln,r.nr,.vot r.nr (uB ⟨S rs.length,oG rs⟩ r).2.lt (uB ⟨S rs.length,oG rs⟩ r).1⟩;show Nd _ _ _ _ _ _ _ _ _ _ _ ((xL q _).map Qe.z);rw[<-hz,a8];exact t3
     .obtain⟨d,_⟩|⟨r0,_,d,_⟩:=Q
      .rw[d];exact a2
      rw[d];simp;omega
     .rw[a8];obtain⟨d,g2⟩|⟨r0,s0,d,g2⟩:=Q
      .rw[d,g2];exact a4.H (fR _ _)
      have ar:rs'.length=rs.length+1:=by rw[d];simp
      have:=DO (S':=λk=>VS.mk (S' k) (oG (rs'.take k))) (by omega:k0<=rs.length+1) a4 (λk hk=>by
       rw[g2,d,ft hk]
       simp[OM];omega)
      rw[ar];have e6:List.take (rs.length+1) rs'=rs':=bI C;simp only[e6]at this;exact this
     .obtain⟨d,_⟩|⟨r0,_,d,_⟩:=Q
      .show off rs k0=off rs' k0;rw[d]
      exact(D4 a2 r0 d).symm
     .have:(gY rs).length<=300*iH:=a9;show(gY rs').length<=300*(iH+1);omega
     have:rs.length<=iH:=aa;show rs'.length<=iH+1;omega
theorem Cl.recv(h:Cl w aY t p qb X)(d:100<=t)(Y:Xk b X)(s:Sm b)(sk:b.K+1<=100000000000000){pk:Pk}(H:tJ b n m v ⟨fr,tt,pk⟩)(a0:1000<=tt)(a1:(n:Int)*m<=9)(a2:v<=5)(dv)(L:CT w dv pk)(M:∀b,dv.ownBlock=some b->¬Mc t (aY b)):ib 102 #[O p,I fr,dv] w λen w'=>en=gS/\∃bp,jq (Mc t) w aY w' bp/\Cl w' bp t p qb (X.recv fr pk):=by
 obtain⟨V,Q⟩:=h
 cases pk with
 |noi ds=>refine gF (sW fr dv (λw'=>Bl w w') (Ha fr dv ds L)) λw' Z=>?_;exact⟨rfl,aY,jq.B Z λ_ _=>rfl,V,Q.bl Z λ_ _=>rfl⟩
 |req r=>
  obtain⟨y,_⟩|⟨y,_⟩:=H.2
  .unfold r8 at y;simp only at y;omega
  unfold BU at y;simp only at y;omega
 |rep nr A=>obtain⟨_,l2,F⟩:=H;refine gF (sW fr dv _ (F6 Q d fr nr A (Y.Ww s F) dv L (F.ok s l2) M)) λw' S=>?_;obtain⟨bp,k,T⟩:=S.B;exact⟨rfl,bp,k,T⟩
 |vot nr lt u=>obtain⟨_,l2,F,l4⟩:=H;refine gF (sW fr dv _ (KH Q d fr nr lt u (Y.Wt s sk l4 F) dv L (l4.ok s l2 F))) λw' S=>?_;obtain⟨bp,k,T⟩:=S.B;exact⟨rfl,bp,k,T⟩
def OT(t:Nat):Prop:=t=1\/t=4
def Wy(w:World)(aY:Nat->Nat)(g:Nat)(W:Wd)(cv:Value):Prop:=∃V,jJ w aY g W V/\V.cv=cv
def Wd.uO(W:Wd)(c:Kl):Kl:=c.E (W.a+1) W.ac[c.a]?
def Wd.oT(W:Wd)(k:Nat):List Kl:=(W.bx.map W.uO).take k++W.bx.drop k
def EL(W:Wd):W.oT 0=W.bx:=rfl
def F4(W:Wd):W.oT W.bx.length=W.bx.map W.uO:=by unfold Wd.oT;rw[eQ,cF,bI aq]
def GO(W:Wd)(k)(d:k<=W.bx.length):(W.oT k).length=W.bx.length:=by simp[Wd.oT];omega
def A6(W:Wd)(k)(y:k<W.bx.length):(W.oT k)[k]?=W.bx[k]?:=by unfold Wd.oT;have d:(List.take k (W.bx.map W.uO)).length=k:=gM;rw[aC C,d];simp
def xE(W:Wd)(d:W.bx[k]?=some c):W.oT (k+1)=(W.oT k).set k (W.uO c):=by
 have y:=(aj.1 d).1;have F:(W.bx.map W.uO)[k]?=some (W.uO c):=by rw[aK,d];rfl
 unfold Wd.oT;have H:(List.take k (W.bx.map W.uO)).length=k:=gM;rw[eA _ _ C,H];have L:List.drop k W.bx=c::List.drop (k+1) W.bx:=by rw[cm y];simp_all
 rw[L,cW,F];simp
def vV(W:Wd)(d:W.bx[k]?=some c)(h:W.uO c=c):W.oT (k+1)=W.oT k:=by
 rw[xE W d,h];have y:=A6 W k (aj.1 d).1;rw[d]at y;apply bJ;intro i;by_cases e:k=i
 .subst e;rw[aQ (aj.1 y).1,y]
 simp_all
theorem zv(h:jJ w aY g W V)(hW:Wk W)(ew:W.iH<=100000000000)(bw:W.bx.length<=1000000000):Calls prog 53 #[O g] w λen w'=>en=.returned (.bool true)/\∃bp,jq OT w aY w' bp/\Wy w' bp g W.iY V.cv:=by
 obtain⟨ca,cc,bB⟩:=h.ca.row.E;obtain⟨aa,ac,bC⟩:=h.E.row.E;obtain⟨pv,av,lv,cv,hv,mv,ps,aw,ls,cs,tp⟩:=V;simp only at bB bC;subst bB bC;have c8:=h.cellAt 8 rfl;have f8:=h.F 8;have lg:=h.lt;have h1:=h.Mx (W.a+1);have k1:jq OT w aY (w.setCell (U g 8) (I (W.a+1))) aY:=(ka h.tg 8 _).L λt e=>.inl e;obtain⟨Wa,b8⟩:=dS (w.setCell (U g 8) (I (W.a+1)));rw[b8]at h1 k1;have ds:IntKind.i64.wrap (W.a+1)=W.a+1:=by have:=hW.nw;rw[IntKind.wrap_i64];omega
 obtain⟨HW,H1,bD,bE⟩:=ju hW h1 k1 b8;clear h h1 k1 hW b8;go_enter func53,ntmps53;go_upto_region 2 with fail;rw[bE.o];clear bE c8 f8;go_wp2;go_loopw[3](λi wr=>∃(k:Nat) (bp:Nat->Nat) (a7:List Value),k<=W.bx.length/\i=I k/\Hid (jq OT w aY wr bp)/\Hid (jJ wr bp g {W with a:=W.a+1,bx:=W.oT k} ⟨pv,.slice aa W.ac.length ac,lv,.slice ca W.bx.length cc,hv,mv,ps,aw,ls,a7,tp⟩)) λi _=>W.bx.length-(Go.RowKit.intOf i).toNat
 case atStart=>exact⟨0,aY,cs,jd,rfl,bD,by rw[EL];exact H1⟩
 clear H1 bD;obtain⟨k,bp,a7,hk,rfl,HK,HD⟩:=hrel;have d7:=HD.cellAt 7 rfl;have bR:=HD.lt;by_cases iV:k<W.bx.length
 .have ej:(k:Int)<(W.bx.length:Int):=C;have bT:=A6 W k iV;obtain⟨c,hc⟩:=m9 iV;have bV:=HW.ca c (aR hc);obtain⟨A,hA,dt,bW⟩:=bV.ac;obtain⟨r,hr⟩:=m9 dt;have dw:=(aj.1 hA).1;have ek:(c.a:Int)<(W.ac.length:Int):=C;obtain⟨bX,c0,Hc⟩:=gV (GO W k hk) (bT.H hc) hc;obtain⟨Hr,HA,dO⟩:=gV hr hA bW;have a8:=HD.ca.row;simp only[bX.o]at a8;obtain⟨cb,rfl,ex,ak,Q,c1⟩:=a8.cells C;obtain⟨tv,rv,e0,e1,e2,e3,e4,e5,e6,e7,e8,e9,c2,c3,al⟩:=HD.ca.c k c c0;have d0:=(Q (k*11) C).H e0;have d1:=(Q (k*11+1) C).H e1;have d2:=(Q (k*11+2) C).H e2;have d3:=(Q (k*11+3) C).H e3;have d4:=(Q (k*11+4) C).H e4;have d5:=(Q (k*11+5) C).H e5;have d6:=(Q (k*11+6) C).H e6;have ba:=(Q (k*11+7) C).H e7;have d8:=(Q (k*11+8) C).H e8;have d9:=(Q (k*11+9) C).H e9;have am:=(Q (k*11+10) C).H c2;obtain⟨ta,tc,rfl⟩:=c3.E;obtain⟨ra,rc,rfl⟩:=al.E;rw[ay]at am al;have c4:=fu al;clear e0 e1 e2 e3 e4 e5 e6 e7 e8 e9 c2 c3 al bT hc hr a8 bV hA bW;have c5:=fu c1;have c6:=HD.cellAt 5 rfl;have a9:=HD.E.row;obtain⟨ab,rfl,_,c7,a4,_⟩:=a9.cells (Nat.lt_of_le_of_lt jd dw);obtain⟨p,qb,⟨c9,cd,cf⟩,cg⟩:=HD.E.ac c.a A HA;have a0:=(a4 (c.a*3) (by show c.a*3<W.ac.length*3;omega)).H c9;have a1:=(a4 (c.a*3+1) (by show c.a*3+1<W.ac.length*3;omega)).H cd;have a2:=(a4 (c.a*3+2) (by show c.a*3+2<W.ac.length*3;omega)).H cf;have ch:=fu cg;obtain⟨oQ,hO⟩:=dS (Obj.cells #[I c.a,I c.b,I c.kind,I c.pos,.string (ik c.value),.slice ta c.c.length tc,I c.d,I c.fin,I c.r.wh,I c.r.ad,.slice ra c.r.val.length rc] 60);obtain⟨W5,bb⟩:=dS (wr.alloc oQ);have bA:=(Bl.refl wr).alloc oQ;have T:=ao wr oQ;rw[bb]at bA T;have x5:=(bA.cell bR).H c6;obtain⟨x0,x1,x2⟩:=bA.F c7 a0 a1 a2;have el:=af c7 bA.lt;have ez:=af bR bA.lt;have ci:wr.heap.size<W5.heap.size:=(ae.1 T).1;rw[<-hO]at T;have y0:W5.cell? (U wr.heap.size 0)=some (I c.a):=ax W5 _ 0 _ 60 (0,0) T;obtain⟨bc,ck,HO,cl⟩:=ju T bA hO bb;clear bA T a0 a1 a2 c9 cd cf a4 c6 bb hO a9 cg Q;go_upto_region 6 with fail;rw[HO.o,cl.o];clear cl;obtain⟨up,bd⟩:=dS A.up;rw[bd]at x2;have an:=fu bd;clear bd;go_cut[5]from 15 to 107 λy wx=>∃g5,y= O g5/\Hid (Bl W5 wx/\W5.heap.size<=g5/\wx.heap[g5]?=some (.cells #[I (iM c.a),O p,.bool up] 129 (0,0)))
  case first=>
   go_region;all_goals(go_wp2_with fail;go_meet)
   all_goals(refine⟨_,rfl,?_,jc,?_⟩;(first|exact(jo.alloc _).drew|exact(jo.drew).alloc _|exact jo.alloc _);exact ao _ _)
  case rest=>
   obtain⟨g5,rfl,Z⟩:=hcut;have a5:=ck.H Z.1;have em:g5<wc.heap.size:=(ae.1 Z.2.2).1;obtain⟨z1,z2⟩:=rO Z.2.2 1 2 rfl;have ap:=(Z.1.heap ci).H bc;have cn:wr.heap.size<wc.heap.size:=af ci Z.1.lt;have y1:wc.cell? (U wr.heap.size 1)=some (I c.b):=ax wc _ 1 _ 60 (0,0) ap;obtain⟨b4,ar⟩:=fl ap a5
   cases up with
   |false=>
    have F:Hid (W.uO c=c):=by unfold Hid Wd.uO Kl.E;rw[HA.o];simp only[an.o];rfl
    have S:=HD.bl (bp:=gN bp wr.heap.size 99) a5 λb hb=>fz _ _ _ _ hb;have a6:jq OT w aY wc (gN bp wr.heap.size 99):=HK.H (jq.E a5 99);obtain⟨HE,hs⟩:=fl (And.intro S a6) (vV W Hc F);clear a5 ap bc Z y0 x0 x1 x2 x5 d0 d1 d2 d3 d4 d5 d6 d8 d9 am ba d7 S a6;go_wp2;refine⟨⟨k+1,_,a7,C,gX,HE.2,jP hs.o HE.1⟩,gW⟩
   |true=>
   have hx:=(HW.ac _ A HA).x;have f0:r.val.length<=255:=by have:=(hx.rv r (aR Hr)).vl;omega
   have co:A.X.res.length<=1000000000:=by have:=hx.f;have:(A.X.res.length:Int)<=W.bx.length:=this;omega
   have cp:Hid (Calls prog 23 #[O p,I c.b] wc λen w'=>∃va vc,en=.returned (.tuple #[.agg #[I r.wh,I r.ad,.slice va r.val.length vc],I 0])/\Bl wc w'/\w'.ownsRow wc.heap.size 5 1 (.slice va r.val.length vc) r.val.length (r.val.map B8)):=by obtain⟨Vc,bw⟩:=ch.bl a5 (bp:=bp) λb hb=>rfl;exact FK bw c.b r Hr co C
   have b0:=ow ba d8 d9 am;clear a5 ap bc Z y0 x0 x1 x2 x5 d0 d1 d2 d3 d4 d5 d6 d8 d9 am ba d7 hx co ch;go_upto_region 11 with(go_at_call 23;refine cp.L ?_;rintro en w8⟨va,vc,rfl,cq,cr⟩;obtain⟨b1,be⟩:=fl cq cr;clear cq cr);obtain⟨W9,ct⟩:=dS (w8.alloc (.cells #[I r.wh,I r.ad,.slice va r.val.length vc] 43));have b9:=(Bl.refl w8).alloc (.cells #[I r.wh,I r.ad,.slice va r.val.length vc] 43);have b2:=ao w8 (.cells #[I r.wh,I r.ad,.slice va r.val.length vc] 43);rw[ct]at b9 b2|-;have a3:=ar.H (b1.H b9);have D9:=HD.bl (bp:=gN bp wr.heap.size 99) a3 λb hb=>fz _ _ _ _ hb;have K9:jq OT w aY W9 (gN bp wr.heap.size 99):=HK.H (jq.E a3 99);have b3:w8.heap.size<W9.heap.size:=(ae.1 b2).1;have ad:=((b1.H b9).heap cn).H b4;have ep:wr.heap.size<W9.heap.size:=(ae.1 ad).1;obtain⟨y7,y8,y9,cx⟩:=nN ad 7 8 9 10 rfl;obtain⟨q0,q1,q2⟩:=px b2 0 1 2 rfl;have cP:Rd W9 (gN bp wr.heap.size 99) 99 5 (.slice va r.val.length vc) (r.val.map B8):=(Rd.pB be λb hb=>ig _ _ _ _ (aF ar.lt (be.lt b hb).1)).bl b9 λ_ _ e=>e;have b5:Rd W9 (gN bp wr.heap.size 99) 99 5 (.slice ra c.r.val.length rc) (c.r.val.map B8):=c4.bl a3 (λb hb e=>by rw[fz _ _ _ _ hb];exact e);have bg:w8.heap.size≠cb:=by have:=af ak (aF ar.lt b1.lt);omega
   have cS:=D9.lt;obtain⟨g7,g8⟩:=D9.M 7 8 rfl;have cV:cb<W9.heap.size:=af ak a3.lt;have bi:∀j,W9.frozen? (U cb j)=false:=λj=>(a3.frozen ak).H (c5 j);have ea:=bi (k*11+7);obtain⟨w7,bm,bn,bo⟩:=a3.J ak b0.1 b0.2.1 b0.2.2.1 b0.2.2.2;obtain⟨da,b6,S⟩:=gV cP b5 D9;obtain⟨a6,ag⟩:=fl K9 bi;clear b9 b2 a3 D9 K9 ad cP b5 bi ct ar b1 be cp b4 ck HD HK c4 c5 c1 z1 z2 y1;have ai:Hid (¬(c.fin=0/\r.wh≠0)->W.uO c=c):=by intro eb;unfold Wd.uO Kl.E;rw[HA.o];simp only[an.o,Hr.o,if_true,az eb]
   by_cases M:c.fin=0
   .by_cases bq:r.wh=0
    .have F:=fu (vV W Hc (ai λe=>e.2 bq));rw[M]at y7;rw[bq]at q0;go_wp2;go_roundw
     case rel=>exact⟨k+1,_,a7,C,gX,a6,jP F.o S⟩
     exact gW
    have F:=fu (xE W Hc);rw[M]at y7;have db:=ag (k*11+8);have dc:=ag (k*11+9);have b7:=ag (k*11+10);go_upto_region 12 with fail;go_region;all_goals(go_wp2_with fail)
    obtain⟨W10,d⟩:=dS ((W9.setCell (U cb (k*11+7)) (I (W.a+1))).drew);have Y:bz (λb=>b=cb) W9 W10:=by rw[<-d];exact((bz.refl (λb=>b=cb) W9).setCell (U cb (k*11+7)) (.inl rfl) _).H (bz.E jo.drew)
    have dg:g≠cb:=λe=>gJ S.ca.row.gZ S.hg au (by rw[e];rfl);have f1:=(Y.cell cS dg (o:=7)).H g7;have f2:=(Y.cell b3 bg (o:=0)).H q0;have f3:=(Y.cell b3 bg (o:=1)).H q1;have f4:=(Y.cell b3 bg (o:=2)).H q2;have eq:W10.cell? (U cb (k*11+8))=some (I c.r.wh):=by rw[<-d];exact(World.cell?_setCell_other _ _ _ _ aq).H bm
    have er:W10.cell? (U cb (k*11+9))=some (I c.r.ad):=by rw[<-d];exact(World.cell?_setCell_other _ _ _ _ aq).H bn
    have es:W10.cell? (U cb (k*11+10))=some (.slice ra c.r.val.length rc):=by rw[<-d];exact(World.cell?_setCell_other _ _ _ _ aq).H bo
    have f5:W10.frozen? (U cb (k*11+8))=false:=by rw[<-d];exact(World.frozen?_setCell _ _ _ _).H db
    have f6:W10.frozen? (U cb (k*11+9))=false:=by rw[<-d];exact(World.frozen?_setCell _ _ _ _).H dc
    have eu:W10.frozen? (U cb (k*11+10))=false:=by rw[<-d];exact(World.frozen?_setCell _ _ _ _).H b7
    have ev:=af cS Y.size;have ec:=af cV Y.size;have ee:=af b3 Y.size;rw[d];have dj:=fu d;clear d Y g7 g8 q0 q1 q2 w7 bm bn bo y7 y8 y9 cx ea db dc b7;go_region;all_goals(go_wp2_with fail)
    have ef:(((W10.setCell (U cb (k*11+8)) (I r.wh)).setCell (U cb (k*11+8+1)) (I r.ad)).setCell (U cb (k*11+8+2)) (.slice va r.val.length vc)).drew=(jX W9 cb (k*11+7) [I (W.a+1),I r.wh,I r.ad,.slice va r.val.length vc]).drew.drew:=by rw[<-dj.o];rfl
    rw[ef];have hC:=S.ca.E bX c0 (W.a+1) r _ da;have dl:gN bp wr.heap.size 99 cb=4:=S.ca.row.aY cb rfl;have hP:jq (λs=>s=4) W9 (gN bp wr.heap.size 99) (jX W9 cb (k*11+7) [I (W.a+1),I r.wh,I r.ad,.slice va r.val.length vc]) (gN bp wr.heap.size 99):=DR dl _ _;have hD:=S.Rh (hP.L λt e=>.inl e) hC;have bs:=hD.bl (bp:=gN bp wr.heap.size 99) (jo.drew.drew) λ_ _=>rfl;have eg:W.uO c={c with fin:=W.a+1,r:=r}:=by unfold Wd.uO Kl.E;rw[HA.o];simp only[an.o,Hr.o,if_true,aE (And.intro M bq)]
    rw[eg]at F;have bv:=F.o;simp only at bs;rw[<-bv]at bs;exact⟨⟨k+1,_,_,C,gX,(a6.H (hP.L λt e=>.inr e)).H (jq.B (jo.drew.drew) λ_ _=>rfl),bs⟩,gW⟩
   have dn:c.r=r:=by have h1:=dO an M;have h2:=Hr.o;rw[h1]at h2;simpa using h2
   have F:=fu (vV W Hc (ai λe=>M e.1));rw[dn]at y8 y9 cx b6;clear w7 bm bn bo dn;have v1:=lC _ r.val W9 da.bs.sl;have v2:=lC _ r.val W9 b6.bs.sl;go_wp2;refine⟨⟨k+1,_,a7,C,gX,a6,jP F.o S⟩,gW⟩
 have f7:¬((k:Int)<(W.bx.length:Int)):=C;have ei:k=W.bx.length:=C;subst ei;go_wp2;go_ret;have M:=HD.o;rw[F4 W]at M;exact⟨rfl,bp,HK,⟨_,M,rfl⟩⟩
def Av(h:jJ w aY g W V)(H:Wk W)(d:W.iH<=100000000000)(y:W.bx.length<=1000000000):Calls prog 53 #[O g] w λF w'=>F=.returned (.bool true)/\∃bp,jq OT w aY w' bp/\Wx w' bp g W.iY:=by
 refine(zv h H d y).L ?_;rintro F w'⟨rfl,bp,k,M,x,_⟩;exact⟨rfl,bp,k,M,x⟩
theorem Da(h:jJ w aY g W V)(L:W.jU=[])(fr tt)(da)(dn dc):ib 100 #[O g,.agg #[I fr,I tt,dk da dn dc]] w λS w'=>S=gG (.bool (W.jL fr tt))/\Bl w w':=by
 have Q:W.jL fr tt=false:=by simp[Wd.jL,L]
 rw[Q];have d:=h.ms;rw[L]at d;obtain⟨Y,Z,y⟩:=d.E;have F:=(Bl.refl w).alloc (gO #[I fr,I tt,dk da dn dc] 138);have M:=(F.cell h.lt).H (h.cellAt 10 rfl);rw[y]at M;have lg:=af h.lt F.lt;have T:=fu F;clear h F d y Q L;go_enter func100,ntmps100;go_wp2_with fail;go_loopw[5](λi wr=>i=I 0/\wr=w.alloc (gO #[I fr,I tt,dk da dn dc] 138)) λ_ _=>0
 case atStart=>exact⟨rfl,rfl⟩
 obtain⟨rfl,rfl⟩:=hrel;go_wp2;go_ret;exact⟨rfl,T⟩
structure Ki(jU:List Int):Prop where
 c:∀{w:World} {aY:Nat->Nat} {g:Nat} {W:Wd} {V:WV},jJ w aY g W V->W.jU=jU->∀(fr tt:Int) (da:Option Addr) (dn dc:Nat),Calls prog 100 #[O g,.agg #[I fr,I tt,.slice da dn dc]] w λen w'=>en=.returned (.bool (W.jL fr tt))/\Bl w w'
def MY:Ki []:=⟨λh d fr tt y F H=>Da h d fr tt y F H⟩
structure Sw(W:Wd):Prop where
 a:W.iH<=3000000000
 c:W.bx.length<=9999999
def Sw.sm(h:Sw W)(i):Sm (W.B i):=by have d:=h.a;have y:=h.c;exact⟨by show(W.iH:Int)<=100000000000000;omega,by show 20*_<=100000000000000;omega,by show(W.bx.length:Int)<=10000000;omega,by show 200*(W.iH:Int)<=100000000000000;omega⟩
def Sw.k1(h:Sw W)(i):(W.B i).K+1<=100000000000000:=by have d:=h.a;show 20*_+1<=100000000000000;omega
def Ph(t:Nat):Prop:=t=1\/t=4\/t=9\/(10<=t/\t<52)\/(100<=t/\t<356)
structure HF(w:World)(aY:Nat->Nat)(wr:World)(bp:Nat->Nat)(gl:Nat)(cv:Value)(fr tt:Int)(dv:Value)(D:List Int):Prop where
 k:jq Ph w aY wr bp
 box:wr.heap[gl]?=some (.cells #[I fr,I tt,dv] 138 (0,0))
 tb:bp gl=9
 data:mx wr bp 9 5 1 cv D.length (D.map B8)
 src:Rd wr bp 98 5 dv (D.map B8)
def HF.step{wr y:World}{d:Nat->Nat}(h:HF w aY wr bp gl cv fr tt dv D)(F:jq (λt=>(10<=t/\t<52)\/(100<=t/\t<356)) wr bp y d):HF w aY y d gl cv fr tt dv D:=
 ⟨h.k.H (F.L λt e=>by unfold Ph;omega),(F.heap h.box h.tb C).1,(F.heap h.box h.tb C).2,h.data.B F C,h.src.B F C⟩
def mx.U4(h:mx w aY t 5 1 cv D.length (D.map B8))(H:0<D.length):rI w cv D:=by obtain⟨L,y,M,Q,_,S,_,T,Y⟩:=h.block H;subst Q;refine⟨L,0,y,rfl,S,T,by unfold maxLen at Y;omega,λj d F=>?_⟩;have Z:=(aj.1 F).1;rw[bP,h.gZ.cellAt j C,aK,F];rfl
theorem tJ.len(h:tJ b n m v l)(s:Sm b):l.pk.bytes.length<=600/\mA l.pk.bytes/\((∃ds,l.pk=.noi ds)\/3<=l.pk.bytes.length):=by
 obtain⟨fr,tt,p⟩:=l;have y:∀{kJ:List (Int×Int×Int)} {M:Int} {ns val:List Int},Rc.Ok kJ ⟨M,ns,val⟩->ns.length<=7->(iB M ns val).length<=600/\mA (iB M ns val)/\3<=(iB M ns val).length:=λS Z=>by
  refine⟨?_,λd T=>Rc.range S d T,?_⟩
  .have:=S.v1;rw[nO];simp at this|-;omega
  rw[nO];omega
 cases p with
 |noi ds=>exact⟨by have:=h.1;show ds.length<=600;omega,h.2,.inl ⟨ds,rfl⟩⟩
 |req r=>
  have Y:Rc.Ok m8 ⟨r.kd,[r.ln,r.nr,r.ep,r.pl,r.ct.kd,r.ct.cl,r.ct.ca],r.ct.val⟩:=by
   obtain⟨_,Q⟩|⟨_,Q⟩:=h.2
   .exact Q.ok s
   exact Q.ok s
  obtain⟨F,H,L⟩:=y Y aq;exact⟨F,H,.inr L⟩
 |rep nr A=>obtain⟨F,H,L⟩:=y (h.2.2.ok s h.2.1) aq;exact⟨F,H,.inr L⟩
 |vot nr lt u=>obtain⟨F,H,L⟩:=y (h.2.2.2.ok s h.2.1 h.2.2.1) aq;exact⟨F,H,.inr L⟩
theorem HF.C5{wr:World}(h:HF w aY wr bp gl cv fr tt dv l.pk.bytes)(d:tJ b n m v l)(s:Sm b):CT wr cv l.pk:=by
 obtain⟨_,T,h3⟩:=d.len s;obtain⟨Y,H,p⟩:=l
 cases p with
 |noi ds=>
  refine⟨by have:=d.1;show ds.length<=3;omega,λe=>?_,λL=>h.data.U4 L,d.2⟩;have F:=h.data.gZ.2;have M:(Pk.noi ds).bytes=[]:=e;simp only[M]at F;obtain⟨y,_⟩|⟨g,cap,Q,y,_,_,Z,S,_⟩:=F
  .exact⟨none,0,y,au⟩
  exact⟨_,_,y,by unfold maxLen at S;omega⟩
 |req r=>obtain⟨_,e⟩|h3:=h3;exact absurd e aq;exact h.data.U4 C
 |rep nr A=>obtain⟨_,e⟩|h3:=h3;exact absurd e aq;exact h.data.U4 C
 |vot nr H u=>obtain⟨_,e⟩|h3:=h3;exact absurd e aq;exact h.data.U4 C
def KS:W.pY l 0=W.pl:=by
 apply bJ;intro i;rw[oE]
 cases W.pl[i]?<;>simp
def QY:(W.pY l k)[k]?=W.pl[k]?:=by
 rw[oE]
 cases W.pl[k]?<;>simp
def Ee:(W.pY l k).length=W.pl.length:=dJ ..
theorem MF(h:W.pl[k]?=some P)(d:jZ W.n W.m k=l.tt)(y:P.up=true):W.pY l (k+1)=(W.pY l k).set k (P.recv W.n W.m W.v W.ce l.fr l.pk):=by
 apply bJ;intro i;by_cases e:k=i
 .subst e;rw[aQ (by rw[Ee];exact(aj.1 h).1),oE,h];simp_all
 rw[aH e,oE,oE]
 cases W.pl[i]? with
 |none=>rfl
 |some Q=>have:i<k+1↔i<k:=C;simp_all
theorem Qo(h:W.pl[k]?=some P)(d:¬(jZ W.n W.m k=l.tt/\P.up=true)):W.pY l (k+1)=W.pY l k:=by
 apply bJ;intro i;rw[oE,oE];by_cases e:k=i
 .simp_all
 cases W.pl[i]? with
 |none=>rfl
 |some Q=>have:i<k+1↔i<k:=C;simp_all
def J4:W.rF l 0=W.ac:=by
 apply bJ;intro i;rw[ot]
 cases W.ac[i]?<;>simp
def B6:(W.rF l k)[k]?=W.ac[k]?:=by
 rw[ot]
 cases W.ac[k]?<;>simp
def Nq:(W.rF l k).length=W.ac.length:=dJ ..
theorem Ow(h:W.ac[k]?=some A)(d:iM k=l.tt)(y:A.up=true):W.rF l (k+1)=(W.rF l k).modify k λB=>{B with X:=A.X.recv l.fr l.pk}:=by
 apply bJ;intro i;rw[bS];by_cases e:k=i
 .subst e;rw[B6,ot];simp_all
 rw[ot,ot]
 cases W.ac[i]? with
 |none=>rfl
 |some Q=>have:i<k+1↔i<k:=C;simp_all
theorem QJ(h:W.ac[k]?=some A)(d:¬(iM k=l.tt/\A.up=true)):W.rF l (k+1)=W.rF l k:=by
 apply bJ;intro i;rw[ot,ot];by_cases e:k=i
 .simp_all
 cases W.ac[i]? with
 |none=>rfl
 |some Q=>have:i<k+1↔i<k:=C;simp_all
def Old(W:Wd)(ps:List Value)(k:Nat)(w:World)(aY:Nat->Nat):Prop:=∀(i:Nat) (P:Pl),k<=i->W.pl[i]?=some P->∃gi mk,Gs ps W.n W.m i gi mk P.up P.qk/\xP w aY W.n W.m W.v W.ce i gi W.iH mk P
def Old.B{P:Nat->Prop}(h:Old W ps k w aY)(H:jq P w aY w' bp)(T:k<=j)(d:∀i t,j<=i->i<14->(t=10+3*i\/t=11+3*i\/t=12+3*i)->¬P t)(L:W.pl.length<=14):Old W ps j w' bp:=λi Q y F=>by obtain⟨gi,mk,M,S⟩:=h i Q C F;have:=(aj.1 F).1;exact⟨gi,mk,M,S.B H (d i _ y C (.inl rfl)) (d i _ y C (.inr (.inl rfl))) (d i _ y C (.inr (.inr rfl)))⟩
def Po(tp t:Nat):Prop:=t=1\/t=2\/t=5\/t=tp\/(10<=t/\t<52)\/(100<=t/\t<356)
def Wd.WA(W:Wd)(k:Nat):Wd:=
 if k<W.pl.length then(match W.pl[k]? with
  |none=>W
  |some P=>{W with iH:=W.iH+1,pl:=W.pl.set k P.jt})
 else match W.ac[k-W.pl.length]? with
  |none=>W
  |some A=>{W with iH:=W.iH+1,ac:=W.ac.set (k-W.pl.length) {A with X:=A.X.jt}}
def GZ{α:Type}{l:List α}{a:α}{f:α->α}(h:l[j]?=some a):l.modify j f=l.set j (f a):=by
 apply bJ;intro i;rw[bS];by_cases e:j=i
 .subst e;rw[h,aQ (aj.1 h).1];simp
 rw[aH e];simp[e]
def I1(h:tJ b n m v l)(s:Sm b)(d:∀ds,l.pk≠.noi ds):3<=l.pk.bytes.length/\l.pk.bytes.length<=600:=by
 obtain⟨y,_,h3⟩:=h.len s;obtain⟨ds,e⟩|h3:=h3
 .exact absurd e (d ds)
 exact⟨h3,y⟩
theorem S9(h:jJ w aY g W V)(hW:Wk W)(hS:Sw W)(i:Int)(h0:-9223372036854775808<=i)(h1:i<=9223372036854775807)(k:Nat)(hk:pk i (W.pl.length+W.ac.length)=k)(hT:0<W.ac.length):ib 65 #[O g,I i] w λen w'=>en=gG (.bool true)/\∃bp,jq (Po V.tp) w aY w' bp/\∃V',V'.tp=V.tp/\V'.cv=V.cv/\jJ w' bp g (W.kE k) V':=by
 obtain⟨i5,ji,h2,h3,h4⟩:=fx Tryz.Be;obtain⟨e5,e6,r0,r1,r2⟩:=fx Tryz.PL;obtain⟨pa,pc,e7⟩:=h.J.row.E;obtain⟨aa,ac,e8⟩:=h.E.row.E;obtain⟨la,lc,e9⟩:=h.po.row.E;have h5:=h.ht;obtain⟨pv,av,lv,cv,hv,mv,ps,aw,ls,cs,tp⟩:=V;simp only at e7 e8 e9 h5|-;subst e7 e8 e9;have hU:=h.a;have hV:=h.an;have hC:=hS.a;have b8:=hW.a;have h6:=kI i (W.pl.length+W.ac.length) C;rw[hk]at h6;have ea:=fu λWm=>kQ i (W.pl.length+W.ac.length) Wm h0 h1 C C;rw[hk]at ea;obtain⟨c4,c5⟩:=h.M 4 5 rfl;have lg:=h.lt;obtain⟨bX,eb,H⟩:=gV hW hS h;clear h hW hS hk h0 h1;go_enter func65,ntmps65;go_upto_region 1 with fail;go_quiet((go_at_call 15;exact Calls.quiet_of_same (ea _)));obtain⟨Wq,cl⟩:=dS (w.drewN nq);have bq:Bl w Wq:=by rw[<-cl];exact jo.drewN nq
 rw[cl];obtain⟨Y,cn⟩:=fl (H.bl (bp:=aY) bq λ_ _=>rfl) bq;obtain⟨c4,c5⟩:=Y.M 4 5 rfl;have hY:=Y.lt;clear cl H bq;by_cases hb:k<W.pl.length
 case' pos=>
  have h7:(k:Int)<(W.pl.length:Int):=C;obtain⟨Q,hQ⟩:=m9 hb;have S:=Y.J.row;obtain⟨pb,rfl,hZ,i0,a8,ec⟩:=S.cells (by show 0<W.pl.length;omega);obtain⟨gu,mk,ba,ee⟩:=Y.J.pl k Q hQ;obtain⟨am,ef⟩:=fl ba ee;obtain⟨e0,e1,e2,e3,e4⟩:=ba;have d0:=(a8 (k*5) (by show k*5<W.pl.length*5;omega)).H e0;have d1:=(a8 (k*5+1) (by show k*5+1<W.pl.length*5;omega)).H e1;have d2:=(a8 (k*5+2) (by show k*5+2<W.pl.length*5;omega)).H e2;have d3:=(a8 (k*5+3) (by show k*5+3<W.pl.length*5;omega)).H e3;obtain⟨c0,Z⟩:=dS Q.up;rw[Z]at d3;obtain⟨a9,HQ⟩:=fl Z hQ;clear a8 e0 e1 e2 e3 e4 S ec Z ee hQ
  cases c0 with
  |false=>
   have bb:Hid (W.kE k=W):=by unfold Hid Wd.kE;rw[aE hb,HQ.o];simp[a9.o]
   go_wp2;go_ret;exact⟨rfl,aY,jq.B cn λ_ _=>rfl,by rw[bb.o];exact⟨_,rfl,rfl,Y⟩⟩
  |true=>?_
  obtain⟨N,k0,hN,eg,ei,co,ej,ek⟩:=ef.o;have h8:=(bX.pk k Q HQ).q.len;have HO:=fu (JB hN (by rw[ay];omega) C C C);obtain⟨T,a5⟩:=dS ((Q.q.map λe=>(⟨jZ W.n W.m k,e.cl,e.pk⟩:Le)):List Le);have bc:pC (Q.q.map Qe.z)=T.map λx=>(x.tt,x.pk.bytes):=by rw[<-a5];unfold pC;rw[br,br];rfl
  rw[bc]at HO;rw[ay]at HO;have HE:=Il eg ei co ej ek;have bd:T.length<=80:=by rw[<-a5,ay];exact h8
  have an:=fu a5;clear hN eg ei co ej ek bc ef a5;go_upto_region 9 with(go_at_call 98;refine HO.L ?_;rintro en w1⟨va,vc,xs,tag1,rfl,el,ad,ep,ag⟩;have a0:=ow el ad ep ag;clear el ad ep ag);have k1:jq (λt=>t=10+3*k\/t=11+3*k\/t=12+3*k) Wq aY w1 tag1:=⟨a0.2.2.2.L λ_ _ e=>.inr (.inl e),a0.1⟩;have ai:=Y.UT k1 HQ (P1:={Q with q:=[]}) am ⟨N,k0,a0.2.2.1,HE.1,HE.2.1,HE.2.2.1,HE.2.2.2.1,HE.2.2.2.2⟩;have ap:Jk w1 tag1 (12+3*k) va vc (T.map λx=>(x.tt,x.pk.bytes)) xs 0:=wF.VT (by rw[ay];exact a0.2.1);have ar:=ai.J.row;simp only[bK]at ar;obtain⟨pb',be,hD,hE,bg,cq⟩:=ar.cells C;simp only[aJ,Z0,ZS]at be;subst be;have s1:=(bg (k*5+1) C).H am.2.1;have eq:=fu (xb a0.2.2.1 (gI HE.2.2.2.1));have bi:=ow ai ap a0.2.2.1 k1;clear ai ap k1 bg cq ar a0 Y HO;go_upto_region 10 with(go_at_call 70;refine eq.L ?_;rintro en w2⟨ia,ic,rfl,bl,h9⟩;have er:=fu bl;clear bl h9);have b2:=er.o;have cr:=(bi.1.bl (bp:=tag1) b2 λ_ _=>rfl).sd (a:=W.iH+1) pK;have b0:=cr.J.row;simp only[bK]at b0;obtain⟨pb',be,es,eu,b1,bm⟩:=b0.cells C;simp only[aJ,Z0,ZS]at be;subst be;have s0:=(b1 (k*5) C).H am.1;have s2:=(b1 (k*5+2) C).H am.2.2.1;have f2:=bm (k*5+2);have co:¬(N.iT.length:Int)<(mk:Int):=by have:=HE.2.2.1;have:=CZ N.B k0;rw[Pn.om];omega
  have k2:jq (λs=>s=2) w2 tag1 (w2.setCell (U pb (k*5+2)) (I N.iT.length)) tag1:=ka es _ _;have c1:=cr.PT (pb:=pb) (N:=W.pl.length) (pc:=pc) rfl aq (i:=k) (gi:=gu) (mk:=mk) (mk':=N.iT.length) (p:={Q with q:=[]}) (p':=Q.jt) (by show(W.pl.set k _)[k]?=_;rw[aQ hb]) am ⟨rfl,rfl⟩ ⟨N,N.B.length,bi.2.2.1.B (P:=λ_=>False) (jq.B b2 λ_ _=>rfl) aq aq aq,HE.1,Pn.Qs HE.2.1,by rw[IM,Pn.om],by have:=HE.2.2.2.1;show _<=300*(W.iH+1);omega,by have:=HE.2.2.2.2;show _<=W.iH+1;omega⟩;have ct:=(bi.2.1.B (P:=λ_=>False) (jq.B (bp:=tag1) b2 λ_ _=>rfl) aq).B k2 C;have cx:jq (Po tp) w aY (w2.setCell (U pb (k*5+2)) (I N.iT.length)) tag1:=(((jq.B (bp:=aY) cn λ_ _=>rfl).H (bi.2.2.2.L λt e=>by unfold Po;omega)).H (jq.B b2 λ_ _=>rfl)).H (k2.L λt e=>.inr (.inl e));obtain⟨W3,ak⟩:=dS (w2.setCell (U pb (k*5+2)) (I N.iT.length));rw[ak]at c1 ct cx;simp only[fk]at c1;obtain⟨fr,b3⟩:=dS (jZ W.n W.m k:Int);rw[b3]at s0;have z0:W3.cell? (U pb (k*5))=some (I fr):=by rw[<-ak];exact(World.cell?_setCell_other _ _ _ _ aq).H s0
  have hH:pb<W3.heap.size:=by rw[<-ak];simpa [World.setCell]using eu
  have ev:=fu ak;obtain⟨M,a1⟩:=dS (({W with iH:=W.iH+1,pl:=W.pl.set k Q.jt}:Wd):Wd);obtain⟨V1,a6⟩:=dS ((⟨dk (G pb) W.pl.length pc,dk aa W.ac.length ac,dk la W.iq.length lc,cv,hv,mv,ps.set (k*5+2) (I N.iT.length),aw,ls,cs,tp⟩:WV):WV);obtain⟨ty,b9⟩:=dS (12+3*k);have cP:Hid (jJ W3 tag1 g M {V1 with lv:=dk la M.iq.length lc,ls:=ls}):=by rw[<-a1,<-a6];exact c1
  have cS:Hid (Jk W3 tag1 ty va vc (T.map λx=>(x.tt,x.pk.bytes)) xs 0):=qO b9 ct;have cV:=fu cx;have ew:Hid (∀(Wa Wb:World) (ta tb:Nat->Nat) (po:List Le) (Vx:WV),jJ Wa ta g {M with iq:=po} Vx->jq (λt=>t=ty) Wa ta Wb tb->jJ Wb tb g {M with iq:=po} Vx):=by
   intro Wa Wb ta tb po Vx hX hk;refine hX.VH (i:=k) (p:=Q.jt) ?_ rfl hk λt e=>by rw[e,<-b9]
   rw[<-a1];show(W.pl.set k Q.jt)[k]?=_;rw[aQ hb]
  have HF:Hid (({M with iq:=M.iq++T}:Wd)=W.kE k):=by unfold Hid Wd.kE;rw[aE hb,HQ.o];simp only[a9.o,if_true];rw[<-a1,an.o]
  have ex:Hid (∀x∈T,x.fr=fr):=by intro x hx;rw[<-an.o,aD]at hx;obtain⟨z,hz,rfl⟩:=hx;exact b3
  have c2:Hid (ty≠1/\ty≠tp/\Po tp ty):=⟨C,C,by unfold Po;omega⟩;have d4:Hid (V1.tp=tp):=by unfold Hid;rw[<-a6]
  have ez:Hid (V1.cv=cv):=by unfold Hid;rw[<-a6]
  have f0:Hid (M.iq=W.iq):=by rw[<-a1];rfl
  have cb:Hid (∀x∈T,3<=x.pk.bytes.length/\x.pk.bytes.length<=600):=by
   intro x hx;rw[<-an.o,aD]at hx;obtain⟨e,he,rfl⟩:=hx;have f1:=(bX.pk k Q HQ).q.e e he;obtain⟨jj,_,ha⟩:=f1.cl;have f3:1000<=e.cl:=by rw[ha];unfold iM;omega
   have a2:=f1.pk;refine I1 (b:=W.B 0) (n:=W.n) (m:=W.m) (v:=W.v) ?_ (eb.sm 0) λds e'=>?_
   .show tJ _ _ _ _ ⟨_,e.cl,e.pk⟩
    cases hp:e.pk with
    |req r=>rw[hp]at a2;exact a2.elim
    |noi ds=>rw[hp]at a2;exact a2.elim
    |rep nr A=>rw[hp]at a2;exact⟨f3,a2⟩
    |vot nr lt v=>rw[hp]at a2;exact⟨f3,a2⟩
   .change e.pk=.noi ds at e';rw[e']at a2;exact a2.elim
  have bd:T.length<=200:=C;clear cr b0 b1 bm k2 c1 ct cx ak bi er eq s1 HE a1 a6 b9 b3;go_upto_region 13 with fail;rw[ev.o];clear ev s0 s2 f2 b2;go_upto_region 19 with fail;clear z0
 case' neg=>
  have h7:¬((k:Int)<(W.pl.length:Int)):=C;obtain⟨j,hj⟩:=dS (k-W.pl.length);have hc:j<W.ac.length:=C;have i1:(j:Int)<(W.ac.length:Int):=C;have hI:IntKind.i64.wrap ((k:Int)-(W.pl.length:Int))=(j:Int):=Aj;obtain⟨A,hA⟩:=m9 hc;have S:=Y.E.row;obtain⟨ab,rfl,Rl,i2,b5,_⟩:=S.cells (by show 0<W.ac.length;omega);obtain⟨p,qb,ba,f4⟩:=Y.E.ac j A hA;obtain⟨am,f5⟩:=fl ba f4;obtain⟨e0,e1,e2⟩:=ba;have d0:=(b5 (j*3) (by show j*3<W.ac.length*3;omega)).H e0;have d1:=(b5 (j*3+1) (by show j*3+1<W.ac.length*3;omega)).H e1;have d2:=(b5 (j*3+2) (by show j*3+2<W.ac.length*3;omega)).H e2;obtain⟨c0,Z⟩:=dS A.up;obtain⟨fr,b3⟩:=dS (iM j:Int);rw[Z]at d2;rw[b3]at d0;obtain⟨a9,HA,Hj,f7⟩:=ju Z hA hj b3;clear b5 e0 e1 e2 S Z f4 hA hj b3;go_upto_region 14 with fail;go_cut[10]from 14 to 91 λy wx=>∃g5,y= O g5/\Hid (Bl Wq wx/\Wq.heap.size<=g5/\wx.heap[g5]?=some (gO #[I fr,O p,.bool c0] 129 (0,0)))
  case first=>
   go_region;all_goals(go_wp2_with fail;go_meet)
   all_goals(refine⟨_,rfl,?_,jc,?_⟩;exact mG;exact ao _ _)
  case' rest=>
   obtain⟨g5,rfl,al⟩:=hcut;have f8:g5<wc.heap.size:=(ae.1 al.2.2).1;obtain⟨z0,z1,z2⟩:=px al.2.2 0 1 2 rfl;have f9:=Y.bl (bp:=gN aY Wq.heap.size 9) al.1 λb hb=>fz _ _ _ _ hb;have fd:=f5.bl (bp:=gN aY Wq.heap.size 9) al.1 λb hb=>fz _ _ _ _ hb;have ff:jq (Po tp) w aY wc (gN aY Wq.heap.size 9):=(jq.B (bp:=aY) cn λ_ _=>rfl).H (jq.E al.1 9);have bn:=lZ f9 fd ff;have fi:gN aY Wq.heap.size 9 g5=9:=ig _ _ _ _ al.2.1;have fn:=mF fi al.2.2;clear f9 fd ff d0 d1 d2 c4 c5 Y f5 fi al
   cases c0 with
   |false=>
    have bb:Hid (W.kE k=W):=by unfold Hid Wd.kE;rw[az hb,Hj.o,HA.o];simp[a9.o]
    go_wp2;go_ret;exact⟨rfl,_,bn.2.2,by rw[bb.o];exact⟨_,rfl,rfl,bn.1⟩⟩
   |true=>?_
   obtain⟨VC,hK⟩:=bn.2.1;have hx:=(bX.ac j A HA).x;have d5:=eb.sm j;have HO:=fu (QZ hK C (gI (hx.JT d5)) hx.pl hx.Wz);obtain⟨T,a5⟩:=dS ((A.X.iE.map λz=>(⟨iM j,z.1,.req z.2⟩:Le)):List Le);have bc:A.X.DI=T.map λx=>(x.tt,x.pk.bytes):=by rw[<-a5];unfold Cx.DI;rw[br];rfl
   have bd:T.length<=200:=by rw[<-a5,ay];have:=hx.iE.2;omega
   rw[bc,ay]at HO;have an:=fu a5;clear hK bc a5;go_upto_region 18 with(go_at_call 99;refine HO.L ?_;rintro en w1⟨va,vc,xs,rfl,ad,bo,ag⟩;have a0:=lZ ad bo ag;clear ad bo ag);obtain⟨ad,bo,ag⟩:=a0.o;have k1:jq (Mc (100+32*j)) wc (gN aY Wq.heap.size 9) w1 (gN (gN aY Wq.heap.size 9) wc.heap.size 5):=⟨ag,λb hb=>fz _ _ _ _ hb⟩;have ai:=(bn.1.Qa k1 (λt e=>.inl (by unfold Mc at e;omega)) HA am ⟨VC,bo⟩).sd (a:=W.iH+1) pK;have ap:Jk w1 (gN (gN aY Wq.heap.size 9) wc.heap.size 5) 5 va vc (T.map λx=>(x.tt,x.pk.bytes)) xs 0:=qX.VT (by rw[ay];exact ad) λb hb=>ig _ _ _ _ hb;have a1:=bn.2.2.H (k1.L (Q:=Po tp) λt e=>by unfold Mc at e;unfold Po;omega);have fv:w1.cell? (U g5 0)=some (I fr):=ax w1 _ 0 _ 129 (0,0) (k1.heap fn.2 fn.1 (by unfold Mc;omega)).1;have fw:g5<w1.heap.size:=af f8 k1.size;obtain⟨tag1,bs⟩:=dS (gN (gN aY Wq.heap.size 9) wc.heap.size 5);rw[bs]at ai ap a1;obtain⟨W3,ak⟩:=dS w1;rw[ak]at ai ap a1 fv fw|-;obtain⟨M,b6⟩:=dS (({W with iH:=W.iH+1,ac:=W.ac.modify j λB=>{B with X:=A.X.jt}}:Wd):Wd);obtain⟨V1,a6⟩:=dS ((⟨dk pa W.pl.length pc,dk (G ab) W.ac.length ac,dk la W.iq.length lc,cv,hv,mv,ps,aw,ls,cs,tp⟩:WV):WV);obtain⟨ty,b9⟩:=dS 5;have cP:Hid (jJ W3 tag1 g M {V1 with lv:=dk la M.iq.length lc,ls:=ls}):=by rw[<-b6,<-a6];exact ai
   have cS:Hid (Jk W3 tag1 ty va vc (T.map λx=>(x.tt,x.pk.bytes)) xs 0):=qO b9 ap;have cV:=fu a1;have ew:Hid (∀(Wa Wb:World) (ta tb:Nat->Nat) (po:List Le) (Vx:WV),jJ Wa ta g {M with iq:=po} Vx->jq (λt=>t=ty) Wa ta Wb tb->jJ Wb tb g {M with iq:=po} Vx):=by intro Wa Wb ta tb po Vx hX hk;exact hX.B hk λt e=>.inr (.inl C)
   have HF:Hid (({M with iq:=M.iq++T}:Wd)=W.kE k):=by unfold Hid Wd.kE;rw[az hb,Hj.o,HA.o];dsimp only;rw[aE a9.o,<-b6,an.o,GZ HA.o]
   have ex:Hid (∀x∈T,x.fr=fr):=by intro x hx;rw[<-an.o,aD]at hx;obtain⟨z,hz,rfl⟩:=hx;exact f7
   have c2:Hid (ty≠1/\ty≠tp/\Po tp ty):=⟨C,C,by unfold Po;omega⟩;have d4:Hid (V1.tp=tp):=by unfold Hid;rw[<-a6]
   have ez:Hid (V1.cv=cv):=by unfold Hid;rw[<-a6]
   have f0:Hid (M.iq=W.iq):=by rw[<-b6];rfl
   have cb:Hid (∀x∈T,3<=x.pk.bytes.length/\x.pk.bytes.length<=600):=by intro x g0;rw[<-an.o,aD]at g0;obtain⟨z,hz,rfl⟩:=g0;obtain⟨⟨hd,hf⟩,hg,_⟩:=hx.cf;have g1:A.X.n=W.n:=hd;have g2:A.X.m=W.m:=hf;have g3:A.X.vo=W.v:=hg;have ho:=hx.iE.1 z hz;rw[g1,g2,g3]at ho;exact I1 (b:=W.B j) (n:=W.n) (m:=W.m) (v:=W.v) (l:=⟨iM j,z.1,.req z.2⟩) ⟨I5 bX HA,ho⟩ d5 λds e'=>lY e'
   clear ad bo ag a0 k1 ai ap a1 b6 a6 b9 bs ak HO hx d5;go_upto_region 19 with fail;clear fv
 all_goals
  have g4:M.iq.length+T.length<=1000000000000:=by have:=f0.o;rw[this];omega
  obtain⟨L,hL⟩:=dS T.length;rw[hL]at bd g4|-;have HL:=fu hL;have i3:(L:Int)<=200:=C;clear hL;go_wp2;go_loopw[11](λi wx=>∃(j:Nat) (a4:Nat->Nat) (c3:Option Addr) (c7:Nat) (bv:List Value),j<=L/\i=I j/\Hid (jq (Po tp) w aY wx a4)/\Hid (jJ wx a4 g {M with iq:=M.iq++T.take j} {V1 with lv:=dk c3 (M.iq.length+j) c7,ls:=bv})/\Hid (Jk wx a4 ty va vc (T.map λx=>(x.tt,x.pk.bytes)) xs j)) λi _=>L-(Go.RowKit.intOf i).toNat
  case atStart=>exact⟨0,tag1,la,lc,ls,jd,rfl,cV,by rw[eE,cF];exact cP,cS⟩
  case round=>
   clear cV cP cS;obtain⟨j,a4,c3,c7,bv,hj,rfl,d6,a3,bw⟩:=hrel;have cc:=HL.o;by_cases iV:j<L
   .have hJ:(j:Int)<(L:Int):=C;obtain⟨x,hx⟩:∃x,T[j]?=some x:=⟨_,ah C⟩;have g6:(T.map λx=>(x.tt,x.pk.bytes))[j]?=some (x.tt,x.pk.bytes):=by rw[aK,hx];rfl
    obtain⟨hh,hi⟩:=cb x (aR hx);have hl:=fu (ex x (aR hx));have S:=bw.row;have bA:(T.map λx=>(x.tt,x.pk.bytes)).length=L:=by rw[ay];exact cc
    rw[bA]at S;obtain⟨mb,rfl,_,g7,bB,_⟩:=S.cells C;obtain⟨e1,u,e2,e3⟩:=bw.f j _ jc g6;obtain⟨db,dc,hM,rfl,i4,i6,g8,_,_⟩:=e3.block (by simp only;omega);have d0:=(bB (j*2) C).H e1;have d1:=(bB (j*2+1) C).H e2;simp only at d0 d1 e3;obtain⟨d7,d8,i7,d9⟩:=ju e2 e3 g8 (zK e3.gZ);obtain⟨BY,da⟩:=dS x.pk.bytes;have dg:=fu da;rw[da]at hh hi d1 d7 d8 d9;have HN:Hid (wr.ownsRow wr.heap.size 5 1 OO 0 []):=mC;have g9:Hid (0+(BY.map B8).length<=maxLen):=by unfold Hid maxLen;rw[ay];omega
    have cd:Hid ((0+(BY.map B8).length)*1<=140737488355328):=by unfold Hid;rw[ay];omega
    have hm:Hid (T.take (j+1)=T.take j++[x]):=by unfold Hid;rw[cW,hx];rfl
    have bC:=fu bA;clear bB e1 e2 e3 g8 S cc hx g6 bA da;go_upto_region 23 with fail;go_wp2_with(at_builtin;refine mo _ rfl _ _ 40 rfl wr.heap.size 5 i5 (.int .u8 0) 1 underlying40 ji h2 h3 h4 rfl _ 0 [] rfl HN _ _ rfl d9 (CH BY) g9 cd aq ?_);intro v' w4 hG;obtain⟨gd,cap,hn⟩:∃gd cap,v'=dk (G gd) BY.length cap:=by
     obtain⟨_,e⟩|⟨g,cap,i8,e,_⟩:=hG.gZ.2
     .omega
     .exact⟨g,cap,iG e⟩
    subst hn;have b4:Bl wr w4:=hG.only.qp λk _ e=>mX e;have gb:=fu (show w4.ownsRow wr.heap.size 5 1 (dk (G gd) BY.length cap) BY.length (BY.map B8) by simpa using hG.gZ);have c6:=(b4.cell a3.lt).H (a3.cellAt 6 rfl);have f6:w4.frozen? (U g 6)=false:=(b4.frozen a3.lt).H (aP wr g 6 _ 66 a3.hg);have dj:=af a3.lt b4.lt;obtain⟨x0,x1⟩:=b4.E g7 d0 d1;have cf:=af g7 b4.lt;have F:({M with iq:=M.iq++T.take j}:Wd).iq.length=M.iq.length+j:=by have:=HL.o;simp;omega
    have b8:=a3.po.row.gZ;rw[F]at b8;have gc:=fu ((iD b4).iJ b8 λ_ _ e=>e);have dl:Hid ((dk c3 (M.iq.length+j) c7).ownBlock≠some g):=gJ b8 a3.hg au;have ge:Hid ((dk c3 (M.iq.length+j) c7).ownBlock≠some mb):=λe=>by obtain⟨g',bD,bE,k1,_,_,k4,_⟩:=bw.row.block (qj bC.o);simp only[bO,aJ,Z0,ZS,ZU]at k1;rw[<-k1.1]at k4;exact gJ b8 k4 au e
    have gj:Hid (M.iq.length+j+1<=maxLen):=mQ;have bl:Hid ((M.iq.length+j+1)*40<=140737488355328):=lQ;have gm:=fu b4;have cg:=hl.o;obtain⟨xt,dn⟩:=dS x.tt;rw[dn]at x0;have gn:=fu dn;clear b4 hG b8 d0 d1 HN d9 g9 cd dn;go_upto_region 24 with fail;go_cut[]from 92 to 138 λwy=>∃gg bR tagy,Hid (jq (λt=>t=1\/t=tp) wr a4 wy tagy)/\Hid (jJ wy tagy g {M with iq:=M.iq++T.take (j+1)} {V1 with lv:=dk (G gg) (M.iq.length+j+1) bR,ls:=bv++[I fr,I xt,dk (G gd) BY.length cap]})
    case first=>
     go_region_law
      ((refine step_append_lies _ jz _ _ _ jz 0 138 e5 _ 3 40 underlying63 e6 r0 r1 r2 rfl C _ (M.iq.length+j) bv jz ((gc.alloc _).drew) (U w4.heap.size 0) 1 1 [I fr,I xt,dk (G gd) BY.length cap] jz jz (fW (cs:=#[I fr,I xt,dk (G gd) BY.length cap]) (t:=138) (fr:=(0,0)) (ao w4 _)) qR C gj bl aq (w4.heap.size+1) aq ?_;intro gg cp w5 a7 d b7 bT;have kc:=(zM (((Bl.refl w4).alloc _).drew) d (o:=6) dj dl).1.H c6;have kf:=(zM (((Bl.refl w4).alloc _).drew) d (o:=6) dj dl).2.H f6;have y0:=(zM (((Bl.refl w4).alloc _).drew) d (o:=j*2) cf ge).1.H x0;have f8:g<w5.heap.size:=(by have:=d.size;simp at this;omega);have hO:mb<w5.heap.size:=(by have:=d.size;simp at this;omega);have hq:=ow a7 d b7 bT;clear a7 d b7 bT))
     all_goals(go_wp2_with fail;go_meet)
     all_goals
      obtain⟨a7,d,b7,bT⟩:=hq.o;have go:=a3.o;rw[<-F]at go;have c8:=jJ.NB (V:={V1 with ls:=bv}) go (Wa:=w4) (W1:=(w4.alloc (gO #[I fr,I xt,dk (G gd) BY.length cap] 138)).drew) gm (((Bl.refl w4).alloc _).drew) x (ga:=G gd) (cap:=cap) (jP dg.o gb) (gg:=gg) (cp:=cp) (by rw[F,cg,gn.o,dg.o];exact a7) (jP F d) (by rw[F];exact b7.imp (λe=>e) λe=>C);rw[F,cg,gn.o,dg.o]at c8;simp only[eJ]at c8;rw[<-hm.o]at c8;obtain⟨gq,p1,p2⟩:=c8;exact⟨gg,cp,gq,p1.L λt e=>by(obtain e|e:=e;exact .inl e;exact .inr (e.H d4)),p2⟩
    case rest=>
     obtain⟨gg,bR,tagy,bV,hr⟩:=hcut;have i9:=bV.size;have dw:=bw.B bV λe=>gI c2.o;have gr:=d8.B bV λe=>gI c2.o;obtain⟨id,em,_,ch,ci,_⟩:=(show mx wc tagy ty 179 2 (dk (G mb) L vc) L xs by have:=dw.row;rwa[bC.o]at this).cells C;simp only[aJ,Z0,ZS]at em;subst em;have y1:=(ci (j*2+1) C).H d7;obtain⟨gs,c9⟩:=fl dw gr;have hs:=fu (d6.H (bV.L λt e=>by unfold Po;omega));clear dw gr ci bV bw a3 d6 d8 gc dl ge gj bl gm gb c6 f6 dj x0 x1 cf F;have gt:tagy db=ty:=c9.aY db rfl;have gx:mb≠db:=λe=>by obtain⟨g',bD,bE,k1,_,_,k4,_⟩:=gs.row.block (qj bC.o);simp only[bO,aJ,Z0,ZS,ZU]at k1;rw[<-k1.1]at k4;exact gJ c9.gZ k4 au (by rw[e];rfl)
     go_wp2;go_loopw[13](λi wx=>∃(t:Nat) (ds:List Value),t<=BY.length/\i=I t/\Hid (bz (λb=>b=db) wc wx)/\Hid (wx.ownsRow 0 5 1 (dk (G db) BY.length dc) BY.length ds)) λi _=>BY.length-(Go.RowKit.intOf i).toNat
     case atStart=>exact⟨0,_,jd,rfl,sQ,c9.gZ⟩
     case round=>
      obtain⟨t,ds,ht,rfl,bW,ca⟩:=hrel;have y2:=(bW.cell ch gx (o:=j*2+1)).H y1;have hP:=af ch bW.size;by_cases ih:t<BY.length
      .have ii:(t:Int)<(BY.length:Int):=C;have io:ds.length=BY.length:=iF ca;have y3:=(ca.cellAt t C).H (ah C);obtain⟨g',bD,bE,k1,_,k3,k4,_⟩:=(show mx wr (λ_=>0) 0 5 1 (dk (G db) BY.length dc) BY.length ds from⟨ca,λ_ _=>rfl⟩).block C;simp only[bO,aJ,Z0,ZS,ZU]at k1;rw[<-k1.1]at k3 k4;have y4:=aP _ db t _ 5 k4;generalize ds[t]=dt at*;clear k4 k1;go_wp2;exact⟨⟨t+1,ds.set t (.int .u8 99),C,gX,bW.setCell (U db t) (.inl rfl) _,rC ca t _⟩,gW⟩
      .have hR:¬((t:Int)<(BY.length:Int)):=C;have dO:jq (λs=>s=ty) wc tagy wr tagy:=⟨bW.L λb _ e=>jP e gt,λ_ _=>rfl⟩;have hu:=fu (ew _ _ _ _ _ _ hr dO);have hw:=fu (gs.Ro d7 rfl (by
        obtain⟨g',bD,bE,k1,_,_,k4,_⟩:=c9.block C
        simp only[bO,aJ,Z0,ZS,ZU]at k1
        rw[<-k1.1]at k4
        exact⟨_,k4⟩) bW)
       have hy:=fu (hs.H (dO.L λt e=>jP e c2.2.2));clear dO;go_wp2;exact⟨⟨j+1,tagy,G gg,bR,_,C,gX,hy,hu,hw⟩,gW⟩
   .have ip:¬((j:Int)<(L:Int)):=C;have hB:j=L:=C;subst hB;go_wp2;go_ret;have ck:=a3.o;rw[bI (gI HL.o),HF.o]at ck;exact⟨rfl,a4,d6,⟨_,by exact d4,by exact ez,ck⟩⟩
theorem IL(h:jJ w aY g W V)(hW:Wk W)(hS:Sw W)(c6:Ki W.jU)(l:Le)(dv:Value)(hd:Rd w aY 98 5 dv (l.pk.bytes.map B8))(hl:tJ (W.B 0) W.n W.m W.v l):ib 66 #[O g,.agg #[I l.fr,I l.tt,dv]] w λen w'=>en=gG (.bool true)/\∃bp,jq Ph w aY w' bp/\Wy w' bp g (W.mO l) V.cv:=by
 obtain⟨i5,ji,dt,dO,e5⟩:=fx Tryz.Be;obtain⟨pa,pc,c7⟩:=h.J.row.E;obtain⟨aa,ac,c9⟩:=h.E.row.E;obtain⟨pv,av,lv,cv,hv,mv,ps,aw,ls,cs,tp⟩:=V;simp only at c7 c9;subst c7 c9;obtain⟨e6,ca,_⟩:=hl.len (hS.sm 0);obtain⟨da,dc,cb⟩:=hd.E;rw[ay]at cb;subst cb;have bg:=h.a;have ev:=h.an;have es:=hS.a;have ew:=hW.nw;obtain⟨D,hD⟩:=dS l.pk.bytes;obtain⟨fr,an⟩:=dS l.fr;obtain⟨tt,ap⟩:=dS l.tt;obtain⟨NP,cc⟩:=dS W.pl.length;obtain⟨NA,cd⟩:=dS W.ac.length;have cf:Hid (∀(k gu mk:Nat) (P:Pl) (Z:World) (Y:Nat->Nat) (dw:Value),W.pl[k]?=some P->jZ W.n W.m k=tt->xP Z Y W.n W.m W.v W.ce k gu W.iH mk P->CT Z dw l.pk->ib 101 #[O gu,I fr,dw] Z λen w'=>en=gS/\∃bp,jq (λt=>t=10+3*k\/t=11+3*k) Z Y w' bp/\xP w' bp W.n W.m W.v W.ce k gu (W.iH+1) mk (P.recv W.n W.m W.v W.ce fr l.pk)):=by intro k gu mk P Z Y dw hP b8 hN b9;have hk:=(aj.1 hP).1;rw[<-an];exact hN.recv (hW.pk k P hP) (hS.sm 0) ⟨hW.n1.2,hW.m1.2⟩ C (fr:=l.fr) (tt:=l.tt) (p:=l.pk) hl (jP ap b8) C dw b9
 have e7:Hid (∀(k p:Nat) (A:Ac) (qb:Nat->Nat) (Z:World) (Y:Nat->Nat) (dw:Value),W.ac[k]?=some A->iM k=tt->Cl Z Y (100+32*k) p qb A.X->CT Z dw l.pk->(∀b,dw.ownBlock=some b->Y b=9)->ib 102 #[O p,I fr,dw] Z λen w'=>en=gS/\∃bp,jq (Mc (100+32*k)) Z Y w' bp/\Cl w' bp (100+32*k) p qb (A.X.recv fr l.pk)):=by intro k p A qb Z Y dw hA b8 hC b9 e8;rw[<-an];have hx:=(hW.ac k A hA).x;refine Cl.recv (n:=W.n) (m:=W.m) (v:=W.v) hC C hx (hS.sm k) (hS.k1 k) (fr:=l.fr) (tt:=l.tt) (pk:=l.pk) (hl.L (tU W W 0 k jc jc)) (by rw[ap,<-b8];unfold iM;omega) (by exact_mod_cast tE hW.n1.2 hW.m1.2) hW.v1.2 dw b9 λb hb=>by rw[e8 b hb];unfold Mc;omega
 have bq:Hid (∀(wr:World) (bp:Nat->Nat) (gl:Nat) (bB:Value),HF w aY wr bp gl bB fr tt (dk da D.length dc) D->CT wr bB l.pk):=by intro wr bp gl bB hF;subst hD;exact hF.C5 hl (hS.sm 0)
 have e9:=fu (hW.qJ hl);rw[hD]at e6 ca hd|-;rw[an,ap];obtain⟨T,b6⟩:=dS (({W with a:=W.a+1,iH:=W.iH+1}:Wd):Wd);have cg:Hid (∀k,∃Wk:Wd,({T with pl:=W.pY l k}:Wd)=Wk):=λk=>⟨_,rfl⟩;obtain⟨W1,bC⟩:=dS (w.alloc (gO #[I fr,I tt,dk da D.length dc] 138));have b1:=(Bl.refl w).alloc (gO #[I fr,I tt,dk da D.length dc] 138);have ba:=ao w (gO #[I fr,I tt,dk da D.length dc] 138);rw[bC]at b1 ba;have h1:=h.bl (bp:=gN aY w.heap.size 9) b1 λb hb=>fz _ _ _ _ hb;have k1:jq Ph w aY W1 (gN aY w.heap.size 9):=jq.E b1 9;have d1:Rd W1 (gN aY w.heap.size 9) 98 5 (dk da D.length dc) (D.map B8):=hd.bl b1 (λb hb e=>by rw[fz _ _ _ _ hb];exact e);have t1:gN aY w.heap.size 9 w.heap.size=9:=ig _ _ _ _ jc;have c8:=h1.cellAt 8 rfl;have f8:=h1.F 8;have ex:=h1.lt;have o1:Old W ps 0 W1 (gN aY w.heap.size 9):=λi P _ hP=>h1.J.pl i P hP;have h2:=(h1.Mx (W.a+1)).sd (a:=W.iH+1) pK;have k2:jq (λs=>s=1) W1 (gN aY w.heap.size 9) (W1.setCell (U g 8) (I (W.a+1))) (gN aY w.heap.size 9):=ka h1.tg 8 _;obtain⟨W2,bD⟩:=dS (W1.setCell (U g 8) (I (W.a+1)));rw[bD]at h2 k2;rw[b6]at h2;have b0:=k2.heap ba t1 C;have o2:=o1.B k2 jc (λi t _ _ e=>C) bg;have d2:=d1.B k2 C;have K2:=k1.H (k2.L (Q:=Ph) λt e=>.inl e);have ea:IntKind.i64.wrap (W.a+1)=W.a+1:=Aj;have bE:=fu (c6.c h2 (by rw[<-b6]) fr tt da D.length dc);have bv:T.jL fr tt=W.jL fr tt:=by rw[<-b6];rfl
 rw[bv]at bE;have eb:=h2.lt;have b2:w.heap.size<W2.heap.size:=(ae.1 b0.1).1;obtain⟨x0,x1,x2⟩:=px b0.1 0 1 2 rfl;obtain⟨S,ch,ci,ez⟩:=ju (And.intro b0 (And.intro o2 (And.intro d2 (And.intro K2 h2)))) bC bD hW;obtain⟨ec,ck,f0⟩:=gV hS b6 (And.intro cc cd);have cl:Hid (W.jL fr tt=false->W.mO l=(W.qJ l).iY):=λe=>by unfold Wd.mO;rw[an,ap,az (mY e)]
 have bR:Hid (W.jL fr tt=true->W.mO l=T):=λe=>by unfold Wd.mO;rw[an,ap,aE e,b6]
 have b7:=mF an ap;clear b1 ba h1 k1 d1 o1 h2 k2 b0 o2 d2 K2 bC bD h hd ca bv c6 hl cg hD an ap cc cd hW hS b6;generalize W.jL fr tt=pt at*;go_enter func66,ntmps66;go_upto_region 1 with fail;rw[ch.o];go_upto_region 2 with fail;rw[ci.o];clear ch ci c8 f8;go_upto_region 3 with(go_at_call 100;refine gF bE λw3 bi=>?_;have bb:=fu bi;have cn:=af b2 bi.lt;have z2:=(bi.cell b2).H x2;clear bi)
 cases pt with
 |true=>go_wp2;go_ret;refine⟨rfl,gN aY w.heap.size 9,S.2.2.2.1.H (jq.B bb λ_ _=>rfl),?_⟩;rw[bR.o (by first|rfl|trivial)];exact⟨_,S.2.2.2.2.bl (bp:=gN aY w.heap.size 9) bb λ_ _=>rfl,rfl⟩
 |false=>
 go_upto_region 6 with fail;have HN:Hid (w3.ownsRow w3.heap.size 5 1 OO 0 []):=mC;have co:=fu ((S.2.2.1.bl bb λ_ _ e=>e).bs);have cp:Hid (0+(D.map B8).length<=maxLen):=by unfold Hid maxLen;rw[ay];omega
 have bw:Hid ((0+(D.map B8).length)*1<=140737488355328):=by unfold Hid;rw[ay];omega
 go_wp2_with(at_builtin;refine mo _ rfl _ _ 40 rfl w3.heap.size 5 i5 (.int .u8 0) 1 underlying40 ji dt dO e5 rfl _ 0 [] rfl HN _ _ rfl co (CH D) cp bw aq ?_);intro v' w4 hG;obtain⟨gd,cap,ee⟩:∃gd cap,v'=dk gd D.length cap:=by
  obtain⟨e1,e⟩|⟨g,cap,f4,e,_⟩:=hG.gZ.2
  .exact⟨none,0,by rw[e1];congr 1;omega⟩
  exact⟨_,cap,e⟩
 subst ee;have b4:Bl W2 w4:=bb.H (hG.only.qp λk _ e=>mX e);have cq:∀b,(dk gd D.length cap).ownBlock=some b->gN aY w.heap.size 9 b=9:=λb hb=>ig _ _ _ _ (gI ((hG.gZ.lt b hb).1));have cr:Hid (HF w aY w4 (gN aY w.heap.size 9) w.heap.size (dk gd D.length cap) fr tt (dk da D.length dc) D):=⟨S.2.2.2.1.H (jq.B b4 λ_ _=>rfl),(b4.heap b2).H S.1.1,S.1.2,⟨gL hG.gZ λ_ _=>jd,cq⟩,S.2.2.1.bl b4 λ_ _ e=>e⟩;have ct:=fu (S.2.2.2.2.bl (bp:=gN aY w.heap.size 9) b4 λ_ _=>rfl);have cx:Hid (Old W ps 0 w4 (gN aY w.heap.size 9)):=S.2.1.B (P:=λ_=>False) (jq.B b4 λ_ _=>rfl) jc (λ_ _ _ _ _ e=>e) bg;clear hG b4 S bb HN co cp bw bE x0 x1 x2 z2 cn b2 eb cq;have bc:Hid (T.n=W.n/\T.m=W.m/\T.v=W.v/\T.ce=W.ce/\T.pl=W.pl/\T.ac=W.ac/\T.iH=W.iH+1):=by rw[<-ck.o];exact⟨rfl,rfl,rfl,rfl,rfl,rfl,rfl⟩
 have cP:Hid (jJ w4 (gN aY w.heap.size 9) g {T with pl:=W.pY l 0} ⟨dk pa W.pl.length pc,dk aa W.ac.length ac,lv,cv,hv,mv,ps,aw,ls,cs,tp⟩):=by have:=ct.o;rw[show W.pY l 0=T.pl from KS.H bc.2.2.2.2.1.symm];exact this
 have ef:Hid (({T with pl:=W.pY l W.pl.length,ac:=W.rF l W.ac.length}:Wd)=W.qJ l):=by unfold Hid Wd.qJ;rw[<-ck.o]
 clear ct;go_wp2;go_loopw[7](λi wr=>∃(k:Nat) (bp:Nat->Nat),k<=W.pl.length/\i=I k/\Hid (HF w aY wr bp w.heap.size (dk gd D.length cap) fr tt (dk da D.length dc) D)/\Hid (jJ wr bp g {T with pl:=W.pY l k} ⟨dk pa W.pl.length pc,dk aa W.ac.length ac,lv,cv,hv,mv,ps,aw,ls,cs,tp⟩)/\Hid (Old W ps k wr bp)) λi _=>W.pl.length-(Go.RowKit.intOf i).toNat
 case atStart=>exact⟨0,_,jd,rfl,cr,cP,cx⟩
 clear cr cP cx;obtain⟨k,bp,hk,rfl,y,HX,bm⟩:=hrel;have c4:=HX.cellAt 4 rfl;have bT:=HX.lt;by_cases iV:k<W.pl.length
 .have cS:(k:Int)<(W.pl.length:Int):=C;obtain⟨Q,hQ⟩:=m9 iV;have a0:=HX.J.row;simp only[Ee]at a0;obtain⟨pb,rfl,_,f5,b3,_⟩:=a0.cells C;obtain⟨gu,mk,bd,cV⟩:=bm k Q jc hQ;obtain⟨bV,eg⟩:=fl bd cV;obtain⟨e0,e1,e2,e3,e4⟩:=bd;have d0:=(b3 (k*5) C).H e0;have d1:=(b3 (k*5+1) C).H e1;have d3:=(b3 (k*5+3) C).H e3;have bW:w.heap.size<wr.heap.size:=(ae.1 y.box).1;obtain⟨x0,x1⟩:=rO y.box 0 1 rfl;have HQ:=fu hQ;obtain⟨ak,a8⟩:=dS (jZ W.n W.m k);obtain⟨ar,a9⟩:=dS Q.up;rw[a8]at d0;rw[a9]at d3;obtain⟨F,am⟩:=fl a8 a9;have ad:Hid (¬(ak=tt/\ar=true)->∀nq,∃(k':Nat) (d:Nat->Nat),k'=k+1/\d=bp/\HF w aY (wr.drewN nq) d w.heap.size (dk gd D.length cap) fr tt (dk da D.length dc) D/\jJ (wr.drewN nq) d g {T with pl:=W.pY l k'} ⟨dk (G pb) W.pl.length pc,dk aa W.ac.length ac,lv,cv,hv,mv,ps,aw,ls,cs,tp⟩/\Old W ps k' (wr.drewN nq) d):=by
   intro bX nq;have hb:=(Bl.refl wr).drewN nq;have c0:¬(jZ W.n W.m k=l.tt/\Q.up=true):=by rw[F.o,am.o,b7.2];exact bX
   refine⟨k+1,bp,rfl,rfl,y.step (jq.B hb λ_ _=>rfl),?_,bm.B (P:=λ_=>False) (jq.B hb λ_ _=>rfl) pK (λ_ _ _ _ _ e=>e) bg⟩;rw[Qo hQ c0];exact HX.bl hb λ_ _=>rfl
  have al:Hid (ak=tt->ar=true->∀Z,Bl wr Z->ib 101 #[O gu,I fr,dk gd D.length cap] Z λen w'=>en=gS/\∃d,jq (λt=>t=10+3*k\/t=11+3*k) wr bp w' d/\jJ w' d g {T with pl:=W.pY l (k+1)} ⟨dk (G pb) W.pl.length pc,dk aa W.ac.length ac,lv,cv,hv,mv,ps,aw,ls,cs,tp⟩):=by
   intro h1 h2 Z ai;have kb:jq (λ_=>False) wr bp Z bp:=jq.B ai λ_ _=>rfl;refine(cf k gu mk Q Z bp _ HQ (F.H h1) (eg.B kb aq aq aq) ((bq wr bp _ _ y).bl ai)).L ?_;rintro en w'⟨rfl,d,k2,ei⟩;refine⟨rfl,d,(jq.B ai λ_ _=>rfl).H k2,?_⟩;have c1:=HX.bl (bp:=bp) ai λ_ _=>rfl;obtain⟨a1,a2,a3,a4,a5,a6,a7⟩:=bc.o;have:=c1.UT (u:=k) (k2.L λt e=>by obtain e|e:=e;exact .inl e;exact .inr (.inl e)) (P0:=Q) (P1:=Q.recv W.n W.m W.v W.ce fr l.pk) (by show(W.pY l k)[k]?=_;rw[QY];exact HQ) (gu:=gu) (mk:=mk) (by
    have hu:(Q.recv W.n W.m W.v W.ce fr l.pk).up=Q.up/\(Q.recv W.n W.m W.v W.ce fr l.pk).qk=Q.qk:=by
     unfold Pl.recv
     split
     .split<;>exact⟨rfl,rfl⟩
     .exact⟨rfl,rfl⟩
    rw[hu.1,hu.2]
    show Gs ps T.n T.m _ _ _ _ _
    rw[a1,a2]
    exact bV) (by
    show xP w' d T.n T.m T.v T.ce k gu T.iH mk _
    rw[a1,a2,a3,a4,a7]
    exact ei)
   rw[MF HQ.o (by rw[F.o,b7.2];exact h1) (am.H h2),b7.1];exact this
  clear b3 e0 e1 e2 e3 e4 a0 a8 a9 hQ cV;by_cases M:ak=tt
  .cases ar with
   |true=>
    have be:=fu (al M rfl);rw[M]at d0;clear M ad al F;go_upto_region 10 with fail;go_quiet(fail);go_upto_region 11 with fail;go_region_with(go_at_call 101;refine(be _ ?hb).L ?_;(case hb=>repeat(first|exact jo|refine Bl.drew ?_|refine Bl.drewN ?_ _));rintro en w5⟨rfl,d,k2,hX⟩;obtain⟨bn,S⟩:=fl k2 hX;clear k2 hX);all_goals(go_wp2)
    all_goals(refine⟨⟨k+1,d,C,gX,y.step (bn.L λt e=>.inl C),S,bm.B bn pK (λi t _ _ e=>C) bg⟩,gW⟩)
   |false=>have ag:=fu (ad λe=>absurd e.2 aq);rw[M]at d0;clear M ad al F;go_upto_region 10 with fail;go_quiet(fail);go_wp2;obtain⟨k',d,rfl,rfl,f1,f2,f3⟩:=ag nq;exact⟨⟨k+1,d,C,gX,f1,f2,f3⟩,gW⟩
  have ej:decide (ak=tt)=false:=by simpa using M
  have ag:=fu (ad λe=>M e.1);clear ad al F;go_upto_region 10 with fail;go_quiet(fail);go_wp2;obtain⟨k',d,rfl,rfl,f1,f2,f3⟩:=ag nq;exact⟨⟨k+1,d,C,gX,f1,f2,f3⟩,gW⟩
 have d4:¬((k:Int)<(W.pl.length:Int)):=C;have bo:k=W.pl.length:=C;have d5:Hid (jJ wr bp g {T with pl:=W.pY l W.pl.length,ac:=W.rF l 0} ⟨dk pa W.pl.length pc,dk aa W.ac.length ac,lv,cv,hv,mv,ps,aw,ls,cs,tp⟩):=by have:=HX.o;rw[bo]at this;rw[show W.rF l 0=T.ac from J4.H bc.2.2.2.2.2.1.symm];exact this
 clear HX bm cf;go_wp2;clear c4 bT hk d4 bo;go_loopw[8](λi wx=>∃(k:Nat) (d:Nat->Nat),k<=W.ac.length/\i=I k/\Hid (HF w aY wx d w.heap.size (dk gd D.length cap) fr tt (dk da D.length dc) D)/\Hid (jJ wx d g {T with pl:=W.pY l W.pl.length,ac:=W.rF l k} ⟨dk pa W.pl.length pc,dk aa W.ac.length ac,lv,cv,hv,mv,ps,aw,ls,cs,tp⟩)) λi _=>W.ac.length-(Go.RowKit.intOf i).toNat
 case atStart=>exact⟨0,bp,jd,rfl,y,d5⟩
 clear y d5 bp;obtain⟨k,bp,hk,rfl,y,HX⟩:=hrel;have c5:=HX.cellAt 5 rfl;have bT:=HX.lt;by_cases iV:k<W.ac.length
 .have cS:(k:Int)<(W.ac.length:Int):=C;obtain⟨Q,hQ⟩:=m9 iV;have a0:=HX.E.row;simp only[Nq]at a0;obtain⟨ab,rfl,_,f6,b5,_⟩:=a0.cells C;obtain⟨p,qb,bd,d6⟩:=HX.E.ac k Q (by show(W.rF l k)[k]?=_;rw[B6];exact hQ);obtain⟨bV,ek⟩:=fl bd d6;obtain⟨e0,e1,e2⟩:=bd;have d0:=(b5 (k*3) C).H e0;have d1:=(b5 (k*3+1) C).H e1;have d2:=(b5 (k*3+2) C).H e2;have bW:w.heap.size<wr.heap.size:=(ae.1 y.box).1;obtain⟨x0,x1⟩:=rO y.box 0 1 rfl;have HQ:=fu hQ;obtain⟨ak,a8⟩:=dS (iM k);obtain⟨ar,a9⟩:=dS Q.up;rw[a8]at d0;rw[a9]at d2;obtain⟨F,am⟩:=fl a8 a9;have ad:Hid (¬(ak=tt/\ar=true)->∀nq,∃(k':Nat) (d:Nat->Nat),k'=k+1/\d=bp/\HF w aY (wr.drewN nq) d w.heap.size (dk gd D.length cap) fr tt (dk da D.length dc) D/\jJ (wr.drewN nq) d g {T with pl:=W.pY l W.pl.length,ac:=W.rF l k'} ⟨dk pa W.pl.length pc,dk (G ab) W.ac.length ac,lv,cv,hv,mv,ps,aw,ls,cs,tp⟩):=by
   intro bX nq;have hb:=(Bl.refl wr).drewN nq;have c0:¬(iM k=l.tt/\Q.up=true):=by rw[F.o,am.o,b7.2];exact bX
   refine⟨k+1,bp,rfl,rfl,y.step (jq.B hb λ_ _=>rfl),?_⟩;rw[QJ hQ c0];exact HX.bl hb λ_ _=>rfl
  have al:Hid (ak=tt->ar=true->∀Z,Bl wr Z->ib 102 #[O p,I fr,dk gd D.length cap] Z λen w'=>en=gS/\∃d,jq (λt=>100<=t/\t<356) wr bp w' d/\jJ w' d g {T with pl:=W.pY l W.pl.length,ac:=W.rF l (k+1)} ⟨dk pa W.pl.length pc,dk (G ab) W.ac.length ac,lv,cv,hv,mv,ps,aw,ls,cs,tp⟩):=by
   intro h1 h2 Z ai;have kb:jq (λ_=>False) wr bp Z bp:=jq.B ai λ_ _=>rfl;refine(e7 k p Q qb Z bp _ HQ (F.H h1) (ek.bl ai λ_ _=>rfl) ((bq wr bp _ _ y).bl ai) y.data.aY).L ?_;rintro en w'⟨rfl,d,k2,el⟩;have k3:=k2.L (Q:=λt=>100<=t/\t<356) λt e=>by unfold Mc at e;omega
   refine⟨rfl,d,(jq.B ai λ_ _=>rfl).H k3,?_⟩;have c1:=HX.bl (bp:=bp) ai λ_ _=>rfl;have:=c1.Qa (u:=k) k2 (λt e=>.inl (by unfold Mc at e;omega)) (A:=Q) (by show(W.rF l k)[k]?=_;rw[B6];exact HQ) bV el;rw[Ow HQ.o (by rw[F.o,b7.2];exact h1) (am.H h2),b7.1];exact this
  clear b5 e0 e1 e2 a0 a8 a9 hQ d6;by_cases M:ak=tt
  .cases ar with
   |true=>
    have be:=fu (al M rfl);rw[M]at d0;clear M ad al F;go_upto_region 15 with fail;go_quiet(fail);go_upto_region 16 with fail;go_region_with(go_at_call 102;refine(be _ ?hb).L ?_;(case hb=>repeat(first|exact jo|refine Bl.drew ?_|refine Bl.drewN ?_ _));rintro en w5⟨rfl,d,k2,hX⟩;obtain⟨bn,S⟩:=fl k2 hX;clear k2 hX);all_goals(go_wp2)
    all_goals(refine⟨⟨k+1,d,C,gX,y.step (bn.L λt e=>.inr e),S⟩,gW⟩)
   |false=>have ag:=fu (ad λe=>absurd e.2 aq);rw[M]at d0;clear M ad al F;go_upto_region 15 with fail;go_quiet(fail);go_wp2;obtain⟨k',d,rfl,rfl,f1,f2⟩:=ag nq;exact⟨⟨k+1,d,C,gX,f1,f2⟩,gW⟩
  have ej:decide (ak=tt)=false:=by simpa using M
  have ag:=fu (ad λe=>M e.1);clear ad al F;go_upto_region 15 with fail;go_quiet(fail);go_wp2;obtain⟨k',d,rfl,rfl,f1,f2⟩:=ag nq;exact⟨⟨k+1,d,C,gX,f1,f2⟩,gW⟩
 have d4:¬((k:Int)<(W.ac.length:Int)):=C;have bo:k=W.ac.length:=C;have d7:Hid (jJ wr bp g (W.qJ l) ⟨dk pa W.pl.length pc,dk aa W.ac.length ac,lv,cv,hv,mv,ps,aw,ls,cs,tp⟩):=by have:=HX.o;rwa[bo,ef.o]at this
 have bW:w.heap.size<wr.heap.size:=(ae.1 y.box).1;have x2:wr.cell? (U w.heap.size 2)=some (dk da D.length dc):=ax wr _ 2 _ 138 (0,0) y.box;have v1:=lC _ D wr y.src.bs.sl;have v2:=lC _ D wr (iC y.data.gZ);have c2:=mF y.k y.data;clear y HX;go_wp2;go_loopw[10](λi wx=>∃(j:Nat) (ds:List Value),j<=D.length/\i=I j/\ds.length=D.length/\Hid (jq Ph w aY wx bp)/\Hid (mx wx bp 9 5 1 (dk gd D.length cap) D.length ds)/\Hid (jJ wx bp g (W.qJ l) ⟨dk pa W.pl.length pc,dk aa W.ac.length ac,lv,cv,hv,mv,ps,aw,ls,cs,tp⟩)) λi _=>D.length-(Go.RowKit.intOf i).toNat
 case atStart=>exact⟨0,D.map B8,jd,rfl,aq,c2.1,c2.2,d7⟩
 clear c2 d7 v1 v2 x2 bW c5 bT;obtain⟨j,ds,hj,rfl,em,d8,c3,d9⟩:=hrel;by_cases f7:j<D.length
 .have f9:(j:Int)<(D.length:Int):=C;obtain⟨ep,rfl,eq,fd,db,dg⟩:=c3.cells C;have y0:=(db j C).H (ah C);have y1:=dg j;generalize ds[j]=dj at*;clear db dg;go_wp2;have bA:jq (λs=>s=9) wr bp (wr.setCell (U ep j) (.int .u8 88)) bp:=ka eq j _;exact⟨⟨j+1,ds.set j (.int .u8 88),C,gX,iG em,d8.H (bA.L λt e=>.inr (.inr (.inl e))),⟨rC c3.gZ j _,c3.aY⟩,d9.B bA λt e=>.inr (.inr (.inl e))⟩,gW⟩
 have eu:¬((j:Int)<(D.length:Int)):=C;have dl:=fu (zv d9 e9 (by show W.iH+1<=_;omega) (by have:=ec.c;show W.bx.length<=_;omega));go_wp2_with(go_at_call 53;refine dl.L ?_;rintro en w9⟨rfl,dn,k9,h9⟩;obtain⟨er,H9⟩:=fl k9 h9;clear k9 h9);go_ret;exact⟨rfl,dn,d8.H (er.L λt e=>by unfold OT at e;unfold Ph;omega),by rw[cl.o (by first|rfl|trivial)];exact H9⟩
def Ud(h:jJ w aY g W V)(F:Wk W)(H:Sw W)(d:Ki W.jU)(l)(dv)(M:Rd w aY 98 5 dv (l.pk.bytes.map B8))(Q:tJ (W.B 0) W.n W.m W.v l):ib 66 #[O g,.agg #[I l.fr,I l.tt,dv]] w λy w'=>y=gG (.bool true)/\∃bp,jq Ph w aY w' bp/\Wx w' bp g (W.mO l):=by
 refine(IL h F H d l dv M Q).L ?_;rintro y w'⟨rfl,bp,k,S,x,_⟩;exact⟨rfl,bp,k,S,x⟩
def Pw(t:Nat):Prop:=t=1\/t=2\/t=4\/t=5\/t=8\/t=9\/t=97\/(10<=t/\t<52)\/(100<=t/\t<356)
theorem xh(h:Wk W)(k):∀d,(W.M k).iH<=(W.M (k+d)).iH
 |0=>jc
 |d+1=>by rw[<-cG,pf];exact aF (xh h k d) (yD _ _).1.iH
def FB(W:Wd)(d:List Le)(j)(x)(h:d[j]?=some x):W.kW (d.take (j+1))=(W.kW (d.take j)).mO x:=by unfold Wd.kW;rw[cW,h,dN];rfl
theorem Ip(h:jJ w aY g W V)(hW:Wk W)(hS:Sw W.step)(aw:Ki W.jU)(ca:0<W.ac.length):ib 68 #[O g] w λen w'=>en=gG (.tuple #[I W.iE.iq.length,.bool true])/\∃bp,jq Pw w aY w' bp/\Wy w' bp g W.step V.cv:=by
 have b0:=h.ht;obtain⟨cv,ag⟩:=dS V.cv;have bs:=fu ag;rw[ag];clear ag;obtain⟨tp,Y⟩:=dS V.tp;obtain⟨tq,b1⟩:=dS (105-tp);rw[Y]at b0;have bv:tq=8\/tq=97:=C;have cb:tp≠tq:=C;obtain⟨la,lc,ai⟩:=h.po.row.E;have Z:=h.po;rw[ai,Y]at Z;have cc:=h.a;have cd:=h.an;obtain⟨NN,bw⟩:=dS (W.pl.length+W.ac.length);obtain⟨o1,o2,o3,o4⟩:=BK hW;obtain⟨s1,s2,s3,s4,s5⟩:=rf hW;obtain⟨g1,g2,g3⟩:=te hW;have bA:Hid (∀k,k<NN->Wk (W.M k)/\Sw (W.M k)/\(W.M k).pl.length=W.pl.length/\(W.M k).ac.length=W.ac.length):=λk hk=>by
  obtain⟨a1,a2,a3,a4⟩:=vP hW k;have hm:=xh hW k (NN-k);rw[show k+(NN-k)=NN by omega]at hm;have he:(W.M NN).iH=W.iE.iH:=by rw[xX,bw]
  have hc:=hS.c;rw[s2.ca]at hc;exact⟨a1,⟨gI hS.a,by rw[a2.ca];exact hc⟩,a2.pl,a2.ac⟩
 obtain⟨L,hL⟩:=dS W.iE.iq.length;obtain⟨M,a0⟩:=dS (({W.iE with iq:=W.iq}:Wd):Wd);rw[a0]at g1 g2 g3;have bB:Hid (∀j x,W.iE.iq[j]?=some x->Wk (M.kW (W.iE.iq.take j))/\Sw (M.kW (W.iE.iq.take j))/\(M.kW (W.iE.iq.take j)).jU=W.jU/\tJ ((M.kW (W.iE.iq.take j)).B 0) (M.kW (W.iE.iq.take j)).n (M.kW (W.iE.iq.take j)).m (M.kW (W.iE.iq.take j)).v x):=λj x hx=>by
  have ak:∀l∈W.iE.iq,tJ (M.B 0) M.n M.m M.v l:=by rw[g2.n,g2.m,g2.v];exact g3
  obtain⟨r1,r2,r3,r4⟩:=vz (W.iE.iq.take j) g1 λl hl=>ak l (ed _ _|>.subset hl);obtain⟨_,_,q3,_⟩:=vz W.iE.iq g1 ak;have cf:W.step.iH=M.iH+W.iE.iq.length:=by rw[<-q3,<-a0];rfl
  have hc:=hS.c;rw[s2.ca]at hc;refine⟨r1,⟨?_,by rw[r2.ca,g2.ca];exact hc⟩,r2.ms.H g2.ms,r2.le (ak x (aR hx))⟩;have:=hS.a;rw[r3];have:(W.iE.iq.take j).length<=W.iE.iq.length:=by rw[bH];omega
  omega
 have a5:W.step=M.kW W.iE.iq:=by rw[<-a0];rfl
 have c6:=h.cellAt 6 rfl;rw[ai]at c6;have f6:=h.F 6;have lg:=h.lt;have h1:=h.IB (sX.nil (w:=w) (aY:=aY) tq) bv;have k1:jq (λs=>s=1) w aY (w.setCell (U g 6) OO) aY:=ka h.tg 6 _;have a6:=Z.B k1 C C;obtain⟨W1,al⟩:=dS (w.setCell (U g 6) OO);rw[al]at h1 k1 a6;obtain⟨b3,H1,Hh⟩:=gV al (And.intro h1 (And.intro (k1.L (Q:=Pw) λt e=>.inl e) a6)) (And.intro a0 a5);obtain⟨HL,bC⟩:=fl hL aw;have ad:Hid (W.iE.pl.length=W.pl.length/\W.iE.ac.length=W.ac.length):=⟨o2.pl,o2.ac⟩;rw[hL];clear h hW hS h1 k1 a6 al Z o1 o2 o3 s1 s2 s3 s4 s5 g1 g2 g3 a0 a5 aw ai Y b1;generalize V.ls=bD at*;go_enter func68,ntmps68;go_upto_region 3 with fail;rw[b3.o];clear b3 c6 f6;go_wp2;go_loopw[5](λi wr=>∃(k:Nat) (bp:Nat->Nat) (V':WV),k<=NN/\i=I k/\V'.tp=tq/\Hid (V'.cv=cv)/\Hid (jJ wr bp g (W.M k) V')/\Hid (jq Pw w aY wr bp)/\Hid (sX wr bp tp W.iq (dk la W.iq.length lc) bD)) λi _=>NN-(Go.RowKit.intOf i).toNat
 case atStart=>exact⟨0,aY,_,jd,rfl,rfl,by exact bs,H1.1,H1.2.1,H1.2.2⟩
 clear H1;obtain⟨k,bp,V',hk,rfl,b4,b5,HX,HK,HP⟩:=hrel;obtain⟨pa,pc,bE⟩:=HX.J.row.E;obtain⟨aa,ac,bR⟩:=HX.E.row.E;obtain⟨c4,c5⟩:=HX.M 4 5 rfl;rw[bE]at c4;rw[bR]at c5;have cg:=HX.lt;by_cases iV:k<NN
 .obtain⟨a1,a2,a3,a4⟩:=bA k iV;rw[a3]at c4;rw[a4]at c5;have c8:(k:Int)<(W.pl.length:Int)+(W.ac.length:Int):=C;have HO:Hid (∀Wm,Bl wr Wm->ib 65 #[O g,I k] Wm λen w'=>en=gG (.bool true)/\∃y,jq (Po tq) wr bp w' y/\∃V2,V2.tp=tq/\V2.cv=cv/\jJ w' y g (W.M (k+1)) V2):=by
   intro Wm hb;rw[pf];have bT:pk (k:Int) ((W.M k).pl.length+(W.M k).ac.length)=(k:Int):=by unfold pk;rw[az C];exact Int.emod_eq_of_lt C C
   refine(S9 (HX.bl (bp:=bp) hb λ_ _=>rfl) a1 a2 (k:Int) C C k bT C).L ?_;rintro en w'⟨e,y,k2,V2,e2,e3,hX⟩;rw[b4]at k2 e2;exact⟨e,y,(jq.B (bp:=bp) hb λ_ _=>rfl).H k2,V2,e2,e3.H b5,hX⟩
  clear a1 a2 a3 a4;go_upto_region 4 with fail;go_quiet(fail);go_wp2_with(go_at_call 65;refine(HO _ (jo.drewN _)).L ?_;rintro en w2⟨rfl,y,k2,V2,e2,e3,T⟩;obtain⟨b6,bV,bW,bX⟩:=ju k2 T e2 e3;clear k2 T e2 e3);exact⟨⟨k+1,y,V2,C,gX,bW,bX,bV,HK.H (b6.L λt e=>by unfold Po at e;unfold Pw;omega),HP.B b6 (by unfold Po;omega) (by unfold Po;omega)⟩,gW⟩
 have ch:¬((k:Int)<(W.pl.length:Int)+(W.ac.length:Int)):=C;have T:=HX.o;rw[show k=W.pl.length+W.ac.length by omega]at T;have d:jJ wr bp g W.iE V':=T;rw[show(W.M k).pl.length=W.pl.length by rw[show k=W.pl.length+W.ac.length by omega];exact ad.1]at c4;rw[show(W.M k).ac.length=W.ac.length by rw[show k=W.pl.length+W.ac.length by omega];exact ad.2]at c5;obtain⟨lb,c0,a7⟩:=d.po.row.E;rw[HL.o]at a7;obtain⟨b7,b8⟩:=fl d a7;clear HX T d a7;go_upto_region 4 with fail;go_quiet(fail);obtain⟨W2,am⟩:=dS (wr.drewN nq);have b2:Bl wr W2:=by rw[<-am];exact jo.drewN nq
 rw[am];clear am;have d:=b7.bl (bp:=bp) b2 λ_ _=>rfl;have c6:=d.cellAt 6 rfl;rw[b8.o]at c6;have f6:=d.F 6;have ci:=d.lt;have an:=d.po;rw[b8.o,b4]at an;have b9:=HP.B (P:=λ_=>False) (jq.B (bp:=bp) b2 λ_ _=>rfl) aq aq;have h4:=d.IB b9 b0;have k4:jq (λs=>s=1) W2 bp (W2.setCell (U g 6) (dk la W.iq.length lc)) bp:=ka d.tg 6 _;have a8:=an.B k4 C C;have ap:=(HK.H (jq.B (bp:=bp) b2 λ_ _=>rfl)).H (k4.L (Q:=Pw) λt e=>.inl e);obtain⟨W3,ar⟩:=dS (W2.setCell (U g 6) (dk la W.iq.length lc));rw[ar]at h4 a8 ap;rw[Hh.1]at h4;obtain⟨ba,bb,bc,bd⟩:=ju h4 a8 ap ar;clear d an h4 k4 a8 ap HK b7 ar b2 b9 HP;go_upto_region 11 with fail;rw[bd.o];clear bd c6 f6 c4 c5;go_wp2;generalize V'.ls=c1 at*;go_loopw[8](λi wx=>∃(j:Nat) (F:Nat->Nat) (Vx:WV),j<=L/\i=I j/\Hid (jq Pw w aY wx F)/\Hid (Vx.cv=cv)/\Hid (jJ wx F g (M.kW (W.iE.iq.take j)) Vx)/\Hid (sX wx F tq W.iE.iq (dk lb L c0) c1)) λi _=>L-(Go.RowKit.intOf i).toNat
 case atStart=>(refine⟨0,bp,_,jd,rfl,bc,?_,by rw[eE];exact ba,bb⟩;exact b5)
 clear bc ba bb;obtain⟨j,F,Vx,hj,rfl,be,bg,bi,av⟩:=hrel;by_cases c2:j<L
 .have ck:(j:Int)<(L:Int):=C;have bm:j<W.iE.iq.length:=jP HL.o c2;obtain⟨x,hx⟩:=m9 bm;obtain⟨a1,a2,a3,a4⟩:=bB j x hx;obtain⟨e0,e1,dv,e2,e3⟩:=av.l j x hx;have a9:=av.row;rw[HL.o]at a9;obtain⟨cl,rfl,_,cn,S,_⟩:=a9.cells C;have d0:=(S (j*3) C).H e0;have d1:=(S (j*3+1) C).H e1;have d2:=(S (j*3+2) C).H e2;have HH:=fu (IL bi a1 a2 (jP a3 bC) x dv e3 a4);rw[<-FB M W.iE.iq j x hx]at HH;obtain⟨da,dc,rfl⟩:=e3.E;generalize x.fr=xf at*;generalize x.tt=xt at*;rw[ay]at d2 HH;generalize x.pk.bytes.length=bl at*;clear S e0 e1 e2 e3 a9 a1 a2 a3 a4 hx bm;go_wp2_with(go_at_call 66;refine HH.L ?_;rintro en w5⟨rfl,bn,k5,V5,h5,e5⟩;obtain⟨bo,c3,c7⟩:=gV k5 h5 (e5.H bg);clear k5 h5 e5);exact⟨⟨j+1,bn,V5,C,gX,be.H (bo.L λt e=>by unfold Ph at e;unfold Pw;omega),c7,c3,av.B bo (by unfold Ph;omega) (by unfold Ph;omega)⟩,gW⟩
 have c9:¬((j:Int)<(L:Int)):=C;have ab:=bi.o;rw[bI (qj HL.o),<-Hh.2]at ab;have bq:=fu ab;clear ab;go_wp2;go_ret2;exact⟨rfl,F,be,_,bq,bg⟩
def Jn(W:Wd)(k):W.lJ (k+1)=if W.iE.iq.length=0 then(W.step,true)else W.step.lJ k:=rfl
theorem wY(h:jJ w aY g W V)(hW:Wk W)(d:Nat)(hm:d<=300)(hS:W.iH+2422*d<=3000000000)(hC:W.bx.length<=9999999)(Z:Ki W.jU)(a1:0<W.ac.length):ib 58 #[O g,I d] w λen w'=>en=gG (.bool (W.lJ d).2)/\∃bp,jq Pw w aY w' bp/\Wy w' bp g (W.lJ d).1 V.cv:=by
 have H:=lZ h hW Z;clear h hW Z;go_enter func58,ntmps58;go_wp2_with fail;go_loopw[5](λi wr=>∃(k:Nat) (bp:Nat->Nat) (y:Wd) (Vc:WV),k<=d/\i=I k/\Hid (jq Pw w aY wr bp)/\Hid (jJ wr bp g y Vc/\Vc.cv=V.cv)/\Hid (Wk y/\y.lJ (d-k)=W.lJ d/\y.iH+2422*(d-k)<=3000000000/\y.bx.length<=9999999/\Ki y.jU/\0<y.ac.length)) λi _=>d-(Go.RowKit.intOf i).toNat
 case atStart=>exact⟨0,aY,W,V,C,rfl,jq.refl,⟨H.1,rfl⟩,H.2.1,rfl,hS,hC,H.2.2,a1⟩
 clear H;obtain⟨k,bp,y,Vc,hk,rfl,HK,HX,HI⟩:=hrel;by_cases iV:k<d
 .have a4:(k:Int)<(d:Int):=C;obtain⟨i1,M,i3,i4,i5,i6⟩:=HI.o;obtain⟨s1,Y,s3,s4,s5⟩:=rf i1;have a0:d-k=(d-(k+1))+1:=C;have Q:Sw y.step:=⟨C,by rw[Y.ca];exact i4⟩;have HS:=fu (Ip HX.1 i1 Q i5 i6);obtain⟨L,hL⟩:=dS y.iE.iq.length;rw[hL]at HS;rw[a0,Jn,hL]at M;by_cases h0:L=0
  .rw[aE h0]at M;have a2:=fu M;subst h0;clear i1 M i3 i4 i5 i6 s1 Y s3 s4 s5 Q HI;go_wp2_with(go_at_call 68;refine HS.L ?_;rintro en w5⟨rfl,F,k5,h5⟩;have S:=fu k5;have T:=fu (show Wy w5 F g y.step V.cv from by rw[<-HX.2];exact h5);clear k5 h5);go_ret;rw[<-a2.o];exact⟨rfl,F,HK.H S,T⟩
  have a5:¬((L:Int)=0):=C;rw[az h0]at M;have a3:Hid (Wk y.step/\y.step.lJ (d-(k+1))=W.lJ d/\y.step.iH+2422*(d-(k+1))<=3000000000/\y.step.bx.length<=9999999/\Ki y.step.jU/\0<y.step.ac.length):=⟨s1,M,C,by rw[Y.ca];exact i4,by rw[Y.ms];exact i5,by rw[Y.ac];exact i6⟩;clear i1 M i3 i4 i5 i6 s1 Y s3 s4 s5 Q HI h0 hL;go_wp2_with(go_at_call 68;refine HS.L ?_;rintro en w5⟨rfl,F,k5,V5,h5,e5⟩;obtain⟨S,T⟩:=fl k5 (And.intro h5 (e5.H HX.2));clear k5 h5 e5);exact⟨⟨k+1,F,_,V5,C,gX,HK.H S,T,a3⟩,gW⟩
 have a6:¬((k:Int)<(d:Int)):=C;have hz:Hid ((y,false)=W.lJ d):=by have:=HI.2.1;rwa[show d-k=0 by omega]at this
 go_wp2;go_ret;rw[<-hz.o];exact⟨rfl,bp,HK,_,HX.1,HX.2⟩
def UD(h:jJ w aY g W V)(H:Wk W)(M:Sw W.step)(d:Ki W.jU)(y:0<W.ac.length):ib 68 #[O g] w λF w'=>F=gG (.tuple #[I W.iE.iq.length,.bool true])/\∃bp,jq Pw w aY w' bp/\Wx w' bp g W.step:=by
 refine(Ip h H M d y).L ?_;rintro F w'⟨rfl,bp,k,Q,x,_⟩;exact⟨rfl,bp,k,Q,x⟩
def C4(h:jJ w aY g W V)(H:Wk W)(most)(M:most<=300)(Q:W.iH+2422*most<=3000000000)(S:W.bx.length<=9999999)(d:Ki W.jU)(y:0<W.ac.length):ib 58 #[O g,I most] w λF w'=>F=gG (.bool (W.lJ most).2)/\∃bp,jq Pw w aY w' bp/\Wx w' bp g (W.lJ most).1:=by
 refine(wY h H most M Q S d y).L ?_;rintro F w'⟨rfl,bp,k,T,x,_⟩;exact⟨rfl,bp,k,T,x⟩
section
variable{W':Wd}
def mS(x)(h:0<n):jh x n<n:=by have:=kI x n C;unfold jh;omega
def KC(h:Wk W)(i):Wk (W.nz i)/\nW W (W.nz i)/\(W.nz i).iH<=W.iH+1/\(W.nz i).iq=W.iq/\(W.nz i).a=W.a/\(W.nz i).bx=W.bx:=by
 unfold Wd.nz;split
 .exact⟨h,nW.refl W,pK,rfl,rfl,rfl⟩
 rename_i A d;split
 .exact⟨h.mM d (h.ac i A d).kR,⟨rfl,rfl,rfl,rfl,rfl,cy ..,rfl,rfl,rfl,pK,iI⟩,jc,rfl,rfl,rfl⟩
 exact⟨h,nW.refl W,pK,rfl,rfl,rfl⟩
def Wd.Z(W:Wd)(k:Nat):Wd:=(List.range k).foldl Wd.nz W
def uR(W:Wd)(k):W.Z (k+1)=(W.Z k).nz k:=by unfold Wd.Z;rw[dp,dN];rfl
theorem ru(h:Wk W):∀k,Wk (W.Z k)/\nW W (W.Z k)/\(W.Z k).iH<=W.iH+k/\(W.Z k).iq=W.iq/\(W.Z k).bx=W.bx
 |0=>⟨h,nW.refl W,jc,rfl,rfl⟩
 |k+1=>by obtain⟨d,y,T,F,H⟩:=ru h k;obtain⟨L,M,Y,Q,Z,S⟩:=KC d k;rw[uR];exact⟨L,y.H M,C,Q.H F,S.H H⟩
def xY(h:Wk W)(hA:W.ac[i]?=some A)(hw:n∈A.X.jl)(t):Wk (W.pA i A n t):=by
 have hk:=h.ac i A hA;have Q:∀c:Kl,(if c.a=i/\c.b=n then{c with c:=c.c++[t]}else c:Kl).a=c.a/\(if c.a=i/\c.b=n then{c with c:=c.c++[t]}else c:Kl).b=c.b:=λc=>by split<;>exact⟨rfl,rfl⟩
 obtain⟨Wn,M⟩:=dS ((({W with iH:=W.iH+1}:Wd).AS i n t):Wd);have y:Wn.bx=W.bx.map λc=>if c.a=i/\c.b=n then{c with c:=c.c++[t]}else c:=by rw[<-M];rfl
 have a9:Wn.bx.length=W.bx.length:=by rw[y,ay]
 have aa:Wn.iH=W.iH+1:=by rw[<-M];rfl
 have hJ:∀j a b c d e,W.J j a b c d e->Wn.J j a b c d e:=by
  rintro j a b c d e⟨k,hk,h1,h2,h3,h4,h5,h6,h7⟩;refine⟨_,by rw[y];exact aD.2 ⟨k,hk,rfl⟩,(Q k).1.H h1,(Q k).2.H h2,?_⟩;split
  .exact⟨h3,h4,λe=>(h5 e).imp (λe=>e) λe=>dG _ e,h6,h7⟩
  exact⟨h3,h4,h5,h6,h7⟩
 have T:Wk Wn:=by
  have hn:=h.nw;have Y:=tU W Wn 0 0 C C;have en:Wn.n=W.n/\Wn.m=W.m/\Wn.v=W.v/\Wn.ce=W.ce/\Wn.pl=W.pl/\Wn.ac=W.ac/\Wn.iq=W.iq/\Wn.a=W.a/\Wn.kS=W.kS++[t]/\Wn.jU=W.jU:=by rw[<-M];exact⟨rfl,rfl,rfl,rfl,rfl,rfl,rfl,rfl,rfl,rfl⟩
  obtain⟨Z,e2,S,e4,e5,e6,e7,e8,e9,a5⟩:=en;refine⟨by rw[Z];exact h.n1,by rw[e2];exact h.m1,by rw[S];exact h.v1,by rw[S];exact h.v2,by rw[e4];exact h.c1,by rw[e5,Z,e2,S];exact h.pl,λj P hP=>?_,by rw[e6];exact h.al,λj B hB=>?_,λl hl=>?_,by rw[e7];have:=h.a;omega,qj e8,gI h.cl,λc hc=>?_,by rw[e9];have:=h.hd;simp;omega,by rw[a5];exact h.ms⟩
  .rw[e5]at hP;rw[Z,e2,S];exact(h.pk j P hP).L Y
  .rw[e6]at hB;refine⟨(h.ac j B hB).x.L (Fc W Wn j C C Z e2 S e4 (hJ j)),?_⟩;rw[y,dZ,br];have ef:((λc:Kl=>c.a==j)∘λc:Kl=>if c.a=i/\c.b=n then{c with c:=c.c++[t]}else c)=λc:Kl=>c.a==j:=by funext c;simp only[Function.comp];rw[(Q c).1]
   rw[ef,<-(h.ac j B hB).nm];exact bf λc _=>(Q c).2
  .rw[e7]at hl;rw[Z,e2,S];exact(h.po l hl).L Y
  rw[y]at hc;obtain⟨d,hd,rfl⟩:=aD.1 hc;have F:=h.ca d hd;have a0:∀c:Kl,c.a=d.a->c.b=d.b->c.fin=d.fin->c.r=d.r->c.kind=d.kind->c.pos=d.pos->c.value=d.value->c.d=d.d->c.c.length<=d.c.length+1->TW Wn c:=λc q1 q2 q3 q4 q5 q6 q7 q8 q9=>by obtain⟨A',a1,a2,a3⟩:=F.ac;have:=F.tk;exact⟨⟨A',by rw[e6,q1];exact a1,jP q2 a2,λu f=>by rw[q2,q4];exact a3 u (qO q3 f)⟩,by rw[q5];exact F.kd,by rw[q6];exact F.po,by rw[q7];exact F.vl,C,by rw[q8,e8];exact F.bg,by rw[q3,e8];exact F.fi,by rw[q4];exact F.r,λf=>by rw[q4];exact F.fw (qO q3 f)⟩
  split
  .exact a0 _ rfl rfl rfl rfl rfl rfl rfl rfl aq
  exact a0 _ rfl rfl rfl rfl rfl rfl rfl rfl C
 have a4:Wn.ac[i]?=some A:=qO M hA;show Wk (Wd.mM _ i (A.X.jv n t));rw[M];refine T.mM a4 ((T.ac i A a4).jv n t λc hc hn=>?_);obtain⟨k,a6,h1,h2,h3,h4,h5,h6,h7⟩:=((hk.x.a c hc).st:W.J i c.gH c.kind c.gZ c.unit c.iS);refine⟨_,by rw[y];exact aD.2 ⟨k,a6,rfl⟩,(Q k).1.H h1,(Q k).2.H h2,?_⟩;rw[aE ⟨h1,h2.H hn⟩];obtain⟨c1,a7,a8⟩:=aD.1 hw;obtain⟨m1,m2⟩:=aU.1 a7;have e:c1=c:=hk.x.pd.eq m1 hc (a8.H hn.symm);subst e;have k1:c1.kind=1:=by unfold Cx.lV at m2;simp only[bL,ZT]at m2;exact m2.1
 exact⟨h3,h4,λ_=>.inr (cM _ (cw.2 rfl)),λe=>by rw[k1]at e;obtain e|e|e:=e<;>exact absurd e au,λe=>absurd (k1.symm.H e) au⟩
def J0(W:Wd)(i n)(A)(t):(W.pA i A n t).n=W.n/\(W.pA i A n t).m=W.m/\(W.pA i A n t).v=W.v/\(W.pA i A n t).ce=W.ce/\(W.pA i A n t).pl=W.pl/\(W.pA i A n t).ac.length=W.ac.length/\(W.pA i A n t).bx.length=W.bx.length/\(W.pA i A n t).jU=W.jU/\(W.pA i A n t).iH=W.iH+2/\(W.pA i A n t).a=W.a/\(W.pA i A n t).iq=W.iq:=by unfold Wd.pA Wd.mM Wd.AS;simp_all
def uw(W:Wd)(a which t):W.jv a which t=W\/∃A n,W.ac[jh a W.ac.length]?=some A/\A.up=true/\n∈A.X.jl/\W.jv a which t=(W.pA (jh a W.ac.length) A n t).iY:=by
 unfold Wd.jv;split
 .simp
 rename_i A y;split
 .rename_i d;refine .inr ⟨A,_,y,d.1,?_,rfl⟩;have F:0<A.X.jl.length:=cU.2 d.2;rw[aS,ah (mS which F)];simp_all
 simp
def xQ(h:Wk W)(a which t):Wk (W.jv a which t)/\(W.jv a which t).iH<=W.iH+2/\(W.jv a which t).bx.length=W.bx.length/\(W.jv a which t).jU=W.jU/\(W.jv a which t).ac.length=W.ac.length/\(W.jv a which t).iq=W.iq/\(W.jv a which t).pl=W.pl:=by
 obtain e|⟨A,n,H,Z,L,e⟩:=uw W a which t
 .simp_all
 rw[e];obtain⟨g1,g2,g3,g4,M,Q,S,T,F,Y,d⟩:=J0 W _ n A t;have hn:=h.nw;have y:=zn (W.pA (jh a W.ac.length) A n t);refine⟨(xY h H L t).iY (qj F),by rw[show((W.pA _ A n t).iY).iH=(W.pA (jh a W.ac.length) A n t).iH from rfl,F];omega,by rw[y.ca,S],by rw[y.ms,T],by rw[y.ac,Q],d,M⟩
def GU(X:Cx)(kind pos)(value):(X.Z kind pos value).res.length=X.res.length+1:=by
 have y:∀(Y:Cx) (c:jf),(Y.dO c).res=Y.res:=λY c=>by
  unfold Cx.dO;repeat' split
  all_goals rfl
 have d:∀(Y:Cx) (c:jf),(Y.kF c).res.length=Y.res.length:=λY c=>by
  unfold Cx.kF;repeat' split
  all_goals first|rfl|exact uH ..
 have F:∀c:jf,(X.iW c).res.length=X.res.length+1:=λc=>by simp[Cx.iW]
 unfold Cx.Z;split
 .exact F _
 split
 .show(Cx.dO _ _).res.length=_;rw[y];exact F _
 split
 .show(Cx.dO _ _).res.length=_;rw[y];exact F _
 split
 .show(Cx.dO _ _).res.length=_;rw[y];exact F _
 unfold Cx.change;dsimp only;split
 .rw[tT,d];exact F _
 rw[d];exact F _
def Xk.Z(h:Xk b X)(d:X.dd.length<8){kind pos:Int}{value:List Int}(H:kind=1\/kind=2\/kind=3\/kind=4\/kind=5)(L:kind=1->1<=value.length/\value.length<=8/\mA value)(F:kind=2\/kind=3->X.F pos)(M:kind=4->0<=pos/\pos<=X.n*X.ce)(Q:kind=5->r8 X.n X.m pos)(y:b.g.J X.res.length kind ⟨if kind=1 then 8 else if kind=3 then 9 else 0,X.id,X.res.length,if kind=1 then value else []⟩ (if kind=5 then pos else 0) (if kind=1\/kind=5 then 0 else pos)):Xk b.nc (X.Z kind pos value):=by
 obtain rfl|rfl|rfl|rfl|rfl:=H
 .obtain⟨S,T,Y⟩:=L rfl;exact h.append d (iG y) S T Y
 .exact h.yU d (iG y) (F (.inl rfl))
 .exact h.fill d (iG y) (F (.inr rfl))
 .exact h.rV d (iG y) (M rfl)
 exact h.change d (iG y) (Q rfl)
def uC(n):(je n).length=5/\mA (je n):=by refine⟨rfl,λd y=>?_⟩;unfold je at y;simp at y;omega
def vg(h:Wk W)(d:W.ac[i]?=some A):W.mR i=A.X.res.length:=by have:=Z5 List.length (h.ac i A d).nm;simpa [Wd.mR]using this
def EC(h:Wk W)(kind b)(H:kind=1\/kind=2\/kind=3\/kind=4\/kind=5):0<=W.jG kind b/\W.jG kind b<=48/\(kind=2\/kind=3->W.jG kind b<W.n*W.ce)/\(kind=4->W.jG kind b<=W.n*W.ce)/\(kind=5->W.jG kind b<W.n*W.m):=by
 have d:=h.n1;have y:=h.m1;have F:=h.c1;have Q:=IV d.2 F.2;have S:=tE d.2 y.2;have L:0<W.n*W.ce:=dQ d.1 F.1;have M:0<W.n*W.m:=dQ d.1 y.1;have T:=mS b (n:=W.lH) L;have Y:=mS b (n:=W.lH+1) (Nat.succ_pos _);have Z:=mS b (n:=W.n*W.m) M;have ht:W.lH=W.n*W.ce:=rfl;have c1:((W.n*W.ce:Nat):Int)=(W.n:Int)*W.ce:=aq;have c2:((W.n*W.m:Nat):Int)=(W.n:Int)*W.m:=aq;rw[<-c1,<-c2];obtain rfl|rfl|rfl|rfl|rfl:=H
 .exact⟨by simp[Wd.jG],by simp[Wd.jG],λe=>C,λe=>C,λe=>C⟩
 .have e:W.jG 2 b=jh b W.lH:=by simp[Wd.jG]
  rw[e];exact⟨C,C,λ_=>C,λ_=>C,λe=>C⟩
 .have e:W.jG 3 b=jh b W.lH:=by simp[Wd.jG]
  rw[e];exact⟨C,C,λ_=>C,λ_=>C,λe=>C⟩
 .have e:W.jG 4 b=jh b (W.lH+1):=by simp[Wd.jG]
  rw[e];exact⟨C,C,λe=>C,λ_=>C,λe=>C⟩
 have e:W.jG 5 b=jh b (W.n*W.m):=by simp[Wd.jG]
 rw[e];exact⟨C,C,λe=>C,λe=>C,λ_=>C⟩
def ti(h:Wk W)(hA:W.ac[i]?=some A)(h8:A.X.dd.length<8)(kind b)(hk:kind=1\/kind=2\/kind=3\/kind=4\/kind=5):Wk (W.m7 kind b i A):=by
 have hx:=h.ac i A hA;obtain⟨p1,p2,p3,p4,p5⟩:=EC h kind b hk;obtain⟨⟨c1,c2⟩,c3,c4,c5⟩:=hx.x.cf;have a0:A.X.n=W.n:=c1;have ad:A.X.m=W.m:=c2;have a7:A.X.ce=W.ce:=c4;have ag:A.X.id=iM i:=c5;have Z:=vg h hA;obtain⟨K,hK⟩:=dS ((⟨i,W.mR i,kind,W.jG kind b,W.kx kind,[],W.a,0,Rz.zero⟩:Kl):Kl);obtain⟨X',a4⟩:=dS (A.X.Z kind (W.jG kind b) (W.kx kind));obtain⟨W',Y⟩:=dS (W.m7 kind b i A);have y:W'.bx=W.bx++[K]:=by rw[<-Y,<-hK];rfl
 have a5:W'.ac=W.ac.modify i λB=>{B with X:=X'}:=by rw[<-Y,<-a4];rfl
 have en:W'.n=W.n/\W'.m=W.m/\W'.v=W.v/\W'.ce=W.ce/\W'.pl=W.pl/\W'.iq=W.iq/\W'.a=W.a/\W'.kS=W.kS/\W'.jU=W.jU/\W'.iH=W.iH+1:=by rw[<-Y];exact⟨rfl,rfl,rfl,rfl,rfl,rfl,rfl,rfl,rfl,rfl⟩
 obtain⟨e1,e2,e3,e4,e5,e6,e7,e8,e9,al⟩:=en;have ak:W'.bx.length=W.bx.length+1:=nI y;have a8:∀j a b c d e,W.J j a b c d e->W'.J j a b c d e:=by rintro j a b c d e⟨k,hk,hh⟩;exact⟨k,by rw[y];exact dG _ hk,hh⟩
 have a9:kind=1->1<=(W.kx kind).length/\(W.kx kind).length<=8/\mA (W.kx kind):=λe=>by unfold Wd.kx;rw[aE e];have:=uC W.bx.length;exact⟨C,C,this.2⟩
 have T:∀R:List Rz,(∀(k:Nat) (r:Rz),R[k]?=some r->r.wh≠0->A.X.res[k]?=some r)->Xk ⟨W.iH+1,200*W.iH+200,20*W.iH+20,W.bx.length+1,⟨R,W.n,W.m,W.v,W.ce,iM i,W'.J i⟩⟩ X':=λR hR=>by
  have h0:=hx.x;have hb:Xk ⟨W.iH,200*W.iH,20*W.iH,W.bx.length,⟨R,W.n,W.m,W.v,W.ce,iM i,W'.J i⟩⟩ A.X:=by have F:=h0.L (b':=⟨W.iH,200*W.iH,20*W.iH,W.bx.length,⟨[],W.n,W.m,W.v,W.ce,iM i,W'.J i⟩⟩) ⟨⟨iI,iI,iI,iI⟩,rfl,⟨⟨rfl,rfl⟩,rfl,rfl,rfl⟩,a8 i⟩;exact⟨F.n1,F.m1,F.v1,F.v2,F.c1,F.id,F.lay,F.e,F.t,F.me,F.ba,F.mb,F.d,F.f,F.rv,F.pl,λc hc=>(F.a c hc).L ⟨iI,iI,iI,iI⟩ (λ_ _ _ _ _ e=>e) iI,F.pr.L (λ_ e=>e.L ⟨iI,iI,iI,iI⟩) λ_ e=>e.L ⟨iI,iI,iI,iI⟩,F.sl.L (λ_ e=>e.L ⟨iI,iI,iI,iI⟩) λ_ e=>e.L ⟨iI,iI,iI,iI⟩,F.vt.L (λ_ e=>e.L ⟨iI,iI,iI,iI⟩) λ_ e=>e.L ⟨iI,iI,iI,iI⟩,λz hz=>(F.bg z hz).L ⟨iI,iI,iI,iI⟩,F.bl,F.mv,F.nk,F.pd,F.rp,hR,F.cf⟩
  have:=hb.Z h8 (kind:=kind) (pos:=W.jG kind b) (value:=W.kx kind) hk a9 (λe=>⟨p1,by rw[a0,a7];exact p3 e⟩) (λe=>⟨p1,by rw[a0,a7];exact p4 e⟩) (λe=>⟨p1,by rw[a0,ad];exact p5 e⟩) (by
   refine⟨K,by rw[y];exact cM _ (cw.2 rfl),?_⟩
   rw[<-hK]
   refine⟨rfl,Z,rfl,?_,λe=>?_,λe=>?_,λe=>?_⟩
   .rw[ag]
    congr 1
    show(if kind=1 then W.kx kind else [])=W.kx kind
    unfold Wd.kx
    split<;>rfl
   .exact .inl (by rw[aE (.inl e)])
   .rw[az C]
   .rw[aE e])
  rwa[a4]at this
 have hX:=T [] aq;have ai:=T A.X.res λ_ _ e _=>e;have aa:X'.res.length=A.X.res.length+1:=by rw[<-a4];exact GU ..
 have hn:=h.nw;have ab:=tU W W' 0 0 C C;have M:∀(j:Nat) B,W.ac[j]?=some B->W'.ac[j]?=some (if i=j then{B with X:=X'}else B):=λj B hB=>by rw[a5,bS,hB];rfl
 have ac:∀(B:Ac),W.ac[i]?=some B->B=A:=λB hB=>by rw[hA]at hB;simpa using hB.symm
 rw[Y];refine⟨by rw[e1];exact h.n1,by rw[e2];exact h.m1,by rw[e3];exact h.v1,by rw[e3];exact h.v2,by rw[e4];exact h.c1,by rw[e5,e1,e2,e3];exact h.pl,λj P hP=>?_,by rw[a5,cy];exact h.al,λj B hB=>?_,λl hl=>?_,by rw[e6];have:=h.a;omega,qj e7,gI h.cl,λc hc=>?_,by rw[e8];have:=h.hd;omega,by rw[e9];exact h.ms⟩
 .rw[e5]at hP;rw[e1,e2,e3];exact(h.pk j P hP).L ab
 .have hj:=(aj.1 hB).1;rw[a5,cy]at hj;obtain⟨B0,a6⟩:=m9 hj;have S:=M j B0 a6;rw[hB]at S;simp only[aJ]at S;have Q:(W'.bx.filter λc=>c.a==j).map (·.b)=(W.bx.filter λc=>c.a==j).map (·.b)++(if i=j then [A.X.res.length]else []):=by
   rw[y,cz,aZ,<-hK];congr 1;by_cases e:i=j
   .simp[e,<-Z]
   simp[e]
  by_cases e:i=j
  .subst e;rw[aE rfl]at S Q;rw[S];refine⟨hX.L ⟨⟨by show(W.iH:Int)+1<=W'.iH;omega,by show 20*(W.iH:Int)+20<=20*W'.iH;omega,by show(W.bx.length:Int)+1<=W'.bx.length;omega,by show 200*(W.iH:Int)+200<=200*W'.iH;omega⟩,rfl,⟨⟨e1,e2⟩,e3,e4,rfl⟩,λ_ _ _ _ _ e=>e⟩,?_⟩;rw[Q,hx.nm];show _=List.range X'.res.length;rw[aa,dp]
  rw[az e]at S Q;rw[S];exact⟨(h.ac j B0 a6).x.L (Fc W W' j C C e1 e2 e3 e4 (a8 j)),by rw[Q,cF];exact(h.ac j B0 a6).nm⟩
 .rw[e6]at hl;rw[e1,e2,e3];exact(h.po l hl).L ab
 rw[y]at hc;obtain hc|hc:=aT.1 hc
 .have H:=h.ca c hc;obtain⟨A',a1,a2,a3⟩:=H.ac;have am:=H.tk;refine⟨⟨_,M c.a A' a1,?_,λu f=>?_⟩,H.kd,H.po,H.vl,C,by rw[e7];exact H.bg,by rw[e7];exact H.fi,H.r,H.fw⟩
  .by_cases e:i=c.a
   .rw[aE e];rw[<-e]at a1;have:=ac A' a1;subst this;show c.b<X'.res.length;omega
   rw[az e];exact a2
  by_cases e:i=c.a
  .rw[aE e]at u|-;rw[<-e]at a1;have:=ac A' a1;subst this;exact ai.oj _ _ (a3 u f) (H.fw f)
  rw[az e]at u|-;exact a3 u f
 simp only[cw]at hc;subst hc;rw[<-hK];refine⟨⟨_,M i A hA,?_,λ_ f=>absurd rfl f⟩,hk,⟨p1,p2⟩,?_,jd,⟨hn.1,by rw[e7];exact iI⟩,⟨aA 0,jP e7 hn.1⟩,pS 0 au,λf=>absurd rfl f⟩
 .rw[aE rfl];show W.mR i<X'.res.length;omega
 show(W.kx kind).length<=8/\mA (W.kx kind);unfold Wd.kx;split
 .have:=uC W.bx.length;exact⟨C,this.2⟩
 exact⟨jd,by simp[mA]⟩
end
def Jr(w)(bm clk)(l)(d:w.heap[bm]?=some (.map (gR l) clk))(k)(h:∀e∈l,e.k≠k):(Instr.lookup 98 (.map (some bm)) (I k) true).run prog w=.ok (.tuple #[.pointer none,.bool false]) w:=by
 have y:=fa (w:=w) underlying3 (oR l k h);have F:=eW (P:=prog) (w:=w) (k:= I k) underlying3 sj (gR l).isEmpty 9999;have H:(Sem.run prog (zeroValue 163) w)=.ok (.pointer none) w:=ij;simp[Instr.lookup,Sem.run_bind,aI d,F,y,H]
section
variable{w1:World}{X':Cx}{V V':CV}{c c':jf}{cv cv':j7}
theorem KA(h:iN w aY t p qb X V)(H:∀c∈X.dd,c.q.nodes.length<=100)(n)(L:n∉X.jl)(a):ib 52 #[O p,I n,I a] w λT w'=>T=gG (I 7)/\w'=w:=by
 have c8:=h.cellAt 8 rfl;have lp:=h.B;by_cases d:∃c∈X.dd,c.gH=n
 .obtain⟨c,d,rfl⟩:=d;obtain⟨cv,M⟩:=h.r.a c d;have Y:Cx.lV c=false:=by
   cases e:Cx.lV c with
   |false=>rfl
   |true=>exact absurd (aD.2 ⟨c,aU.2 ⟨d,e⟩,rfl⟩) L
  have Q:=fu (pU M (H c d));rw[Y]at Q;have y:=h.oH d;have Z:=M.lt;clear h M L H;obtain⟨q,F⟩:=dS (qb c.gH);rw[F]at Q y Z;clear F;go_enter func52,ntmps52;go_wp2_with(first|(go_at_call 94;refine Q.L ?_;rintro T w1⟨rfl,rfl⟩));go_ret;exact⟨rfl,rfl⟩
 have y:=Jr w V.bm V.clk _ h.r.mp (n:Int) (λe he=>by
  obtain⟨c,S,rfl⟩:=aD.1 he
  intro e
  have e':(c.gH:Int)=n:=e
  exact d ⟨c,S,C⟩)
 clear h L H d;go_enter func52,ntmps52;go_wp2;go_ret;exact⟨rfl,rfl⟩
end
end Go.Proofs.YtbghhbpacijmmaaGreat
