import Derived.Test.YtbghhbpacijmmaaGreatL06
open Go.Proofs.Tryz
namespace Go.Proofs.YtbghhbpacijmmaaGreat
set_option maxRecDepth 99999
set_option maxHeartbeats 0
set_option linter.defProp false
open Go.RowKit Go.Maps Go.Shelf
open Go.ChangeMaps (setBlock)
attribute [local go_sem ↓] Go.wp_at_zero Go.wp_at_succ
variable {w w' w1:World} {cP fz qb:Nat->Nat} {t p b n j gm g r:Nat} {X X' Y Z:Cx} {c c':jn} {V V':CV} {cv cv':lE} {R:List (List Int)} {zz:List (Int×Vo)} {v:Value} {us vs:List Int} {u:Int} {cs:List Value} {S:Nat->Prop}
def Rd.ny{e e':TypeId}{y:Array Value}{f:Nat×Nat}(h:Rd w cP t e v cs)(F:gI (λb=>b=g) w w')(W:w.heap[g]?=some (ig y e' f))(L:e'≠e):Rd w' cP t e v cs:=by
 obtain h|⟨b,o,c,M,fr,P,Q,A,T⟩:=h
 .exact .inl h
 refine .inr ⟨b,o,c,M,fr,P,Q,(F.block b (ae.1 A).1 λe1=>?_).H A,T⟩;simp_all
def Yh(w):(zeroValue 3).run prog w=.ok (I 0) w:=rfl
def Mi(w:World)(b n:Nat)(M:Int->Int):Prop:=
 ∃D:DataW Value,w.ownsMap prog 3 Rv b n D/\IsMap D/\∀k,D.atKey (.int .i64 k) (.held (.int .i64 0))=.held (.int .i64 (M k))
def Mi.lt{M:Int->Int}(h:Mi w b n M):b<w.heap.size:=by obtain⟨D,y,_⟩:=h;exact y.lt
def Mi.pF{M:Int->Int}(h:Mi w b n M)(e:w'.heap[b]?=w.heap[b]?):Mi w' b n M:=by obtain⟨D,⟨A,y,F,H⟩,L⟩:=h;exact⟨D,⟨A,y,e.H F,H⟩,L⟩
def Mi.only{M:Int->Int}(h:Mi w b n M)(y:gI S w w')(A:¬S b):Mi w' b n M:=h.pF (y.block b h.lt A)
def Mi.bl{M:Int->Int}(h:Mi w b n M)(y:Bl w w'):Mi w' b n M:=h.pF (y.heap h.lt)
def Mi.Eu(w:World):Mi (w.alloc (.map #[] 0)) w.heap.size 0 (λ_=>0):=
 ⟨.map [],World.ownsMap_made w prog 3 Rv,⟨_,rfl⟩,λ_=>rfl⟩
def Mi.qI{M:Int->Int}(h:Mi w b n M)(k)(A:(Lit.int .i64 k).wf=true):(Instr.lookup 371 (.map (some b)) (I k) false).run prog w=.ok (I (M k)) w:=by obtain⟨D,F,L,H⟩:=h;obtain⟨v,ps,P,y⟩:=F.lookup N9 underlying371 (Yh w) rfl (keyOf_int_mk underlying3 A);rw[H]at y;simp only[Rv,aJ,Prod.mk.injEq,DataW.held.injEq]at y;simp_all
def Mi.put{M:Int->Int}(h:Mi w b n M)(k)(y:(Lit.int .i64 k).wf=true)(x)(F:n<maxLen):∃w',(Instr.mapUpdate 371 (.map (some b)) (I k) (I x)).run prog w=.ok () w'/\Mi w' b (n+1) (λj=>if j=k then x else M j)/\gI (λx=>x=b) w w':=by
 obtain⟨D,H,A,P⟩:=h;obtain⟨w',Q,T,W⟩:=H.update N9 underlying371 F (keyOf_int_mk underlying3 y) rfl;refine⟨w',Q,⟨_,T,?_,λj=>?_⟩,(gI.A W).L λx _ e=>je e⟩
 .obtain⟨es,rfl⟩:=A;exact⟨_,rfl⟩
 show _=DataW.held (I (if j=k then x else M j));by_cases e:j=k
 .subst e;rw[aE rfl,atKey_put_same A (N9.key (keyOf_int_mk underlying3 y))]
 rw[az e,atKey_put_other (je e),P]
def tN(b:Int)(l:List Vo):Nat:=(l.filter λv=>v.ba==b).length
def MD(b)(v)(l):tN b (v::l)=tN b l+if v.ba=b then 1 else 0:=by unfold tN;by_cases h:v.ba=b<;>simp[h]
def L8{b:Int}{l1 l2:List Vo}(h:l1.Perm l2):tN b l1=tN b l2:=(h.filter _).length_eq
def Tx(b)(l):tN b l<=l.length:=bF _ _
def Uk(b)(zz:List (Int×Vo)):tN b (zz.map (·.2))=(zz.filter λy=>y.2.ba==b).length:=by unfold tN;rw[dZ,ay];rfl
theorem T0(k x0 x1 x2)(mf:Nat)(va)(vn vc)(w)(g3 g6 b n)(M)(A:Mi w b n M)(F:(Lit.int .i64 x2).wf=true)(Q:w.cell? (U g3 0)=some (I mf))(T:w.cell? (U g6 0)=some (.map (some b)))(W:g3<w.heap.size)(l6:g6<w.heap.size):iU 292 #[I k,.agg #[I x0,I x1,I x2,gK va vn vc],O g6,O g3] w λH w'=>H=gU (.bool (!decide ((mf:Int)<=M x2)))/\Bl w w':=by
 have L:=(A.bl ((Bl.refl w).alloc (ig #[I x0,I x1,I x2,gK va vn vc] 222))).qI x2 F;have P:(!decide ((mf:Int)<=M x2))=decide (M x2<mf):=by
  by_cases h:(mf:Int)<=M x2
  .simp[h]
  simp[h];omega
 rw[P];generalize M x2=y at*;clear A;go_enter func292,ntmps292;go_wp2;go_ret;exact⟨bz,jZ.alloc _⟩
theorem JH{iC:Nat}{l:List Ae}(h:Mm w gm iC l zz (oN.ev w cP t))(hB:∀z∈zz,nX z.2.val)(hW:∀z∈zz,(Lit.int .i64 z.2.ba).wf=true)(hl:zz.length<=100)(mf:Nat):Calls prog 274 #[.map (some gm),I mf] w λen w'=>∃(x0 x1:Int) (s:Value),en=gU (.tuple #[.agg #[I x0,I x1,I (qE zz mf).1,s],.bool (decide (0<(qE zz mf).1))])/\Rd w' cP t 5 s ((qE zz mf).2.map B8)/\Bl w w':=by
 obtain⟨f,hf⟩:=D6 w cP t;obtain⟨HV,HE,Hf⟩:=iI (h.ZI hf) h.Zv hf;have ac:Hid (∀A∈zz.map (·.2),(Lit.int .i64 A.ba).wf=true):=λA hA=>by obtain⟨z,hz,rfl⟩:=aD.1 hA;exact hW z hz
 obtain⟨bo,nd⟩:=h.born;obtain⟨W0,Q⟩:=gG (((UI w mf).alloc (.map #[] 0)).alloc (ig #[.map (some (w.heap.size+1+1))] 371));have bW:Bl w W0:=by rw[<-Q];exact(((jZ.alloc _).alloc _).alloc _).alloc _
 have ad:Bl (w.alloc (ig #[I mf] 3)) W0:=by rw[<-Q];exact((jZ.alloc _).alloc _).alloc _
 have T:Bl (UI w mf) W0:=by rw[<-Q];exact(jZ.alloc _).alloc _
 have ag:Bl ((UI w mf).alloc (.map #[] 0)) W0:=by rw[<-Q];exact jZ.alloc _
 have k0:W0.heap[w.heap.size]?=some (ig #[I mf] 3 (0,0)):=(ad.heap bz).H (ao w _);have k1:W0.heap[w.heap.size+1]?=some (ig zV 222 (0,0)):=(T.heap bz).H (by have:=ao (w.alloc (ig #[I mf] 3)) (ig zV 222);simpa using this);have k2:Mi W0 (w.heap.size+1+1) 0 (λ_=>0):=by have:=(Mi.Eu (UI w mf)).bl ag;simpa using this
 have k3:W0.heap[w.heap.size+1+1+1]?=some (ig #[.map (some (w.heap.size+1+1))] 371 (0,0)):=by have:=ao ((UI w mf).alloc (.map #[] 0)) (ig #[.map (some (w.heap.size+1+1))] 371);rw[Q]at this;simpa using this
 have hs:W0.heap.size=w.heap.size+1+1+1+1:=by rw[<-Q];simp
 have b1:=gN (h.bl bW);have HM:=gN (h.bl bW).mp;have b2:=gN h;have bq:(Instr.makeMap 371 none).run prog (UI w mf)=_:=(show(Instr.makeMap 371 none).run prog (UI w mf)=.ok (.map (some (UI w mf).heap.size)) ((UI w mf).alloc (.map #[] 0))from by kernel_rfl);have bs:=(ae.1 h.mp).1;obtain⟨b3,b4,b5,K0⟩:=kN bo nd Q k0;obtain⟨K1,K2,K3,BW⟩:=kN k1 k2 k3 bW;obtain⟨Hs,HB,b6,Hl⟩:=kN hs hB hW hl;have a5:Hid (∃b,qE zz mf=b):=⟨_,rfl⟩;obtain⟨bb,a0⟩:=a5.o;rw[a0];have a5:=gN a0;obtain⟨P,M⟩:=bb;clear h bo nd hf hB hW hl Q k0 k1 k2 k3 bW hs ad T ag a0;go_enter func274,ntmps274;go_upto_region 2 with fail;rw[b5.o];go_wp2_with(at_range;refine kR _ rfl _ 104 rfl 3 222 underlying104 gm (ie l) iC rfl HM b3 b4 ?_;intro hI;have HI:=gN hI;clear hI);go_frame;go_loopw[15](λ_ wr=>∃(F:List MapEntry),Hid (Mi wr (w.heap.size+1+1) F.length λb=>tN b (F.map λx=>f x.val))/\Hid (gI (λb=>b=w.heap.size+1+1) W0 wr)/\Hid (It wr W0.heap.size gm (ie l) iC F)) λ_ wr=>(ie l).size-(wr.iterSeen W0.heap.size).size
 case atStart=>exact⟨[],K2.bl (jZ.alloc _),gI.D (jZ.alloc _),HI⟩
 obtain⟨F,KM,KO,HJ⟩:=hrel;have r6:=(KO.cell (b:=w.heap.size+1+1+1) (o:=0) (gM Hs.o) C).H (ax W0 _ 0 _ 371 (0,0) K3);have r3:=(KO.cell (b:=w.heap.size) (o:=0) (gM Hs.o) C).H (ax W0 _ 0 _ 3 (0,0) K0);have b7:=gN ((KO.block (w.heap.size+1) (gM Hs.o) C).H K1);have ai:Hid (Bl w wr):=BW.A KO λb e=>C;have bv:=KO.size;go_wp2_with(at_next;refine lJ _ rfl _ rfl W0.heap.size gm iC (ie l) F rfl HJ ?_ ?_)
 .intro h0;have e0:(F.map λx=>f x.val).Perm (zz.map (·.2)):=by rw[<-HV.o];exact h0.map _
  have ak:∀b,tN b (F.map λx=>f x.val)=tN b (zz.map (·.2)):=λb=>L8 e0;have a6:Mm wr gm iC l zz (oN.ev wr cP t):=b2.bl ai;have H1:=gN (ts gm _ iC wr a6.mp);have hL:Aj 292 #[O (w.heap.size+1+1+1),O w.heap.size] wr cP t zz (λz=>decide (mf<=(zz.filter λy=>y.2.ba==z.2.ba).length)):=λW2 k v z T hz _⟨s,e1,e2⟩=>by obtain⟨a,c,rfl⟩:=e2.D;subst e1;have:=T0 k z.2.wh z.2.pr z.2.ba mf a (z.2.val.map B8).length c W2 w.heap.size (w.heap.size+1+1+1) (w.heap.size+1+1) _ _ (KM.bl T) (b6 z hz) ((T.cell (gM Hs.o)).H r3) ((T.cell (gM Hs.o)).H r6) (af (gM Hs.o) T.lt) (af (gM Hs.o) T.lt);refine this.L λen w'⟨h1,h2⟩=>⟨?_,h2⟩;rw[h1,ak,Uk];congr 3;simp
  have H2:=gN (uL a6 ((Bl.refl wr).alloc _) jr (ao wr _) 292 _ (enters_of func292 iu rfl) _ hL);have H3:Hid (∀W v,qL W cP t v (zz.filter λz=>decide (mf<=(zz.filter λy=>y.2.ba==z.2.ba).length))->Calls prog 277 #[v] W λen w'=>∃(x0 x1:Int) (sa:Option Addr) (sc:Nat),en=gU (.agg (rH x0 x1 P sa M sc))/\Rd w' cP t 5 (mP sa M sc) (M.map B8)/\Bl W w'):=λW v hA=>by refine(rP hA λz hz=>HB.o z (aU.1 hz).1).L λen w'⟨x0,x1,s,h1,h2,h3⟩=>?_;have a0:jC (zz.filter λz=>decide (mf<=(zz.filter λy=>y.2.ba==z.2.ba).length))=(P,M):=a5.o;rw[a0]at h1 h2;obtain⟨a,c,rfl⟩:=h2.D;rw[ay]at h1 h2;exact⟨x0,x1,a,c,h1,h2,h3⟩
  have al:w.heap.size+1<wr.heap.size:=gM Hs.o;clear a6 hL ak e0 h0 HE HV ac;go_wp2_with(first|(go_at_call 293;refine H1.L ?_;rintro e w'⟨rfl,rfl⟩)|(go_at_call 294;refine H2.L ?_;rintro e w2⟨rfl,ha,hb⟩;obtain⟨HA,b8⟩:=gO ha hb;clear hb ha)|(go_at_call 277;refine(H3 _ _ HA).L ?_;rintro e w3⟨x0,x1,sa,sc,rfl,hr,hb⟩;have HR:=gN hr;have a7:=b8.H hb;have a1:=(a7.heap al).H b7;obtain⟨y0,y1,y2,y3,ly⟩:=sj a1;obtain⟨f0,f1,f2,f3⟩:=yM a1 0 1 2 3;obtain⟨HZ,OZ,b9,ba⟩:=kN (lL [I x0,I x1,I P,gK sa M.length sc] 0 w3 _ a1) (kD (S:=λb=>b=w.heap.size+1) (.inl rfl) [I x0,I x1,I P,gK sa M.length sc] 0 w3 (gI.refl _ w3)) (ai.H a7) a1;clear a7 hb hr a1));go_region;all_goals
   go_wp2;have bc:=(cL _ (ig (rH x0 x1 P sa M sc) 222) (ae.1 HZ).1).H HZ;obtain⟨q0,q1,q2,q3⟩:=pD bc 0 1 2 3 rfl;simp only[lT,zd]at q0 q1 q2 q3;refine aG (v:= .tuple #[.agg (rH x0 x1 P sa M sc),.bool (decide (0<P))]) (by simp[results,results274,go_sem,q0,q1,q2,q3]) rfl ?_;have bd:Bl w (((lT w3 (w.heap.size+1) 0 [I x0,I x1,I P,gK sa M.length sc]).alloc (ig (rH x0 x1 P sa M sc) 222)).drew):=((b9.A OZ λb e=>C).alloc _).drew;refine⟨x0,x1,_,rfl,?_,bd⟩;exact(HR.ny OZ ba bT).bl ((jZ.alloc _).drew) λ_ _ e=>e
 intro e W he am hO an;obtain⟨A,hA,sv,a8,a9⟩:=HE e (je he);have ap:f e.val=A:=Hf _ _ ⟨sv,a8,a9⟩;obtain⟨va,vc,aq⟩:=a9.D;rw[ay]at aq;subst aq;have aa:=ac A hA;have a2:Hid (∀b,tN b ((e::F).map λx=>f x.val)=tN b (F.map λx=>f x.val)+if A.ba=b then 1 else 0):=λb=>by rw[bj,MD,ap]
 have be:F.length<=100:=by
  have h1:=HJ.len;have h2:=b1.len;have h3:=Hl.o;have h4:(ie l).size=l.length:=by simp[ie]
  omega
 have a3:tN A.ba (F.map λx=>f x.val)<=100:=aF (Tx _ _) (by rw[ay];exact be);rw[a8]at an|-;have ar:Hid (Mi W (w.heap.size+1+1) F.length λb=>tN b (F.map λx=>f x.val)):=KM.only hO (gM Hs.o);have d6:=(hO.cell (b:=w.heap.size+1+1+1) (o:=0) (gM Hs.o) (gM Hs.o)).H r6;have bg:Hid (gI (λb=>b=w.heap.size+1+1) W0 W):=KO.xX hO λb e=>gM Hs.o;have au:=gN am;obtain⟨A0,A1,A2,A3⟩:=A;simp only at an a2 a3 aa|-;have bA:=(Bl.refl W).alloc (ig (rH A0 A1 A2 va A3 vc) 222);obtain⟨cc,ab⟩:=gG (tN A2 (F.map λx=>f x.val));have bi:=(ar.bl bA).qI A2 aa;rw[ab]at bi a3;obtain⟨w',bp,av,aw⟩:=(ar.bl bA).put A2 aa ((cc:Int)+1) (by unfold maxLen;omega);have bw:IntKind.i64.wrap ((cc:Int)+1)=(cc:Int)+1:=Z3 _ C;obtain⟨bm,aY,BA⟩:=iI av aw bA;have a4:Hid (F.length+1<=(ie l).size/\(wr.iterSeen W0.heap.size).size=F.length):=⟨by simpa using au.len,HJ.Au⟩;have bx:w.heap.size+1+1+1<W.heap.size:=by have:=hO.size;have:=Hs.o;omega
 clear a9 ap a8 hO am he hA HE HV HJ bA av aw;have bn:=gN ab;clear ab;go_wp2;have b0:=(au.bl BA).only aY (gM Hs.o) C;go_roundw
 case rel=>
  refine⟨e::F,?_,bg.H ((gI.D BA).H aY),b0⟩;obtain⟨D,d1,d2,d3⟩:=bm.o;refine⟨D,d1,d2,λk=>(d3 k).H ?_⟩;show DataW.held (I (if k=A2 then _ else _))=DataW.held (I (tN k ((e::F).map λx=>f x.val):Nat));rw[a2.o];by_cases ek:k=A2
  .rw[aE ek,aE ek.symm,ek,bn.o];simp
  rw[az ek,az (Ne.symm ek)];simp
 case measure=>rw[b0.Au,a4.2];have:=a4.1;simp;omega
theorem qJ:∀(us d:List Int),d=(jd us d).1++(jd us d).2/\(jd us d).1.Sublist us
 |[],d=>⟨rfl,dy _⟩
 |u::us,[]=>by have:=qJ us [];simp only[jd];simp_all
 |u::us,x::d=>by
  simp only[jd];by_cases h:x=u
  .rw[aE h];have:=qJ us d;exact⟨by rw[h];show u::d=u::((jd us d).1++(jd us d).2);rw[<-this.1],this.2.cons_cons u⟩
  rw[az h];have:=qJ us (x::d);exact⟨this.1,this.2.H (List.sublist_cons_self _ _)⟩
def oj(R L:List (List Int)):Prop:=R.length=L.length/\∀(i:Nat) r ch,R[i]?=some r->L[i]?=some ch->r.Sublist ch/\r≠[]
theorem rO:∀{L:List (List Int)} {d:List Int} {R:List (List Int)},within L d=some R->d=kB R/\oj R L
 |[],d,R,h=>by
  simp only[within]at h;split at h
  .rename_i P;simp at h;subst h;exact⟨P,rfl,λi r ch h=>mR h⟩
  simp at h
 |ch::L,d,R,h=>by
  simp only[within]at h;split at h
  .simp at h
  rename_i y;obtain⟨Q,A,e⟩:=bN.1 h;subst e;obtain⟨T,W,h3⟩:=rO A;have M:=qJ ch d;refine⟨?_,mZ W,λi r c F H=>?_⟩
  .show d=(jd ch d).1++kB Q;rw[<-T];exact M.1
  cases i with
  |zero=>simp at F H;subst F;subst H;exact⟨M.2,y⟩
  |succ i=>exact h3 i r c (je F) (je H)
def oj.mem{L:List (List Int)}(h:oj R L){r:List Int}(y:r∈R):∃ch∈L,r.Sublist ch/\r≠[]:=by obtain⟨i,A,rfl⟩:=aV.1 y;have F:=h.1;exact⟨L[i]' C,aL _,h.2 i _ _ (ah A) (ah C)⟩
def Ui(c):rm (-1) c=c:=eD.2 λu _=>by simp[rY]
def NQ(L)(zs):wV L (-1) zs=if qP L zs=true then 0 else 5:=by
 unfold wV;rw[az bz];have:L.map (rm (-1))=L:=by
  conv=>rhs;rw[<-eI L]
  exact bf λc _=>Ui c
 rw[this]
def yS(L)(h:us.Perm vs):qP L us=oJ L vs:=by unfold qP oJ;congr 1;simp[h.mem_iff]
def BI(X:Cx):Prop:=∀ch∈X.lay,∀u∈ch,0<=u/\u<=255
def zk(h:0<=u/\u<=255):(Lit.int .i64 u).wf=true:=rJ h.1 C
theorem OC(h:jy w cP t p qb X V)(hx:oM X)(hs:A6 X)(hu:BI X)(va)(vc)(val)(hv:Rd w cP (t+3) 5 (gK va val.length vc) (val.map B8))(hB:nX val):iU 301 #[ptr p,gK va val.length vc] w λen w'=>en=gU (.bool (X.sG val))/\Bl w w':=by
 obtain⟨b1,b2,_⟩:=hx.A;have a0:=hx.ll;have d6:=h.cellAt 6 rfl;have lp:=h.A;obtain⟨gl,clv,a1⟩:∃gl clv,V.lv=gK (G gl) X.lay.length clv:=by obtain⟨g,ag,cap,f,e,_⟩:=h.r.lay;exact⟨g,cap,e⟩
 rw[a1]at d6;have P:=gN (Bo V.lv X.lay (mP va val vc) val w h.r.lay.XM hv hB C C λc hc=>by have:=hx.ne c hc;omega);rw[a1]at P;have H:=gN h;obtain⟨Y,Q⟩:=gG (X.sG val);rw[Q];unfold Cx.sG at Q;obtain⟨a7,Hu,Hs,ai⟩:=kN hx.ne hu hs a0;have a8:Hid (X.lay.length<=3):=nC;clear h hx hu hv hB hs a0
 cases hw:within X.lay val with
 |none=>rw[hw]at P Q;subst Q;clear hw;go_enter func301,ntmps301;go_wp2_with(go_at_call 295;refine P.L ?_;rintro en w2⟨he,A⟩;simp only[yA]at he;subst he;have HB:=gN A;clear P A);go_ret;exact⟨rfl,HB⟩
 |some R=>
  rw[hw]at P Q;have hS:=(rO hw).2;have a9:=gN hS.1;have aa:Hid (∀W,Bl w W->_):=λW hW=>tS (H.bl hW (fz:=cP) ib) Hs;have HN:Hid (∀(W T:World) (g:Nat) (ms:List Value) (base F:Nat) (a:Option Addr) (n:Nat) (us:List Int),mJ base W g X.lay.length ms R->Bl W T->T.ownsRow F 3 1 (gK a us.length n) us.length (us.map I)->us.Perm X.jh->iU 164 #[gK (G g) X.lay.length X.lay.length,I (-1),gK a us.length n] T λe w'=>∃r,e=gU (.tuple #[r,I (if Y=true then 0 else 5)])/\Bl T w'):=λW T g ms base F a n us hR hb ho hp=>by
   have a2:∀z∈us,0<=z/\z<=255:=λz hz=>by have:=hp.mem_iff.1 hz;obtain⟨y,hy,rfl⟩:=aD.1 this;exact Hs.ids y hy
   have ad:us.length<=100:=by rw[hp.length_eq];show(X.mv.a.D.map _).length<=_;rw[ay];exact Hs.len
   refine(Im _ _ R (-1) us T (hR.bl hb).XM (jD ho) (by have:=a8.o;have:=a9.o;omega) (λc hc=>?_) C λz hz=>zk (a2 z hz)).L ?_
   .obtain⟨ch,a3,M,_⟩:=hS.mem hc;have:=a7 ch a3;exact⟨gM M.length_le,λz hz=>zk (Hu ch a3 z (M.subset hz))⟩
   rintro e w'⟨r,rfl,h1,h2⟩;refine⟨r,?_,h1⟩;rw[NQ,yS R hp];have ab:oJ R X.jh=Y:=Q;rw[ab]
  clear Q hS hw;go_enter func301,ntmps301;go_wp2_with fail;refine P.L ?_;rintro en w2⟨⟨g,ms,rfl,hR⟩,A⟩;obtain⟨HB,HR⟩:=gO A hR;clear P A hR;go_wp2_with fail;refine(aa _ HB).L ?_;rintro en w3⟨a,n,us,rfl,ho,hp,a4⟩;obtain⟨HO,HP,a5⟩:=iI ho hp a4;clear ho hp a4;go_wp2_with fail;refine(HN _ _ _ _ _ _ _ _ _ HR a5 HO HP).L ?_;rintro en w4⟨r,rfl,a6⟩;have ac:=gN a6;clear a6;go_wp2;all_goals
   go_ret;exact⟨rfl,(HB.H a5).H ac⟩
theorem IK(h:jy w cP t p qb X V)(F:oM X)(H:A6 X)(L:BI X)(k x0 x1 x2)(va)(vc)(val)(M:Rd w cP (t+3) 5 (gK va val.length vc) (val.map B8))(P:nX val)(g)(hg:w.cell? (U g 0)=some (ptr p))(lg:g<w.heap.size):iU 300 #[I k,.agg #[I x0,I x1,I x2,gK va val.length vc],O g] w λW w'=>W=gU (.bool (decide (0<x2)&& !X.sG val))/\Bl w w':=by
 have y:=(Bl.refl w).alloc (ig (rH x0 x1 x2 va val vc) 222);obtain⟨HL,Q⟩:=gO (OC (h.bl y (fz:=cP) ib) F H L va vc val (M.bl y λ_ _ e=>e) P) y;generalize X.sG val=Y at*;clear h F H L M P y;by_cases T:0<x2
 .have A:(decide (0<x2)&& !Y)= !Y:=by simp[T]
  rw[A];go_enter func300,ntmps300;go_wp2_with(go_at_call 301;refine jA HL λw2 HB=>?_);go_ret;exact⟨rfl,Q.H HB⟩
 have A:(decide (0<x2)&& !Y)=false:=by simp[T]
 rw[A];go_enter func300,ntmps300;go_wp2;go_ret;exact⟨rfl,Q⟩
theorem Db(h:jy w cP t p qb X V)(hx:oM X)(hs:A6 X)(hu:BI X)(A:qL w cP (t+3) v zz)(hB:∀z∈zz,nX z.2.val):iU 280 #[ptr p,v] w λen w'=>∃v',en=gU v'/\qL w' cP (t+3) v' (X.lG zz)/\Bl w w':=by
 obtain⟨W,P⟩:=gG (w.alloc (ig #[ptr p] 94));have F:=(Bl.refl w).alloc (ig #[ptr p] 94);have M:=ao w (ig #[ptr p] 94);rw[P]at F M;have r0:W.cell? (U w.heap.size 0)=some (ptr p):=ax W w.heap.size 0 _ 94 (0,0) M;have lr:=(ae.1 M).1;obtain⟨HW,BW⟩:=gO P F;have hT:=A.bl F;have Q:=h.bl F (fz:=cP) ib;clear P F M A h;obtain⟨rfl,rfl⟩|⟨gm,iC,l,rfl,h⟩:=hT
 .obtain⟨T,H2⟩:=gO vI Ag;clear Q;go_enter func280,ntmps280;go_upto_region 1 with fail;rw[HW.o];go_wp2_with(first|(go_at_call 293;refine gS (T _) λw' h3=>?_;have e3:=h3.symm;clear h3;subst e3)|(go_at_call 294;refine jA (H2 _ _) λw2 HB=>?_));go_ret;exact⟨_,rfl,.inl ⟨rfl,rfl⟩,BW.H HB⟩
 have T:=gN (ts gm _ iC W h.mp);have hL:Aj 300 #[O w.heap.size] W cP (t+3) zz (λz=> !(decide (0<z.2.ba)&& !X.sG z.2.val)):=λW2 k v z y hz _⟨s,e1,e2⟩=>by obtain⟨a,c,L⟩:=e2.D;rw[ay]at L;subst L;subst e1;have:=IK (Q.bl y (fz:=cP) ib) hx hs hu k z.2.wh z.2.pr z.2.ba a c z.2.val (e2.bl y λ_ _ e=>e) (hB z hz) w.heap.size ((y.cell lr).H r0) (af lr y.lt);simpa using this
 have H2:=gN (uL h ((Bl.refl W).alloc _) jr (ao W _) 300 _ (enters_of func300 iu rfl) _ hL);clear h hL Q hx hs hu hB;go_enter func280,ntmps280;go_upto_region 1 with fail;rw[HW.o];go_wp2_with(first|(go_at_call 293;refine T.L ?_;rintro e w'⟨rfl,rfl⟩)|(go_at_call 294;refine H2.L ?_;rintro e w2⟨rfl,A,hb⟩;obtain⟨HA,HB⟩:=gO A hb;clear hb A));go_ret;exact⟨_,rfl,HA,BW.H HB⟩
def JA(L)(x):lY L x=L.map (rm x):=by refine bf λc _=>dH λu _=>?_;unfold rY;rw[dr];simp
def yt(L)(x):pC L x=0↔tK L x=true:=by
 unfold pC tK ru rA;have h:(L.any λc=>decide (x∈c))=L.any λch=>ch.contains x:=by simp_all
 have y:(L.any λc=>decide (x∈c)&&decide (c.length=1))=L.any λch=>ch.contains x&&ch.length==1:=by congr 1;funext c;rw[dr];simp
 rw[h,y]
 cases(L.any λch=>ch.contains x)<;>cases(L.any λch=>ch.contains x&&ch.length==1)<;>simp
def PY(L)(x)(h:us.Perm vs):qj L x vs=if wV L x us=0 then some (L.map (rm x))else none:=by
 unfold qj wV;rw[JA,<-yS _ h];by_cases A:x=-1
 .simp_all
 cases y:tK L x
 .have:pC L x≠0:=λe=>by rw[yt,y]at e;simp at e
  simp_all
 have:pC L x=0:=(yt L x).2 y;simp_all
def Cx.yr(X:Cx):List Int:=if X.gT.isEmpty then [-1]else X.gT
theorem SF(h:jy w cP t p qb X V)(hx:oM X)(hs:A6 X)(hu:BI X)(hr:X.e.length<=1000000000)(h8:X.a.length<=8):iU 303 #[ptr p] w λen w'=>yA w.heap.size w' X.lay.length en X.next/\Bl w w':=by
 obtain⟨i3,ji,bp,bq,bs⟩:=fx Tryz.tJ;have HC:=gN (zL h hr h8);have bb:X.gT.length<=8:=aF (KE X.a) h8;obtain⟨b1,b2,_⟩:=hx.A;have ap:=hx.ll;have d6:=h.cellAt 6 rfl;have lp:=h.A;obtain⟨gl,clv,b0⟩:∃gl clv,V.lv=gK (G gl) X.lay.length clv:=by obtain⟨g,bv,cap,f,e,_⟩:=h.r.lay;exact⟨g,cap,e⟩
 rw[b0]at d6;have b3:Hid (∀W,Bl w W->_):=λW hW=>tS (h.bl hW (fz:=cP) ib) hs;have HN:Hid (∀(W2:World) (a8:Nat) (a:Option Addr) (n:Nat) (us:List Int) (x:Int),Bl w W2->W2.ownsRow a8 3 1 (gK a us.length n) us.length (us.map I)->us.Perm X.jh->∀W3,Bl W2 W3->iU 164 #[gK (G gl) X.lay.length clv,I x,gK a us.length n] W3 λe w'=>∃(ra:Option Addr) (rn rc:Nat) (P:Int),e=gU (.tuple #[gK ra rn rc,I P])/\(P=0->∃g2 ms R,qj X.lay x X.jh=some R/\ra=G g2/\rn=X.lay.length/\rc=X.lay.length/\mJ w.heap.size w' g2 X.lay.length ms R)/\(P≠0->qj X.lay x X.jh=none)/\Bl W3 w'):=λW2 a8 a n us x hb ho hp W3 a1=>by
  have b4:∀z∈us,0<=z/\z<=255:=λz hz=>by have:=hp.mem_iff.1 hz;obtain⟨y,hy,rfl⟩:=aD.1 this;exact hs.ids y hy
  have bm:us.length<=100:=by rw[hp.length_eq];show(X.mv.a.D.map _).length<=_;rw[ay];exact hs.len
  rw[<-b0];have hb:=hb.H a1;refine(Im _ _ X.lay x us W3 (h.bl hb (fz:=cP) ib).r.lay.XM ((jD ho).bl a1) C (λc hc=>⟨gM (hx.ne c hc),λz hz=>zk (hu c hc z hz)⟩) C λz hz=>zk (b4 z hz)).L ?_;rintro e w'⟨r,rfl,h1,h2⟩;have hN:=PY X.lay x hp;obtain⟨rfl,h2⟩|⟨g2,n2,ms,rfl,h2⟩:=h2
  .refine⟨none,0,0,_,rfl,λe0=>?_,λe0=>by rw[hN,az e0],h1⟩;unfold Er at h2;rw[aE e0]at h2;have:=Z5 List.length h2;simp at this;rw[this]at ap;simp at ap;omega
  refine⟨_,_,_,_,rfl,λe0=>?_,λe0=>by rw[hN,az e0],h1⟩;unfold Er at h2;rw[aE e0]at h2;have bc:n2=X.lay.length:=by rw[<-h2.len];simp
  subst bc;exact⟨g2,ms,_,by rw[hN,aE e0],rfl,rfl,rfl,⟨qX h2.ij hb.lt,h2.len,λi hi bd=>qX (h2.row i hi bd) hb.lt,h2.ny⟩⟩
 obtain⟨Y,hY⟩:=gG X.next;rw[hY];have HY:Hid (X.yr.findSome? (λa9=>qj X.lay a9 X.jh)=Y):=hY;have bw:X.yr.length<=8:=by
  unfold Cx.yr;split
  .simp
  exact bb
 have aq:Hid (X.gT=[]->X.yr=[-1]):=λe=>by unfold Cx.yr;rw[e];rfl
 have aa:Hid (X.gT≠[]->X.yr=X.gT):=λe=>by unfold Cx.yr;rw[az (je e)]
 clear h hx hs hu hY ap;generalize X.yr=os at*;go_enter func303,ntmps303;go_wp2_with fail;refine HC.L ?_;rintro en w2⟨v,rfl,ho,b5⟩;obtain⟨a,cap,rfl⟩:=jk ho;obtain⟨HO,HB⟩:=gO ho b5;clear HC ho b5;by_cases a7:X.gT=[]
 .have a6:X.gT.length=0:=by rw[a7];rfl
  have ab:=aq a7;subst ab;have ar:=HY;rw[a6]at*;clear HY aq aa HO a7 a6;go_wp2_with fail;have b6:=ao w2 (ig #[I (-1)] 3);have b7:=(Bl.refl w2).alloc (ig #[I (-1)] 3);have ac:Hid ((w2.alloc (ig #[I (-1)] 3)).ownsRow w.heap.size 3 1 (gK (G w2.heap.size) 1 1) 1 (([-1]:List Int).map I)):=⟨rfl,.inr ⟨w2.heap.size,1,_,rfl,HB.lt,b6,jr,bT,rfl,rfl⟩⟩;have ad:=gN (HB.H b7);clear b6 b7;generalize w2.alloc (ig #[I (-1)] 3)=w5 at*;generalize w2.heap.size=g5 at*;go_loopw[17](λi wr=>∃j:Nat,j<=1/\i=I j/\Hid (Y=(([-1]:List Int).drop j).findSome? λa9=>qj X.lay a9 X.jh)/\Hid (Bl w5 wr)) λi _=>1-(Go.RowKit.intOf i).toNat
  case atStart=>exact⟨0,jR,rfl,ar.symm,jZ⟩
  obtain⟨j,hj,rfl,HE,M⟩:=hrel;by_cases jt:j<1
  .have b8:(j:Int)<((1:Nat):Int):=C;have hB:=ad.H M;have ag:j<([-1]:List Int).length:=by first|exact jt|(simp;omega)
   have A:=ac.cellAt j (by first|exact jt|(simp;omega));rw[aK,ah ag]at A;have ai:=(ac.lt g5 rfl).2;have k1:=(M.cell ai).H A;simp only[bG]at k1;have b9:=af ai M.lt;have hE:=HE.o;rw[cm ag,gC]at hE;obtain⟨Q,a2⟩:=gO hE hB;have c6:=(hB.cell lp).H d6;have ak:=af lp hB.lt;generalize ([-1]:List Int)[j]=x at*;clear hE HE hB A;go_upto_region 7 with fail;go_cut[7,8] λr e wx=>∃(ra:Option Addr) (rn rc:Nat) (P:Int),r=gK ra rn rc/\e=I P/\Hid (P=0->∃g2 ms R,qj X.lay x X.jh=some R/\ra=G g2/\rn=X.lay.length/\rc=X.lay.length/\mJ w.heap.size wx g2 X.lay.length ms R)/\Hid (P≠0->qj X.lay x X.jh=none)/\Hid (Bl wr wx)
   case first=>
    go_region_held3(λW=>W.cell? (U p 6)=some (gK (G gl) X.lay.length clv)) (go_keep) (first|(go_at_call 314;refine(b3 _ (a2.H ?hb)).L ?_;(case hb=>exact jU);rintro en w3⟨a3,n3,us,rfl,al,am,a1⟩;have T:Bl wr w3:=Bl.H jU a1;have e6:=(T.cell ak).H c6;have au:=af ak T.lt;obtain⟨av,aw,an⟩:=iI al am T;clear al am a1 T)|(go_at_call 164;refine(HN w3 _ _ _ _ _ (a2.H an) av aw _ ?hb).L ?_;(case hb=>exact jU);rintro en w4⟨ra,rn,rc,P,rfl,h0,h1,a4⟩;have be:w4.cell? (U p 6)=some (gK (G gl) X.lay.length clv):=(a4.cell (by first|exact au)).H e6;obtain⟨H0,H1⟩:=gO h0 h1;have a0:Hid (Bl wr w4):=an.H (Bl.H jU a4);clear h0 h1 a4));all_goals(go_wp2_with fail;go_meet)
    all_goals exact⟨ra,rn,rc,P,rfl,rfl,H0,H1,a0⟩
   case rest=>
    obtain⟨ra,rn,rc,P,rfl,rfl,H0,H1,a0⟩:=hcut;by_cases he:P=0
    .obtain⟨g2,ms,R,hN,rfl,rfl,rfl,hR⟩:=H0 he;have F:=Q.o;rw[hN]at F;obtain⟨a5,HR⟩:=gO F hR;subst he;clear hN F hR H0 H1;go_wp2;go_ret2;rw[a5.o];exact⟨⟨g2,ms,rfl,HR⟩,a2.H a0⟩
    have F:=Q.o;rw[H1.o he]at F;have a5:=gN F;have bg:(P==0)=false:=je he;clear F H0 H1;go_wp2;go_roundw
    case rel=>exact⟨j+1,C,iq,a5,M.H a0⟩
    exact iD
  have bi:¬((j:Int)<((1:Nat):Int)):=C;have aY:j=1:=C;subst aY;have hE:=HE.o;rw[eo bz]at hE;have Q:=gN hE;clear hE HE;go_wp2;go_ret2;rw[Q.o];exact⟨rfl,ad.H M⟩
 have a6:¬((X.gT.length:Nat):Int)=0:=by intro e;exact a7 (aW.1 C)
 have bn:(((X.gT.length:Nat):Int)==0)=false:=je a6;have ab:=aa a7;subst ab;have ar:=HY;have ac:=HO;have ad:=HB;obtain⟨g,bo,ba⟩:=qS HO C;simp at ba;obtain⟨rfl,rfl⟩:=ba;clear HY aq aa HO HB a7;go_wp2_with fail;go_loopw[17](λi wr=>∃j:Nat,j<=X.gT.length/\i=I j/\Hid (Y=(X.gT.drop j).findSome? λa9=>qj X.lay a9 X.jh)/\Hid (Bl w2 wr)) λi _=>X.gT.length-(Go.RowKit.intOf i).toNat
 case atStart=>exact⟨0,jR,rfl,ar.symm,jZ⟩
 obtain⟨j,hj,rfl,HE,M⟩:=hrel;by_cases jt:j<X.gT.length
 .have b8:(j:Int)<((X.gT.length:Nat):Int):=C;have hB:=ad.H M;have ag:j<X.gT.length:=by first|exact jt|(simp;omega)
  have A:=ac.cellAt j (by first|exact jt|(simp;omega));rw[aK,ah ag]at A;have ai:=(ac.lt g rfl).2;have k1:=(M.cell ai).H A;simp only[bG]at k1;have b9:=af ai M.lt;have hE:=HE.o;rw[cm ag,gC]at hE;obtain⟨Q,a2⟩:=gO hE hB;have c6:=(hB.cell lp).H d6;have ak:=af lp hB.lt;generalize X.gT[j]=x at*;clear hE HE hB A;go_upto_region 7 with fail;go_cut[7,8] λr e wx=>∃(ra:Option Addr) (rn rc:Nat) (P:Int),r=gK ra rn rc/\e=I P/\Hid (P=0->∃g2 ms R,qj X.lay x X.jh=some R/\ra=G g2/\rn=X.lay.length/\rc=X.lay.length/\mJ w.heap.size wx g2 X.lay.length ms R)/\Hid (P≠0->qj X.lay x X.jh=none)/\Hid (Bl wr wx)
  case first=>
   go_region_held3(λW=>W.cell? (U p 6)=some (gK (G gl) X.lay.length clv)) (go_keep) (first|(go_at_call 314;refine(b3 _ (a2.H ?hb)).L ?_;(case hb=>exact jU);rintro en w3⟨a3,n3,us,rfl,al,am,a1⟩;have T:Bl wr w3:=Bl.H jU a1;have e6:=(T.cell ak).H c6;have au:=af ak T.lt;obtain⟨av,aw,an⟩:=iI al am T;clear al am a1 T)|(go_at_call 164;refine(HN w3 _ _ _ _ _ (a2.H an) av aw _ ?hb).L ?_;(case hb=>exact jU);rintro en w4⟨ra,rn,rc,P,rfl,h0,h1,a4⟩;have be:w4.cell? (U p 6)=some (gK (G gl) X.lay.length clv):=(a4.cell (by first|exact au)).H e6;obtain⟨H0,H1⟩:=gO h0 h1;have a0:Hid (Bl wr w4):=an.H (Bl.H jU a4);clear h0 h1 a4));all_goals(go_wp2_with fail;go_meet)
   all_goals exact⟨ra,rn,rc,P,rfl,rfl,H0,H1,a0⟩
  case rest=>
   obtain⟨ra,rn,rc,P,rfl,rfl,H0,H1,a0⟩:=hcut;by_cases he:P=0
   .obtain⟨g2,ms,R,hN,rfl,rfl,rfl,hR⟩:=H0 he;have F:=Q.o;rw[hN]at F;obtain⟨a5,HR⟩:=gO F hR;subst he;clear hN F hR H0 H1;go_wp2;go_ret2;rw[a5.o];exact⟨⟨g2,ms,rfl,HR⟩,a2.H a0⟩
   have F:=Q.o;rw[H1.o he]at F;have a5:=gN F;have bg:(P==0)=false:=je he;clear F H0 H1;go_wp2;go_roundw
   case rel=>exact⟨j+1,C,iq,a5,M.H a0⟩
   exact iD
 have bi:¬((j:Int)<((X.gT.length:Nat):Int)):=C;have aY:j=X.gT.length:=C;subst aY;have hE:=HE.o;rw[eo bz]at hE;have Q:=gN hE;clear hE HE;go_wp2;go_ret2;rw[Q.o];exact⟨rfl,ad.H M⟩
def jy.Xa{N:Nat}{tag3:Nat->Nat}(h:jy w (ir cP N 5) t p qb X V)(A:100<=t)(y:∀b,b<N->tag3 b=cP b):jy w tag3 t p qb X V:=
 h.pP λb _ H _=>by
  by_cases F:b<N
  .rw[gV _ _ _ _ F];exact y b F
  rw[jc _ _ _ _ C]at H;omega
def vU(cP:Nat->Nat)(N gm g3 a r:Nat):Nat->Nat:=λb=>if b<N then cP b else if b=gm then a else if b=g3 then r else 5
def rB{N y a:Nat}(h:b<N):vU cP N gm y a r b=cP b:=aE h
def DZ{N y a:Nat}(h:N<=gm):vU cP N gm y a r gm=a:=by unfold vU;rw[az C,aE rfl]
def D0{N y a:Nat}(h:N<=y)(A:y≠gm):vU cP N gm y a r y=r:=by unfold vU;rw[az C,az A,aE rfl]
def EU{h:World}(vs)(y:jy h cP t p qb X V)(A:cP g<t\/t+32<=cP g):jy (lT h g 0 vs) cP t p qb X V:=
 y.only (kD (S:=λb=>b=g) (.inl rfl) _ 0 h (gI.refl _ h)) (λb _ e=>jf e A) ib
def jy.Yl(h:jy w cP t p qb X V)(r)(nodes)(mi)(v2 n2)(gm)(y:Rd w cP (t+3) 5 v2 (r.ct.val.map B8))(A:Rd w cP (t+3) 3 n2 (nodes.map I))(F:w.heap[gm]?=some (.map #[] 0))(H:cP gm=t+4):jy (lT w p 10 [I r.kd,I r.ln,I r.nr,I r.ep,I r.pl,I r.ct.kd,I r.ct.cl,I r.ct.ca,v2,n2,.bool mi,.map (some gm)]) cP t p qb {X with c:=⟨r,nodes,mi,[]⟩} {V with pr:=⟨v2,n2,.map (some gm)⟩}:=
 h.uV (kD (S:=λb=>b=p) (.inl rfl) _ 10 w (gI.refl _ w)) (lL _ 10 w _ h.hp) ⟨h.r.lay,h.r.e,h.r.tb,h.r.mp,h.r.bo,h.r.bn,⟨y,A,oS.new F H,λe=>mR e⟩,h.r.sl,h.r.vt,h.r.bg,h.r.b,h.r.f,h.r.a.gL,h.r.a.lt,h.r.a.a,h.r.a.A⟩
theorem BP(h:jy w cP t p qb X V)(a1:100<=t)(hx:oM X):iU 158 #[ptr p] w λen w'=>en=iF/\CS w cP t p qb X.jX w':=by
 obtain⟨b1,b2,_⟩:=hx.A;have a2:1<=X.lay.length/\X.lay.length<=3:=by rw[hx.ll];omega
 have HN:Hid (∀W',Bl w W'->_):=λW' ag=>uD (h.bl (fz:=ir cP w.heap.size 5) ag λb hb=>gV _ _ _ _ hb) hx.a0 hx.a1;obtain⟨H,Hx⟩:=gO h hx;have d5:=h.cellAt 5 rfl;have lp:=h.A;clear h hx;go_enter func158,ntmps158;go_upto_region 0 with fail;go_cut[2] λy wx=>∃gb,y= O gb/\Hid (jy wx (ir cP w.heap.size 5) t p qb {X with gJ:=X.gJ+1} V)/\Hid (wx.heap[gb]?=some (ig #[I 1,I 8,I (X.gJ+1),I X.b,I 0,I 0,I 0,I 0,OO] 100 (0,0)))/\w.heap.size<=gb/\Hid (gI (λb=>b=p) w wx)
 case first=>
  go_region_with(go_at_call 194;refine(HN _ ?hb).L ?_;(case hb=>exact nH);rintro en w2⟨rfl,P,Q⟩;have z5:=P.cellAt 5 rfl;have ar:=P.A;obtain⟨a3,a4⟩:=gO P Q;have ai:=Q.size;(first|(have e1:w2.heap[w.heap.size]?=some (ig QD 100 (0,0)):=(Q.block w.heap.size bz C).H (ao w.drew _);obtain⟨⟨y0,y1,y2,y3,y4,y5,y6,y7,y8⟩,gg,lz⟩:=xY e1;have g0:=gg 0;have g1:=gg 1;have g2:=gg 2;have g3:=gg 3;have g4:=gg 4;have g5:=gg 5;have g6:=gg 6;have g7:=gg 7;have g8:=gg 8;have ak:=gN e1;clear e1 gg)|skip);clear P Q);all_goals(go_wp2_with fail;go_meet)
  all_goals first
   |(have hE:=ak.o;exact⟨_,rfl,EU [I 1,I 8,I (X.gJ+1),I X.b,I 0,I 0,I 0,I 0,OO] a3 (.inl (by rw[jc _ _ _ _ jr];omega)),lL [I 1,I 8,I (X.gJ+1),I X.b,I 0,I 0,I 0,I 0,OO] 0 w2 [I 0,I 0,I 0,I 0,I 0,I 0,I 0,I 0,OO] hE,jr,kD (S:=λb=>b=p) (.inr jr) [I 1,I 8,I (X.gJ+1),I X.b,I 0,I 0,I 0,I 0,OO] 0 w2 (gI.H (gI.D (by exact nH)) a4)⟩)
   |exact⟨_,rfl,a3.bl (jZ.alloc _) ib,ao w2 _,je ai,(gI.H (gI.D (by exact nH)) a4).alloc _⟩
 case rest=>
  obtain⟨gb,rfl,HC,HX,au,HO⟩:=hcut;obtain⟨⟨z0,z1,z2,z3,z4,z5,z6,z7,z8⟩,_,lz⟩:=xY HX;have d6:=HC.cellAt 6 rfl;have a5:=HC.A;have HL:Hid (∀W,Bl wc W->_):=λW hW=>Eb (HC.bl hW (fz:=ir cP w.heap.size 5) ib).r.lay a2.1 a2.2 Hx.ne;have HQ:=gN λna nc W=>qx W na (kB X.lay).length nc 1 8 (X.gJ+1) X.b 0 0 0 0 none 0 0;obtain⟨gl,clv,al⟩:∃gl clv,V.lv=gK (G gl) X.lay.length clv:=by obtain⟨g,av,cap,f,e,_⟩:=HC.r.lay;exact⟨g,cap,e⟩
  rw[al]at d6 HL;have aw:=HO.size;clear d5 HN;go_upto_region 1 with fail;go_region_with(first|(go_at_call 191;refine(HL _ ?hb).L ?_;(case hb=>exact jU);rintro en w3⟨g3,a6,rfl,a7,a8⟩;have F:Bl wc w3:=Bl.H jU a8;have aY:=(F.cell a5).H d6;obtain⟨s0,s1,s2,s3⟩:=F.N lz z0 z1 z2 z3;obtain⟨s4,s5,s6⟩:=F.M lz z4 z5 z6;obtain⟨s7,s8⟩:=F.D lz z7 z8;have T:=af lz F.lt;have b0:=af a5 F.lt;obtain⟨a9,a0⟩:=gO (qX (b1:=wc.heap.size) a7 (by first|exact jr)) F;clear a7 a8 F)|(go_at_call 207;refine(HQ _ _ _).L ?_;rintro en w4⟨gm,rfl,am,aa,ab⟩;have M:Bl w3 w4:=Bl.H jU ab;have A:=(HC.bl (a0.H M) (fz:=ir cP w.heap.size 5) ib).Xa a1 (tag3:=vU cP w.heap.size gm g3 (t+4) (t+3)) λb hb=>rB hb;have y6:=A.cellAt 6 rfl;obtain⟨y0,y1,y2,y3⟩:=M.N T s0 s1 s2 s3;obtain⟨y4,y5,b3⟩:=M.M T s4 s5 s6;obtain⟨y7,y8⟩:=M.D T s7 s8;obtain⟨b4,b5,b6,b7⟩:=A.T 10 11 12 13 rfl;obtain⟨b8,b9,ba,bb⟩:=A.T 14 15 16 17 rfl;obtain⟨bc,bd,be,bg⟩:=A.T 18 19 20 21 rfl;obtain⟨bi,bm,bn,bo⟩:=A.EO 10 11 12 13;obtain⟨bp,bq,bs,bv⟩:=A.EO 14 15 16 17;obtain⟨bw,bx,bA,bB⟩:=A.EO 18 19 20 21;have bC:=A.A;have bD:w3.heap.size<=gm:=aF (by first|exact jr) am;obtain⟨an,ac,ap⟩:=iI A M aa;clear A ab M aa));all_goals
   go_wp2;go_end0;have l3:=a0.lt;have lo:=a9.lt g3 rfl;have aq:=(Rd.qW (cP:=vU cP w.heap.size gm g3 (t+4) (t+3)) (t:=t+3) a9 (λb hb=>by
    simp[Value.ownBlock]at hb
    subst hb
    exact D0 C C)).bl ac (fz:=vU cP w.heap.size gm g3 (t+4) (t+3)) λ_ _ e=>e
   have ad:=an.Yl ⟨1,8,X.gJ+1,X.b,0,no⟩ (kB X.lay) true OO _ gm Rd.nil aq ap (DZ C);refine⟨rfl,_,λb hb=>rB hb,⟨_,ad⟩,?_⟩;have O1:gI (λb=>b=p) w (lT w4 p 10 [I 1,I 8,I (X.gJ+1),I X.b,I 0,I 0,I 0,I 0,OO,gK (G g3) (kB X.lay).length a6,.bool true,.map (some gm)]):=kD (S:=λb=>b=p) (.inl rfl) _ 10 w4 (HO.H (gI.D (a0.H ac)));exact H.nF O1
def jy.Ys(h:jy w cP t p qb X V)(r)(nodes)(mi)(v2 n2)(gm)(y:Rd w cP (t+3) 5 v2 (r.ct.val.map B8))(A:Rd w cP (t+3) 3 n2 (nodes.map I))(F:w.heap[gm]?=some (.map #[] 0))(H:cP gm=t+5):jy (lT w p 29 [I r.kd,I r.ln,I r.nr,I r.ep,I r.pl,I r.ct.kd,I r.ct.cl,I r.ct.ca,v2,n2,.bool mi,.map (some gm)]) cP t p qb {X with mv:={X.mv with a:=⟨r,nodes,mi,[]⟩}} {V with sl:=⟨v2,n2,.map (some gm)⟩}:=
 h.uV (kD (S:=λb=>b=p) (.inl rfl) _ 29 w (gI.refl _ w)) (lL _ 29 w _ h.hp) ⟨h.r.lay,h.r.e,h.r.tb,h.r.mp,h.r.bo,h.r.bn,h.r.pr,⟨y,A,oS.new F H,λe=>mR e⟩,h.r.vt,h.r.bg,h.r.b,h.r.f,h.r.a.gL,h.r.a.lt,h.r.a.a,h.r.a.A⟩
theorem Ua(h:jy w cP t p qb X V)(a1:100<=t)(hx:oM X):iU 298 #[ptr p] w λen w'=>en=iF/\CS w cP t p qb X.oF w':=by
 obtain⟨b1,b2,_⟩:=hx.A;have a2:1<=X.lay.length/\X.lay.length<=3:=by rw[hx.ll];omega
 have HN:Hid (∀W',Bl w W'->_):=λW' ag=>uD (h.bl (fz:=ir cP w.heap.size 5) ag λb hb=>gV _ _ _ _ hb) hx.a0 hx.a1;obtain⟨H,Hx⟩:=gO h hx;have d5:=h.cellAt 24 rfl;have lp:=h.A;clear h hx;go_enter func298,ntmps298;go_upto_region 0 with fail;go_cut[2] λy wx=>∃gb,y= O gb/\Hid (jy wx (ir cP w.heap.size 5) t p qb {X with gJ:=X.gJ+1} V)/\Hid (wx.heap[gb]?=some (ig #[I 1,I 9,I (X.gJ+1),I X.mv.b,I 0,I 0,I 0,I 0,OO] 100 (0,0)))/\w.heap.size<=gb/\Hid (gI (λb=>b=p) w wx)
 case first=>
  go_region_with(go_at_call 194;refine(HN _ ?hb).L ?_;(case hb=>exact nH);rintro en w2⟨rfl,P,Q⟩;have z5:=P.cellAt 24 rfl;have ar:=P.A;obtain⟨a3,a4⟩:=gO P Q;have ai:=Q.size;(first|(have e1:w2.heap[w.heap.size]?=some (ig QD 100 (0,0)):=(Q.block w.heap.size bz C).H (ao w.drew _);obtain⟨⟨y0,y1,y2,y3,y4,y5,y6,y7,y8⟩,gg,lz⟩:=xY e1;have g0:=gg 0;have g1:=gg 1;have g2:=gg 2;have g3:=gg 3;have g4:=gg 4;have g5:=gg 5;have g6:=gg 6;have g7:=gg 7;have g8:=gg 8;have ak:=gN e1;clear e1 gg)|skip);clear P Q);all_goals(go_wp2_with fail;go_meet)
  all_goals first
   |(have hE:=ak.o;exact⟨_,rfl,EU [I 1,I 9,I (X.gJ+1),I X.mv.b,I 0,I 0,I 0,I 0,OO] a3 (.inl (by rw[jc _ _ _ _ jr];omega)),lL [I 1,I 9,I (X.gJ+1),I X.mv.b,I 0,I 0,I 0,I 0,OO] 0 w2 [I 0,I 0,I 0,I 0,I 0,I 0,I 0,I 0,OO] hE,jr,kD (S:=λb=>b=p) (.inr jr) [I 1,I 9,I (X.gJ+1),I X.mv.b,I 0,I 0,I 0,I 0,OO] 0 w2 (gI.H (gI.D (by exact nH)) a4)⟩)
   |exact⟨_,rfl,a3.bl (jZ.alloc _) ib,ao w2 _,je ai,(gI.H (gI.D (by exact nH)) a4).alloc _⟩
 case rest=>
  obtain⟨gb,rfl,HC,HX,au,HO⟩:=hcut;obtain⟨⟨z0,z1,z2,z3,z4,z5,z6,z7,z8⟩,_,lz⟩:=xY HX;have d6:=HC.cellAt 6 rfl;have a5:=HC.A;have HL:Hid (∀W,Bl wc W->_):=λW hW=>Eb (HC.bl hW (fz:=ir cP w.heap.size 5) ib).r.lay a2.1 a2.2 Hx.ne;have HQ:=gN λna nc W=>qx W na (kB X.lay).length nc 1 9 (X.gJ+1) X.mv.b 0 0 0 0 none 0 0;obtain⟨gl,clv,al⟩:∃gl clv,V.lv=gK (G gl) X.lay.length clv:=by obtain⟨g,av,cap,f,e,_⟩:=HC.r.lay;exact⟨g,cap,e⟩
  rw[al]at d6 HL;have aw:=HO.size;clear d5 HN;go_upto_region 1 with fail;go_region_with(first|(go_at_call 191;refine(HL _ ?hb).L ?_;(case hb=>exact jU);rintro en w3⟨g3,a6,rfl,a7,a8⟩;have F:Bl wc w3:=Bl.H jU a8;have aY:=(F.cell a5).H d6;obtain⟨s0,s1,s2,s3⟩:=F.N lz z0 z1 z2 z3;obtain⟨s4,s5,s6⟩:=F.M lz z4 z5 z6;obtain⟨s7,s8⟩:=F.D lz z7 z8;have T:=af lz F.lt;have b0:=af a5 F.lt;obtain⟨a9,a0⟩:=gO (qX (b1:=wc.heap.size) a7 (by first|exact jr)) F;clear a7 a8 F)|(go_at_call 207;refine(HQ _ _ _).L ?_;rintro en w4⟨gm,rfl,am,aa,ab⟩;have M:Bl w3 w4:=Bl.H jU ab;have A:=(HC.bl (a0.H M) (fz:=ir cP w.heap.size 5) ib).Xa a1 (tag3:=vU cP w.heap.size gm g3 (t+5) (t+3)) λb hb=>rB hb;have y6:=A.cellAt 6 rfl;obtain⟨y0,y1,y2,y3⟩:=M.N T s0 s1 s2 s3;obtain⟨y4,y5,b3⟩:=M.M T s4 s5 s6;obtain⟨y7,y8⟩:=M.D T s7 s8;obtain⟨b4,b5,b6,b7⟩:=A.T 29 30 31 32 rfl;obtain⟨b8,b9,ba,bb⟩:=A.T 33 34 35 36 rfl;obtain⟨bc,bd,be,bg⟩:=A.T 37 38 39 40 rfl;obtain⟨bi,bm,bn,bo⟩:=A.EO 29 30 31 32;obtain⟨bp,bq,bs,bv⟩:=A.EO 33 34 35 36;obtain⟨bw,bx,bA,bB⟩:=A.EO 37 38 39 40;have bC:=A.A;have bD:w3.heap.size<=gm:=aF (by first|exact jr) am;obtain⟨an,ac,ap⟩:=iI A M aa;clear A ab M aa));all_goals
   go_wp2;go_end0;have l3:=a0.lt;have lo:=a9.lt g3 rfl;have aq:=(Rd.qW (cP:=vU cP w.heap.size gm g3 (t+5) (t+3)) (t:=t+3) a9 (λb hb=>by
    simp[Value.ownBlock]at hb
    subst hb
    exact D0 C C)).bl ac (fz:=vU cP w.heap.size gm g3 (t+5) (t+3)) λ_ _ e=>e
   have ad:=an.Ys ⟨1,9,X.gJ+1,X.mv.b,0,no⟩ (kB X.lay) true OO _ gm Rd.nil aq ap (DZ C);refine⟨rfl,_,λb hb=>rB hb,⟨_,ad⟩,?_⟩;have O1:gI (λb=>b=p) w (lT w4 p 29 [I 1,I 9,I (X.gJ+1),I X.mv.b,I 0,I 0,I 0,I 0,OO,gK (G g3) (kB X.lay).length a6,.bool true,.map (some gm)]):=kD (S:=λb=>b=p) (.inl rfl) _ 29 w4 (HO.H (gI.D (a0.H ac)));exact H.nF O1
def sT(k:Nat):List Int:=(List.range k).map λ(i:Nat)=>100+(i:Int)
def Ed(k):sT (k+1)=sT k++[100+(k:Int)]:=by unfold sT;rw[dp,aZ];rfl
def jy.X3(h:jy w cP t p qb X V)(e:V.bg=.map (some b)):b<w.heap.size:=by
 obtain⟨e',_⟩|⟨_,e',_⟩|⟨_,_,y⟩:=h.r.bg
 .simp_all
 .exact(h.r.vt.D.map (e'.symm.H e)).1
 exact(y.map e).1
def jy.XQ(h:jy w cP t p qb X V)(r)(nodes)(mi)(v2 n2)(gm)(L:Rd w cP (t+3) 5 v2 (r.ct.val.map B8))(M:Rd w cP (t+3) 3 n2 (nodes.map I))(P:w.heap[gm]?=some (.map #[] 0))(Q:cP gm=t+6)(F:r.kd≠7\/(V.bg=.map none/\X.mv.D=[]))(y:V.bg≠.map (some gm)):jy (lT w p 41 [I r.kd,I r.ln,I r.nr,I r.ep,I r.pl,I r.ct.kd,I r.ct.cl,I r.ct.ca,v2,n2,.bool mi,.map (some gm)]) cP t p qb {X with mv:={X.mv with A:=⟨r,nodes,mi,[]⟩}} {V with vt:=⟨v2,n2,.map (some gm)⟩}:=by
 have T:NF w cP t {X.mv with A:=⟨r,nodes,mi,[]⟩} V.bg (.map (some gm)):=by
  obtain hk|hk:=F
  .obtain e|⟨_,W,H,_⟩|⟨_,_,H⟩:=h.r.bg
   .exact .inl e
   .exact .inr (.inr ⟨hk,y,by rw[W];show oS w cP _ _ _ X.mv.D;rw[H];exact h.r.vt.D⟩)
   exact .inr (.inr ⟨hk,y,H⟩)
  exact .inl hk
 exact h.uV (kD (S:=λb=>b=p) (.inl rfl) _ 41 w (gI.refl _ w)) (lL _ 41 w _ h.hp) ⟨h.r.lay,h.r.e,h.r.tb,h.r.mp,h.r.bo,h.r.bn,h.r.pr,h.r.sl,⟨L,M,oS.new P Q,λe=>mR e⟩,T,h.r.b,h.r.f,h.r.a.gL,h.r.a.lt,h.r.a.a,h.r.a.A⟩
theorem sK(h:jy w cP t p qb X V)(a2:100<=t)(hx:oM X)(kd pl)(val)(va)(vc)(hv:Rd w cP (t+3) 5 (gK va val.length vc) (val.map B8))(a3:kd≠7\/(V.bg=.map none/\X.mv.D=[])):iU 154 #[ptr p,Mr kd 0 0 0 pl 0 0 0 (gK va val.length vc)] w λen w'=>en=iF/\CS w cP t p qb (X.kh kd pl val) w':=by
 obtain⟨i3,ji,a8,a9,aa⟩:=fx Tryz.tJ;obtain⟨W,hW⟩:=gG (w.alloc (ig #[I kd,I 0,I 0,I 0,I pl,I 0,I 0,I 0,gK va val.length vc] 100));have bW:=(Bl.refl w).alloc (ig #[I kd,I 0,I 0,I 0,I pl,I 0,I 0,I 0,gK va val.length vc] 100);have hX:=ao w (ig #[I kd,I 0,I 0,I 0,I pl,I 0,I 0,I 0,gK va val.length vc] 100);rw[hW]at bW hX;have HN:Hid (∀W',Bl W W'->_):=λW' ab=>uD (h.bl (fz:=ir cP w.heap.size 5) (bW.H ab) λb hb=>gV _ _ _ _ hb) hx.a0 hx.a1;obtain⟨H,Hv,ac⟩:=iI h hv a3;obtain⟨_,_,_,_,v1,v5,_⟩:=hx.A;have ad:=h.A;obtain⟨a4,BW,HX⟩:=iI hW bW hX;have lg:w.heap.size<W.heap.size:=(ae.1 hX).1;have ag:Hid (p≠w.heap.size):=nC;have ai:=(h.bl (fz:=cP) bW ib).cellAt 24 rfl;obtain⟨⟨q0,q1,q2,q3,q4,q5,q6,q7,q8⟩,P,_⟩:=xY hX;have f1:=P 1;have f2:=P 2;have f3:=P 3;have b1:=af ad bW.lt;clear h hv hW bW hX P hx a3;go_enter func154,ntmps154;go_upto_region 1 with fail;rw[a4.o];clear a4;go_cut[] λwx=>Hid (jy wx (ir cP w.heap.size 5) t p qb {X with gJ:=X.gJ+1} V)/\Hid (wx.heap[w.heap.size]?=some (ig #[I kd,I 9,I (X.gJ+1),I X.mv.b,I pl,I 0,I 0,I 0,gK va val.length vc] 100 (0,0)))/\Hid (gI (λb=>b=p\/b=w.heap.size) W wx)
 case first=>
  go_region_with(go_at_call 194;refine(HN _ ?hb).L ?_;(case hb=>exact jU);rintro en w2⟨rfl,Q,a1⟩;have e1:=(a1.block w.heap.size lg (gM ag.o)).H HX;have b2:=Q.cellAt 24 rfl;obtain⟨⟨y0,y1,y2,y3,_⟩,P,ly⟩:=xY e1;have g1:=P 1;have g2:=P 2;have g3:=P 3;have b4:=Q.A;obtain⟨ak,al,am⟩:=iI e1 Q a1;clear Q a1 e1 P);all_goals(go_wp2_with fail;go_meet)
  all_goals exact La (.inl (by rw[jc _ _ _ _ jr];omega)) al ak am jU
 case rest=>
  obtain⟨HC,HB,HO⟩:=hcut;obtain⟨⟨z0,z1,z2,z3,z4,z5,z6,z7,z8⟩,_,lz⟩:=xY HB;have c2:=HC.cellAt 2 rfl;have b5:=HC.A;have HQ:=gN λna nc W=>ya W na X.vo nc kd 9 (X.gJ+1) X.mv.b pl 0 0 0 va val.length vc;have b6:=BW.lt;have b7:=HO.size;clear q0 q1 q2 q3 q4 q5 q6 q7 q8 f1 f2 f3 ai HN HX;go_wp2;go_loopw[4,21](λv i wr=>∃j:Nat,j<=X.vo/\i=I j/\Hid (wr.ownsRow wc.heap.size 3 1 v j ((sT j).map I))/\Hid (Bl wc wr)) λ_ i _=>X.vo-(Go.RowKit.intOf i).toNat
  case atStart=>exact⟨0,jR,rfl,m7,jZ⟩
  obtain⟨j,hj,rfl,F,y⟩:=hrel;by_cases jt:j<X.vo
  .have aY:(j:Int)<(X.vo:Int):=C;have HT:=gN (Z5 (List.map I) (Ed j));have an:Hid (j+1<=maxLen):=nZ;have ap:Hid ((j+1)*8<=140737488355328):=nC;have b8:IntKind.i64.wrap (100+(j:Int))=100+(j:Int):=Z3 _ C;go_wp2_with(at_builtin;refine fm _ rfl _ _ 24 rfl wc.heap.size 3 i3 (I 0) 1 8 underlying24 ji a8 a9 aa rfl bT u4 j _ rfl (F.alloc _) (U wr.heap.size 0) 1 1 [I (100+(j:Int))] rfl rfl (ZV _ _ _) tx bT an ap (by have:=y.lt;simp;omega) (wr.heap.size+1) bz ?_);intro g' a5 w3 a0 M aq b0;have ar:Hid (Bl wc w3):=(y.alloc _).A (gI.A M) λk e=>(F.lt k e.symm).1;have au:Hid (w3.ownsRow wc.heap.size 3 1 (gK (G g') (j+1) a5) (j+1) ((sT (j+1)).map I)):=by unfold Hid;rw[HT.o,aZ];exact a0
   clear a0 M aq;go_wp2;go_roundw
   case rel=>exact⟨j+1,C,bz,au,ar⟩
   exact iD
  have b9:¬((j:Int)<(X.vo:Int)):=C;have av:j=X.vo:=C;subst av;obtain⟨na,nc,rfl⟩:=jk F;have hB:=y.o;obtain⟨s0,s1,s2,s3⟩:=hB.N lz z0 z1 z2 z3;obtain⟨s4,s5,s6⟩:=hB.M lz z4 z5 z6;obtain⟨s7,s8⟩:=hB.D lz z7 z8;have ba:=af lz hB.lt;clear hB z0 z1 z2 z3 z4 z5 z6 z7 z8;go_wp2_with fail;refine(HQ _ _ _).L ?_;rintro en w3⟨gm,rfl,bb,a6,b3⟩;have aw:w.heap.size<=gm:=by have:=y.lt;omega
  obtain⟨g3,a7⟩:∃g3,∀b,(gK na X.vo nc).ownBlock=some b->b=g3:=by
   cases na with
   |none=>exact⟨0,λb hb=>pV hb⟩
   |some a=>exact⟨a.block,λb hb=>by simp[Value.ownBlock]at hb;exact hb.symm⟩
  have T:jy w3 (vU cP w.heap.size gm g3 (t+6) (t+3)) t p qb {X with gJ:=X.gJ+1} V:=(HC.bl (y.H b3) (fz:=ir cP w.heap.size 5) ib).Xa a2 λb hb=>rB hb;have oW:gI (λb=>b=p) w wc:=⟨HO.os.H BW.os,HO.tape.H BW.tape,HO.output.H BW.output,C,λi hi hs=>(HO.block i C C).H (BW.heap hi)⟩;have O3:=gN (oW.H (gI.D (y.H b3)));have V3:Rd w3 (vU cP w.heap.size gm g3 (t+6) (t+3)) (t+3) 5 (mP va val vc) (val.map B8):=Hv.only O3 (λb _ e=>by rw[e,H.tp];omega) (λb hb e=>by rw[rB hb];exact e);have N3:Rd w3 (vU cP w.heap.size gm g3 (t+6) (t+3)) (t+3) 3 (gK na X.vo nc) ((sT X.vo).map I):=(Rd.qW (cP:=vU cP w.heap.size gm g3 (t+6) (t+3)) (t:=t+3) F (λb hb=>by
   have:=F.lt b hb
   have e:=a7 b hb
   subst e
   exact D0 C C)).bl b3 λ_ _ e=>e
  have HF:=gN (T.XQ ⟨kd,9,X.gJ+1,X.mv.b,pl,⟨0,0,0,val⟩⟩ (sT X.vo) true (mP va val vc) (gK na X.vo nc) gm V3 N3 a6 (DZ aw) ac λe=>by have:=H.X3 e;omega);have bc:=T.A;obtain⟨bd,be,bg,bi⟩:=T.T 41 42 43 44 rfl;obtain⟨bm,bn,bo,bp⟩:=T.T 45 46 47 48 rfl;obtain⟨bq,bs,bv,bw⟩:=T.T 49 50 51 52 rfl;obtain⟨bx,bA,bB,bC⟩:=T.EO 41 42 43 44;obtain⟨bD,bE,bR,bV⟩:=T.EO 45 46 47 48;obtain⟨bX,c0,c1,c3⟩:=T.EO 49 50 51 52;clear HQ a6 b3 T HC HB HO oW V3 N3 F y a7;go_wp2;go_end0;refine⟨rfl,_,λb hb=>rB hb,⟨_,HF⟩,?_⟩;exact H.nF (kD (S:=λb=>b=p) (.inl rfl) [I kd,I 9,I (X.gJ+1),I X.mv.b,I pl,I 0,I 0,I 0,gK va val.length vc,gK na X.vo nc,.bool true,.map (some gm)] 41 w3 O3)
def tY(e:Int)(ch:Bool):List Value:=[I e,.bool ch,.map none,I 0,OO,
 I 0,I 0,I 0,I 0,I 0,I 0,I 0,I 0,OO,OO,.bool false,.map none,
 I 0,I 0,I 0,I 0,I 0,I 0,I 0,I 0,OO,OO,.bool false,.map none]
theorem wJ(p):∀(vs:List Value) (o:Nat) (w:World),w.setCells p o vs=lT w p o vs
 |[],_,_=>rfl
 |_::vs,o,_=>wJ p vs (o+1) _
structure XN(X:Cx):Prop where
 e:0<=X.b/\X.b<=1000000000000000
 t:0<=X.A/\X.A<=1000000000000000
def TF(X)(V)(e)(ch):zd (ry X V) 24 (tY e ch)=ry {X with mv:={Mv.zero with b:=e,c:=ch}} {V with bg:= .map none,b:= OO,sl:=QV.zero,vt:=QV.zero}:=iu
def jy.zx(h:jy w cP t p qb X V)(e)(ch):jy (lT w p 24 (tY e ch)) cP t p qb {X with mv:={Mv.zero with b:=e,c:=ch}} {V with bg:= .map none,b:= OO,sl:=QV.zero,vt:=QV.zero}:=
 h.uV (kD (S:=λb=>b=p) (.inl rfl) _ 24 w (gI.refl _ w)) (by
  have:=lL (tY e ch) 24 w _ h.hp
  rwa[TF]at this) ⟨h.r.lay,h.r.e,h.r.tb,h.r.mp,h.r.bo,h.r.bn,h.r.pr,QR.zero,QR.zero,.inl ⟨rfl,rfl⟩,Rd.nil,h.r.f,h.r.a.gL,h.r.a.lt,h.r.a.a,h.r.a.A⟩
def oM.mv(h:oM X)(M):oM {X with mv:=M}:=⟨h.oE,h.ll,h.ne,h.a0,h.a1⟩
def jy.there(h:jy w cP t p qb X V):w.there p 24 29:=λj y=>by refine⟨?_,aP _ p _ _ 114 h.hp⟩;rw[ax _ p _ _ 114 _ h.hp];simp[ry];omega
theorem pI(h:jy w cP t p qb X V)(F:100<=t)(hx:oM X)(hn:XN X):iU 93 #[ptr p] w λT w'=>T=iF/\CS w cP t p qb X.iB w':=by
 obtain⟨e,he⟩:=gG (max (X.b+1) (X.A-1));have HA:Hid (∀W,Bl w W->iU 154 #[ptr p,Mr 7 0 0 0 0 0 0 0 OO] (lT W p 24 (tY e (decide (e<X.A)))) λT w'=>T=iF/\CS w cP t p qb X.iB w'):=λW hW=>by have hk:=h.bl hW (fz:=cP) ib;have H1:=hk.zx e (decide (e<X.A));have O1:gI (λb=>b=p) W (lT W p 24 (tY e (decide (e<X.A)))):=kD (S:=λb=>b=p) (.inl rfl) _ 24 W (gI.refl _ W);refine(sK H1 F (hx.mv _) 7 0 [] none 0 Rd.nil (.inr ⟨rfl,rfl⟩)).L λT w'⟨e1,e2⟩=>⟨e1,?_⟩;unfold Cx.iB;rw[he];exact CS.M hW (CS.gR (hk.nF O1) e2)
 obtain⟨d5,M⟩:=h.R 5 22 rfl;have lp:=h.A;obtain⟨e0,e1⟩:=hn.e;obtain⟨t0,t1⟩:=hn.t;have w1:IntKind.i64.wrap (X.b+1)=X.b+1:=Z3 _ C;have w2:IntKind.i64.wrap (X.A-1)=X.A-1:=Z3 _ C;have P:Hid (∀W,Bl w W->W.there p 24 (tY e (decide (e<X.A))).toArray.size):=λW hW=>(h.bl hW (fz:=cP) ib).there;have He:=gN he;clear h hx hn he;go_enter func93,ntmps93;go_upto_region 0 with fail;go_cut[2] λx wx=>x=I e/\Hid (Bl w wx)
 case first=>
  go_region;all_goals(go_wp2_with fail;go_meet)
  all_goals exact⟨mT He.o,jU⟩
 case rest=>obtain⟨rfl,HB⟩:=hcut;have a1:=(HB.cell lp).H M;have a2:=af lp HB.lt;obtain⟨a0,y⟩:=gO (HA wc HB) (P wc HB);have Q:(prog.info? 108).map (·.size)=some (tY e (decide (e<X.A))).toArray.size:=iu;have A:(tY e (decide (e<X.A))).toArray.all (·.oneCell')=true:=iu;clear HA P d5 M w1 w2 He;go_upto_region 2 with((show Go.wpList _ _ _ [{dst:=none,op:=Op.store 108 _ _,type:=_,pos:=_,after:=_,guard:=_}] _ _);refine wpList_store_mid rfl 108 (.tmp 24) (.tmp 22) rfl p 24 (tY e (decide (e<X.A))).toArray rfl rfl y Q A ?_);have hE:wc.setCells p 24 (tY e (decide (e<X.A))).toArray.toList=lT wc p 24 (tY e (decide (e<X.A))):=wJ p _ 24 _;rw[hE];clear hE Q A y;generalize lT wc p 24 (tY e (decide (e<X.A)))=W1 at*;go_wp2_with(go_at_call 154;refine jA a0 λw3 HS=>?_);go_end0;exact⟨rfl,HS⟩
theorem Cj(h:jy w cP t p qb X V)(H:100<=t)(F:oM X)(M:XN X)(e)(he:0<=e/\e<=1000000000000000):iU 250 #[ptr p,I e] w λQ w'=>Q=iF/\CS w cP t p qb (X.gR e) w':=by
 obtain⟨Y,y⟩:=gG (X.gR e);rw[y];unfold Cx.gR at y;obtain⟨d5,a1,a2⟩:=h.QI 5 22 24 rfl;have a3:=h.N 22;have lp:=h.A;by_cases h1:e<=X.b
 .rw[aE (.inl h1)]at y;subst y;have HF:=gN (CS.D (w':=w) ⟨V,h⟩ (Bl.refl w));clear h F M;go_enter func250,ntmps250;go_wp2;refine aG (v:= .tuple #[]) (by simp[results,results250,go_sem]) rfl ?_;exact⟨rfl,HF⟩
 by_cases h2:e<=X.A
 .rw[aE (.inr h2)]at y;subst y;have HF:=gN (CS.D (w':=w) ⟨V,h⟩ (Bl.refl w));clear h F M;go_enter func250,ntmps250;go_wp2;refine aG (v:= .tuple #[]) (by simp[results,results250,go_sem]) rfl ?_;exact⟨rfl,HF⟩
 rw[az C]at y;have P:gI (λb=>b=p) w (w.setCell (U p 22) (I e)):=(gI.refl (λb=>b=p) w).setCell (U p 22) (.inl rfl) _;have T:jy (w.setCell (U p 22) (I e)) cP t p qb {X with A:=e} V:=h.uV P (jO 22 _ w _ h.hp) ⟨h.r.lay,h.r.e,h.r.tb,h.r.mp,h.r.bo,h.r.bn,h.r.pr,h.r.sl,h.r.vt,h.r.bg,h.r.b,h.r.f,h.r.a.gL,h.r.a.lt,h.r.a.a,h.r.a.A⟩;have W:CS w cP t p qb {X with A:=e} (w.setCell (U p 22) (I e)):=CS.mk T (h.nF P);by_cases h3:X.mv.b<e
 .rw[aE h3]at y;have HM:Hid (iU 93 #[ptr p] (w.setCell (U p 22) (I e)) λQ w'=>Q=iF/\CS w cP t p qb Y w'):=(pI T H ⟨F.oE,F.ll,F.ne,F.a0,F.a1⟩ ⟨M.e,he⟩).L λQ w'⟨e1,e2⟩=>⟨e1,by rw[<-y];exact CS.gR (h.nF P) e2⟩;clear h F M T P W y;go_enter func250,ntmps250;go_wp2_with(go_at_call 93;refine jA HM λw3 HS=>?_);go_end0;exact⟨rfl,HS⟩
 rw[az h3]at y;subst y;have a0:=gN W;clear h F M T P W;go_enter func250,ntmps250;go_wp2;go_end0;exact⟨rfl,a0⟩
def JK{L:List (List Int)}{x:Int}(h:qj L x us=some R):oj R L/\oJ R us=true:=by
 unfold qj at h;split at h
 .rename_i A;simp at A;simp at h;subst h;refine⟨⟨by simp[lY],λi r ch y F=>?_⟩,A.2⟩;have H:=aR y;unfold lY at y;rw[aK,F]at y;simp at y;subst y;refine⟨cE,?_⟩;have:=A.2;unfold oJ at this;rw[List.all_eq_true]at this;have:=this _ H;rw[cK]at this;obtain⟨u,M,_⟩:=this;intro e;simp_all
 simp at h
def wC{α β:Type}{f:α->Option β}{l:List α}{b:β}(h:l.findSome? f=some b):∃a∈l,f a=some b:=List.exists_of_findSome?_eq_some h
def Cx.xZ(h:X.next=some R):oj R X.lay/\oJ R X.jh=true:=by obtain⟨a,_,y⟩:=wC h;exact JK y
def jy.DT(h:jy w cP t p qb X V):qL w cP (t+3) V.bg X.mv.D:=by
 obtain e|⟨_,A,y,_⟩|⟨_,_,y⟩:=h.r.bg
 .exact .inl e
 .rw[A,y];exact h.r.vt.D.t
 exact y.t
def oj.byt{L:List (List Int)}(h:oj R L)(F:∀ch∈L,∀u∈ch,0<=u/\u<=255):nX (kB R):=λd y=>by obtain⟨r,H,y⟩:=fq.1 y;obtain⟨ch,A,M,_⟩:=h.mem H;exact F ch A d (M.subset y)
def IT{N:Nat}(e:cP b=r):ir cP N r b=r:=by
 by_cases h:b<N
 .rw[gV _ _ _ _ h];exact e
 exact jc _ _ _ _ C
def Gw(w:World)(cP:Nat->Nat)(t:Nat)(en:Ending):Option (List Int)->Prop
 |none=>en=.returned (.tuple #[OO,.bool false])
 |some v=>∃a c,en=.returned (.tuple #[.slice a v.length c,.bool true])/\Rd w cP t 5 (.slice a v.length c) (v.map B8)
theorem yP(h:jy w cP t p qb X V)(hx:oM X)(hs:A6 X)(hu:BI X)(hr:X.e.length<=1000000000)(h8:X.a.length<=8)(hB:∀z∈X.mv.D,nX z.2.val):iU 282 #[ptr p] w λQ w'=>Gw w' (ir cP w.heap.size (t+3)) (t+3) Q X.jN/\Bl w w':=by
 have a9:=h.cellAt 26 rfl;have lp:=h.A;obtain⟨mb,a1⟩:∃mb,V.bg=.map mb:=by
  obtain⟨e,_⟩|⟨_,_,_,e,_⟩:=h.DT
  .exact⟨_,e⟩
  exact⟨_,e⟩
 rw[a1]at a9;have HL:=gN (Db h hx hs hu h.DT hB);rw[a1]at HL;have a3:∀z∈X.lG X.mv.D,nX z.2.val:=λz hz=>hB z (aU.1 hz).1;have HH:Hid (∀W v,qL W cP (t+3) v (X.lG X.mv.D)->_):=λW v hA=>rP hA a3;have HN:Hid (∀W,Bl w W->iU 303 #[ptr p] W λQ w'=>yA W.heap.size w' X.lay.length Q X.next/\Bl W w'):=λW hW=>SF (h.bl hW (fz:=cP) ib) hx hs hu hr h8;obtain⟨b1,b2,_⟩:=hx.A;have aa:=hx.ll;have ab:Hid (∀W g ms R base,w.heap.size<=base->X.next=some R->mJ base W g X.lay.length ms R->iU 304 #[gK (G g) X.lay.length X.lay.length] W λe w'=>∃a c,e=gU (gK a (kB R).length c)/\Rd w' (ir cP w.heap.size (t+3)) (t+3) 5 (gK a (kB R).length c) ((kB R).map B8)/\Bl W w'):=λW g ms R base ap hN hR=>by
  obtain⟨hS,_⟩:=Cx.xZ hN;have a4:qh W (ir cP w.heap.size (t+3)) (t+3) _ R:=hR.lay λb T=>jc _ _ _ _ C;have aq:=hS.1;refine(MG a4 C C (λr hr=>?_) (hS.byt hu)).L ?_
  .obtain⟨ch,ac,a5,ad⟩:=hS.mem hr;have h1:=hx.ne ch ac;have h2:=a5.length_le;have h3:0<r.length:=cU.2 ad;omega
  rintro e w'⟨a,c,rfl,ho,T⟩;refine⟨a,c,rfl,Rd.qW ho λb ag=>jc _ _ _ _ ?_,T⟩;have h1:=(ho.lt b ag).1;have h2:=(hR.ij.lt g rfl);omega
 have ai:=gN NM;obtain⟨Y,P⟩:=gG X.jN;rw[P];unfold Cx.jN at P;have H:=gN h;clear h hx hs hu hB a3 a1 aa;generalize jC (X.lG X.mv.D)=b at*;obtain⟨ak,ar⟩:=b;simp only at P HH;by_cases h0:0<ak
 .rw[aE h0]at P;have HY:=gN P;clear P;go_enter func282,ntmps282;go_wp2_with(first|(go_at_call 280;refine HL.L ?_;rintro Q w2⟨v2,rfl,ha,T⟩;obtain⟨HA,HB⟩:=gO ha T;clear HL ha T)|(go_at_call 277;refine(HH _ _ HA).L ?_;rintro Q w3⟨x0,x1,s,rfl,y,A⟩;obtain⟨sa,sc,F⟩:=y.D;rw[ay]at F;subst F;obtain⟨HR,M⟩:=gO y (HB.H A);clear y A));go_ret2;rw[<-HY.o];exact⟨⟨sa,sc,rfl,HR.bl (jZ.alloc _) λb _ e=>IT e⟩,M.alloc _⟩
 rw[az h0]at P
 cases hN:X.next with
 |none=>rw[hN]at P HN;have HY:=gN P;clear P hN;go_enter func282,ntmps282;go_wp2_with(first|(go_at_call 280;refine HL.L ?_;rintro Q w2⟨v2,rfl,ha,T⟩;obtain⟨HA,HB⟩:=gO ha T;clear HL ha T)|(go_at_call 277;refine(HH _ _ HA).L ?_;rintro Q w3⟨x0,x1,s,rfl,y,A⟩;obtain⟨sa,sc,F⟩:=y.D;rw[ay]at F;subst F;obtain⟨HR,M⟩:=gO y (HB.H A);clear y A)|(go_at_call 303;refine(HN _ (M.alloc _)).L ?_;rintro Q w4⟨he,a0⟩;simp only[yA]at he;subst he;have a2:=gN ((M.alloc _).H a0);clear a0)|(go_at_call 304;refine gS (ai _) λw5 h5=>?_;have e5:=h5.symm;clear h5;subst e5));go_ret2;rw[<-HY.o];exact⟨rfl,a2⟩
 |some R=>rw[hN]at P HN;obtain⟨HY,al⟩:=gO P hN;clear P hN;go_enter func282,ntmps282;go_wp2_with(first|(go_at_call 280;refine HL.L ?_;rintro Q w2⟨v2,rfl,ha,T⟩;obtain⟨HA,HB⟩:=gO ha T;clear HL ha T)|(go_at_call 277;refine(HH _ _ HA).L ?_;rintro Q w3⟨x0,x1,s,rfl,y,A⟩;obtain⟨sa,sc,F⟩:=y.D;rw[ay]at F;subst F;obtain⟨HR,M⟩:=gO y (HB.H A);clear y A)|(go_at_call 303;refine(HN _ (M.alloc _)).L ?_;rintro Q w4⟨he,a0⟩;simp only[yA]at he;obtain⟨g,ms,rfl,hR⟩:=he;have a6:=(M.alloc _).H a0;obtain⟨HC,a2⟩:=gO (ab w4 g ms R _ (M.alloc _).lt al hR) a6;clear a0 a6 hR)|(go_at_call 304;refine HC.L ?_;rintro Q w5⟨a,c,rfl,a7,a8⟩;obtain⟨am,an⟩:=gO a7 a8;clear a7 a8));go_ret2;rw[<-HY.o];exact⟨⟨a,c,rfl,am⟩,a2.H an⟩
structure Zc(X:Cx):Prop where
 b:0<=X.M/\X.M<=1000000000000000
 id:1000<=X.id/\X.id<=1099
 pr:∀z∈X.mv.D,z.2.pr<=1000000000000000
theorem Gg(h:∀z∈zz,z.2.pr<=1000000000000000):0<=j7 zz/\j7 zz<=1000000000000000:=by
 rw[yq];have:∀l:List Vo,(∀v∈l,v.pr<=1000000000000000)->0<=K7 l/\K7 l<=1000000000000000:=λl=>by
  induction l with
  |nil=>intro _;exact⟨bT,bT⟩
  |cons v l y=>intro h;have L:=y λu A=>h u (aX _ A);have M:=h v aN;rw[qu];omega
 exact this _ λv F=>by obtain⟨z,H,rfl⟩:=aD.1 F;exact h z H
def jy.M(h:jy w cP t p qb X V)(a):jy (w.setCell (U p 23) (I a)) cP t p qb {X with M:=a} V:=
 h.uV ((gI.refl (λb=>b=p) w).setCell (U p 23) (.inl rfl) _) (jO 23 _ w _ h.hp) ⟨h.r.lay,h.r.e,h.r.tb,h.r.mp,h.r.bo,h.r.bn,h.r.pr,h.r.sl,h.r.vt,h.r.bg,h.r.b,h.r.f,h.r.a.gL,h.r.a.lt,h.r.a.a,h.r.a.A⟩
def jy.TY(h:jy w cP t p qb X V)(a):jy (w.setCell (U p 27) (I a)) cP t p qb {X with mv:={X.mv with M:=a}} V:=
 h.uV ((gI.refl (λb=>b=p) w).setCell (U p 27) (.inl rfl) _) (jO 27 _ w _ h.hp) ⟨h.r.lay,h.r.e,h.r.tb,h.r.mp,h.r.bo,h.r.bn,h.r.pr,h.r.sl,h.r.vt,h.r.bg,h.r.b,h.r.f,h.r.a.gL,h.r.a.lt,h.r.a.a,h.r.a.A⟩
theorem BZ(h:jy w cP t p qb X V)(hb:0<=X.M/\X.M<=1000000000000000)(hi:1000<=X.id/\X.id<=1099)(pr)(hp:0<=pr/\pr<=1000000000000000):iU 305 #[ptr p,I pr] w λT w'=>T=gU (I (X.jv pr))/\jy w' cP t p qb {X with M:=X.jv pr} V/\gI (λb=>b=p) w w':=by
 have HF:Hid (∀W,Bl w W->jy (W.setCell (U p 23) (I (X.jv pr))) cP t p qb {X with M:=X.jv pr} V):=λW hW=>(h.bl hW (fz:=cP) ib).M _;have HB:Hid (X.jv pr=(max pr X.M/100+1)*100+X.id-1000):=rfl;obtain⟨c4,y⟩:=h.R 4 23 rfl;have A:=h.N 23;have lp:=h.A;clear h;generalize X.jv pr=nb at*;generalize P:max pr X.M=m at*;have F:0<=m/\m<=1000000000000000:=C;have HM:=gN P;have hq:m.tdiv 100=m/100:=eF F.1;have a0:0<=m/100/\m/100<=10000000000000:=C;have w1:IntKind.i64.wrap (m/100)=m/100:=Z3 _ C;have w2:IntKind.i64.wrap (m/100+1)=m/100+1:=Z3 _ C;have w3:IntKind.i64.wrap ((m/100+1)*100)=(m/100+1)*100:=Z3 _ C;have w4:IntKind.i64.wrap ((m/100+1)*100+X.id)=(m/100+1)*100+X.id:=Z3 _ C;have w5:IntKind.i64.wrap ((m/100+1)*100+X.id-1000)=(m/100+1)*100+X.id-1000:=Z3 _ C;clear P;go_enter func305,ntmps305;go_upto_region 1 with fail;go_cut[] λQ=>Hid (jy Q cP t p qb {X with M:=nb} V)/\Hid (gI (λb=>b=p) w Q)
 case first=>
  go_region;all_goals(go_wp2_with fail;go_meet)
  all_goals
   have hE:(max pr X.M/100+1)*100+X.id-1000=nb:=by rw[HM.o];exact HB.symm
   rw[hE];exact⟨(HF w jZ).bl jZ.drew ib,((gI.refl (λb=>b=p) w).setCell (U p 23) (.inl rfl) _).H (gI.D jZ.drew)⟩
 case rest=>obtain⟨L,HO⟩:=hcut;have a1:=L.cellAt 23 rfl;have a2:=L.A;clear y A HF;go_wp2;go_ret;exact⟨rfl,L,HO⟩
theorem vz(h:jy w cP t p qb X V)(a0:100<=t)(Q:oM X)(hs:A6 X)(hu:BI X)(hr:X.e.length<=1000000000)(h8:X.a.length<=8)(hB:∀z∈X.mv.D,nX z.2.val)(hb:Zc X):iU 287 #[ptr p] w λP w'=>P=iF/\CS w cP t p qb X.jS w':=by
 obtain⟨HP,H⟩:=gO (yP h Q hs hu hr h8 hB) h;obtain⟨Y,F⟩:=gG X.jS;rw[F];unfold Cx.jS at F
 cases hp:X.jN with
 |none=>rw[hp]at HP F;have F:X=Y:=F;subst F;clear h Q hs hu hB hb hp;go_enter func287,ntmps287;go_wp2_with(go_at_call 282;refine HP.L ?_;rintro P w2⟨he,y⟩;simp only[Gw]at he;subst he;have HB:=gN y;clear y);go_end0;exact⟨rfl,CS.D ⟨V,H⟩ HB⟩
 |some v0=>
  rw[hp]at HP F;simp only at F;have a1:=h.cellAt 26 rfl;have lp:=h.A;obtain⟨mb,T⟩:∃mb,V.bg=.map mb:=by
   obtain⟨e,_⟩|⟨_,_,_,e,_⟩:=h.DT
   .exact⟨_,e⟩
   exact⟨_,e⟩
  have a6:Hid (∀W,Bl w W->iU 306 #[.map mb] W λP w'=>P=gU (I (j7 X.mv.D))/\Bl W w'):=λW hW=>by rw[<-T];exact Dv (h.DT.bl hW)
  rw[T]at a1;have a2:=Gg hb.pr;have a7:Hid (∀W,Bl w W->_):=λW hW=>BZ (h.bl hW (fz:=cP) ib) hb.b hb.id (j7 X.mv.D) a2;have a8:Hid (∀W,jy W cP t p qb {X with M:=X.jv (j7 X.mv.D)} V->gI (λb=>b=p) w W->iU 154 #[ptr p,Mr 5 0 0 0 (X.jv (j7 X.mv.D)) 0 0 0 OO] (W.setCell (U p 27) (I (X.jv (j7 X.mv.D)))) λP w'=>P=iF/\CS w cP t p qb Y w'):=λW hW hO=>by have hk:=hW.TY (X.jv (j7 X.mv.D));refine(sK hk a0 ⟨Q.oE,Q.ll,Q.ne,Q.a0,Q.a1⟩ 5 _ [] none 0 Rd.nil (.inl bT)).L λP w'⟨e1,e2⟩=>⟨e1,?_⟩;rw[<-F];exact CS.gR (h.nF (hO.setCell (U p 27) (.inl rfl) _)) e2
  clear h Q hs hu hB hb hp T F a2;generalize j7 X.mv.D=pr at*;generalize X.jv pr=nb at*;go_enter func287,ntmps287;go_wp2_with(first|(go_at_call 282;refine HP.L ?_;rintro P w2⟨he,y⟩;simp only[Gw]at he;obtain⟨va,vc,rfl,_⟩:=he;have aa:=(y.cell lp).H a1;have ab:=af lp y.lt;have HB:=gN y;clear y)|(go_at_call 306;refine gS (a6 _ HB) λw3 a3=>?_;have a4:=gN (HB.H a3);clear a3)|(go_at_call 305;refine(a7 _ a4).L ?_;rintro P w4⟨rfl,A,a5⟩;have ac:=A.cellAt 27 rfl;have ad:=A.N 27;have ag:=A.A;have a9:=gN (a8 _ A ((gI.D a4).H a5));clear A a5)|(go_at_call 154;refine jA a9 λw5 HS=>?_));go_end0;exact⟨rfl,HS⟩
def qL.Be(h:qL w cP t v zz):(Builtin.len_ #[104] 3 #[v]).run prog w=.ok (I zz.length) w:=by
 obtain⟨rfl,rfl⟩|⟨gm,y,l,rfl,h⟩:=h
 .simp[Builtin.len_,Sem.run_bind,Z4 underlying104,Result.andThen];rfl
 have e:(ie l).size=zz.length:=by rw[<-h.len];simp[ie]
 simp[Builtin.len_,Sem.run_bind,Z4 underlying104,Result.andThen,aI h.mp,e];rfl
def qL.D{α:Type}[oN α]{zz:List (Int×α)}(h:qL w cP t v zz):∃mb,v=.map mb:=by obtain⟨rfl,_⟩|⟨gm,_,_,rfl,_⟩:=h<;>exact⟨_,rfl⟩
def CS.wA(F:gI (λb=>Mc t (cP b)) w w1)(L:∀b,b<w.heap.size->fz b=cP b)(h:CS w1 fz t p qb X w'):CS w cP t p qb X w':=by obtain⟨A,M,P,Q⟩:=h;refine⟨A,λb y=>(M b (af y F.size)).H (L b y),P,?_⟩;exact F.andThen Q λb y e=>by rwa[L b y]at e
theorem tZ(h:jy w cP t p qb X V)(y:oM X):iU 275 #[ptr p] w λH w'=>H=gU (I (X.mf:Nat))/\w'=w:=by
 obtain⟨_,_,_,_,P,Q,_⟩:=y.A;have c2:=h.cellAt 2 rfl;have T:=h.A;have L:((X.vo:Nat):Int).tdiv 2=((X.vo/2:Nat):Int):=by rw[eF C];omega
 have A:X.mf=X.vo/2+1:=rfl;rw[A];have M:X.vo/2<=2:=C;have F:(((X.vo/2+1:Nat)):Int)=((X.vo/2:Nat):Int)+1:=C;rw[F];generalize X.vo/2=d at*;have w1:IntKind.i64.wrap ((d:Int))=(d:Int):=Z3 _ C;have W:IntKind.i64.wrap ((d:Int)+1)=(d:Int)+1:=Z3 _ C;clear h y A F;generalize ((X.vo:Nat):Int)=vo at*;go_enter func275,ntmps275;go_wp2;go_ret;exact⟨by first|rfl|(rw[L]),rfl⟩
def jy.Kk(h:jy w cP t p qb X V)(val)(v2)(y:Rd w cP (t+3) 5 v2 (val.map B8)):jy (w.setCell (U p 28) v2) cP t p qb {X with mv:={X.mv with value:=val}} {V with b:=v2}:=
 h.uV ((gI.refl (λb=>b=p) w).setCell (U p 28) (.inl rfl) _) (jO 28 _ w _ h.hp) ⟨h.r.lay,h.r.e,h.r.tb,h.r.mp,h.r.bo,h.r.bn,h.r.pr,h.r.sl,h.r.vt,h.r.bg,y,h.r.f,h.r.a.gL,h.r.a.lt,h.r.a.a,h.r.a.A⟩
structure Jp(zz:List (Int×Vo)):Prop where
 a:∀z∈zz,nX z.2.val
 ba:∀z∈zz,(Lit.int .i64 z.2.ba).wf=true
 pr:∀z∈zz,z.2.pr<=1000000000000000
 len:zz.length<=100
def IZ(h:100<=t)(y:oM X)(val)(W W2)(tag1)(V1)(H:∀b,b<w.heap.size->tag1 b=cP b)(M:jy W tag1 t p qb {X with mv:={X.mv with value:=val}} V1)(P:gI (λb=>Mc t (cP b)) w W)(va)(vc)(Q:Rd W tag1 (t+3) 5 (gK va val.length vc) (val.map B8))(A:Bl W W2):iU 154 #[ptr p,Mr 6 0 0 0 X.mv.M 0 0 0 (gK va val.length vc)] W2 λF w'=>F=iF/\CS w cP t p qb (({X with mv:={X.mv with value:=val}}:Cx).kh 6 X.mv.M val) w':=
 (sK (M.bl A (fz:=tag1) ib) h ⟨y.oE,y.ll,y.ne,y.a0,y.a1⟩ 6 X.mv.M val va vc (Q.bl A λ_ _ e=>e) (.inl bT)).L λF w'⟨T,e2⟩=>⟨T,CS.wA (P.H (gI.D A)) H e2⟩
theorem yh(h:jy w cP t p qb X V)(b5:100<=t)(hx:oM X)(hs:A6 X)(hu:BI X)(hr:X.e.length<=1000000000)(h8:X.a.length<=8)(hB:Jp X.mv.D)(hV:Jp X.mv.A.D):iU 253 #[ptr p] w λP w'=>P=iF/\CS w cP t p qb X.jB w':=by
 have bp:=h.cellAt 52 rfl;have lp:=h.A;obtain⟨mb,b6⟩:=h.r.vt.D.t.D;have HD:=gN (F7 h.r.vt.D.t);rw[b6]at bp HD;have av:∀z∈kQ X.mv.A.D,nX z.2.val:=λz hz=>hV.a z (aU.1 hz).1;have HL:Hid (∀W,Bl w W->∀v,qL W cP (t+3) v (kQ X.mv.A.D)->_):=λW hW v hA=>Db (h.bl hW (fz:=cP) ib) hx hs hu hA av;have b7:∀z∈X.lG (kQ X.mv.A.D),nX z.2.val:=λz hz=>av z (aU.1 hz).1;have HH:Hid (∀W v,qL W cP (t+3) v (X.lG (kQ X.mv.A.D))->_):=λW v hA=>rP hA b7;have aa:Hid (∀W,Bl w W->_):=λW hW=>tZ (h.bl hW (fz:=cP) ib) hx;have HP:Hid (∀W y X1 V1,(∀b,b<w.heap.size->y b=cP b)->jy W y t p qb {X with mv:={X.mv with value:=X1}} V1->_):=λW y X1 V1 _ hk=>yP hk ⟨hx.oE,hx.ll,hx.ne,hx.a0,hx.a1⟩ ⟨hs.ids,hs.len⟩ hu hr h8 hB.a;have ak:Hid (∀X1,({X with mv:={X.mv with value:=X1}}:Cx).jN=X.jN):=λ_=>rfl;obtain⟨Y,Q⟩:=gG X.jB;rw[Q];unfold Cx.jB at Q;simp only at Q;have b8:=gN λval W W2 y V1=>IZ (w:=w) (cP:=cP) (p:=p) (qb:=qb) (X:=X) b5 hx val W W2 y V1;have bB:X.mf<=3:=by obtain⟨_,_,_,_,v1,v5,_⟩:=hx.A;unfold Cx.mf;omega
 have H:=gN h;generalize hv:jC (X.lG (kQ X.mv.A.D))=v at*;obtain⟨v1,vv⟩:=v;simp only at Q HH;have HU:Hid (∀W v,qL W cP (t+3) v (kQ X.mv.A.D)->_):=λW v hA=>Ny hA v1;have bC:(vw v1 (kQ X.mv.A.D)).length<=100:=aF (bF _ _) (aF (bF _ _) hV.len);generalize vw v1 (kQ X.mv.A.D)=uu at*;clear h hx hs hu hB hV av b7 b6 hv;by_cases jt:uu.length<X.mf
 .rw[aE jt]at Q;subst Q;have b9:((uu.length:Nat):Int)<((X.mf:Nat):Int):=C;go_enter func253,ntmps253;go_wp2_with(first|(go_at_call 279;refine HD.L ?_;rintro P w2⟨v2,rfl,A,hb⟩;obtain⟨bq,rfl⟩:=A.D;obtain⟨ab,ac⟩:=gO A hb;clear HD A hb)|(go_at_call 280;refine(HL _ ac _ ab).L ?_;rintro P w3⟨v3,rfl,A,hb⟩;obtain⟨bs,rfl⟩:=A.D;obtain⟨aw,ad,aY⟩:=iI A hb (ac.H hb);clear A hb)|(go_at_call 277;refine(HH _ _ aw).L ?_;rintro P w4⟨x0,x1,s,rfl,T,a0⟩;obtain⟨sa,sc,ag⟩:=T.D;rw[ay]at ag;subst ag;have ba:=gN T;have a1:=aY.H a0;obtain⟨b0,bb,b1⟩:=iI (ab.bl ((ad.H a0).alloc (ig (rH x0 x1 v1 sa vv sc) 222))) a1 (a1.alloc (ig (rH x0 x1 v1 sa vv sc) 222));clear T a0 a1)|(go_at_call 281;refine(HU _ _ b0).L ?_;rintro P w5⟨v5,rfl,A,hb⟩;obtain⟨bv,rfl⟩:=A.D;have bc:=A.Be;obtain⟨a7,bd⟩:=gO (b1.H hb) hb;have a2:=(hb.heap bz).H (ao w4 (ig (rH x0 x1 v1 sa vv sc) 222));obtain⟨z0,z1,z2,z3,lz⟩:=sj a2;have be:=gN a2;clear A hb a2)|(go_at_call 275;refine gS (aa _ a7) λw6 h6=>?_;have e6:=h6.symm;clear h6;subst e6));refine aG (v:= .tuple #[]) (by simp[results,results253,go_sem]) rfl ?_;exact⟨rfl,CS.D ⟨V,H⟩ a7⟩
 rw[az jt]at Q;have b9:¬((uu.length:Nat):Int)<((X.mf:Nat):Int):=C;have HY:=gN Q;clear Q;go_enter func253,ntmps253;go_upto_region 3 with(first|(go_at_call 279;refine HD.L ?_;rintro P w2⟨v2,rfl,A,hb⟩;obtain⟨bq,rfl⟩:=A.D;obtain⟨ab,ac⟩:=gO A hb;clear HD A hb)|(go_at_call 280;refine(HL _ ac _ ab).L ?_;rintro P w3⟨v3,rfl,A,hb⟩;obtain⟨bs,rfl⟩:=A.D;obtain⟨aw,ad,aY⟩:=iI A hb (ac.H hb);clear A hb)|(go_at_call 277;refine(HH _ _ aw).L ?_;rintro P w4⟨x0,x1,s,rfl,T,a0⟩;obtain⟨sa,sc,ag⟩:=T.D;rw[ay]at ag;subst ag;have ba:=gN T;have a1:=aY.H a0;obtain⟨b0,bb,b1⟩:=iI (ab.bl ((ad.H a0).alloc (ig (rH x0 x1 v1 sa vv sc) 222))) a1 (a1.alloc (ig (rH x0 x1 v1 sa vv sc) 222));clear T a0 a1)|(go_at_call 281;refine(HU _ _ b0).L ?_;rintro P w5⟨v5,rfl,A,hb⟩;obtain⟨bv,rfl⟩:=A.D;have bc:=A.Be;obtain⟨a7,bd⟩:=gO (b1.H hb) hb;have a2:=(hb.heap bz).H (ao w4 (ig (rH x0 x1 v1 sa vv sc) 222));obtain⟨z0,z1,z2,z3,lz⟩:=sj a2;have be:=gN a2;clear A hb a2)|(go_at_call 275;refine gS (aa _ a7) λw6 h6=>?_;have e6:=h6.symm;clear h6;subst e6));have a3:=H.bl a7 (fz:=cP) ib;have al:=ba.bl (((Bl.refl w4).alloc _).H bd) (fz:=cP) λ_ _ e=>e;have a8:=a3.Kk vv _ al;have O6:gI (λb=>b=p) w5 (w5.setCell (U p 28) (mP sa vv sc)):=(gI.refl (λb=>b=p) w5).setCell (U p 28) (.inl rfl) _;have am:=al.only O6 (λb hb e=>by rw[e,a3.tp];omega) (fz:=cP) λ_ _ e=>e;have bg:=a3.cellAt 28 rfl;have bi:=a3.N 28;have bD:=a3.A;have bw:p≠w4.heap.size:=by have:=bb.lt;omega
 have an:=(O6.block w4.heap.size lz (Ne.symm bw)).H be;obtain⟨W6,ap⟩:=gG (w5.setCell (U p 28) (mP sa vv sc));have aq:=gN ap;rw[ap]at a8 O6 an am;obtain⟨y0,y1,y2,y3,ly⟩:=sj an;have ar:Hid (gI (λb=>b=p) w W6):=(gI.D a7).H O6;have au:=gN a8;by_cases h0:v1=0
 .subst h0;have Q:=HY.o;rw[aE rfl]at Q;have HY:=gN Q;clear Q;have a4:=gN (HP _ cP vv _ ib a8);rw[ak.o]at a4;clear a3 a8 al O6 an ap HP am;go_upto_region 4 with fail;rw[aq.o];clear aq z0 z1 z2 z3 bg bi;have hG:Hid (∀W y V1 (va:Option Addr) (vc:Nat) val,(∀b,b<w.heap.size->y b=cP b)->jy W y t p qb {X with mv:={X.mv with value:=val}} V1->gI (λb=>Mc t (cP b)) w W->Rd W y (t+3) 5 (mP va val vc) (val.map B8)->val=X.jN.getD []->∀W2,Bl W W2->iU 154 #[ptr p,Mr 6 0 0 0 X.mv.M 0 0 0 (mP va val vc)] W2 λP w'=>P=iF/\CS w cP t p qb Y w'):=λW y V1 va vc val ht hk ho hv he W2 hb=>by rw[<-HY.o,<-he];exact b8 val W W2 y V1 ht hk ho va vc hv hb
  cases hp:X.jN with
  |none=>
   rw[hp]at a4 hG;go_upto_region 6 with(go_at_call 282;refine a4.L ?_;rintro P w7⟨he,a5⟩;simp only[Gw]at he;subst he;have F:=au.bl a5 (fz:=cP) ib;have b2:=F.cellAt 28 rfl;have b3:=F.N 28;have bx:=F.A;obtain⟨a9,b4⟩:=gO F a5;clear a5 F);have M:=a9.Kk [] OO Rd.nil;have O8:gI (λb=>b=p) w7 (w7.setCell (U p 28) OO):=(gI.refl (λb=>b=p) w7).setCell (U p 28) (.inl rfl) _;have a6:=gN (hG _ cP _ none 0 [] ib M (H.nF ((ar.H (gI.D b4)).H O8)) Rd.nil rfl);obtain⟨W8,ai⟩:=gG (w7.setCell (U p 28) OO);rw[ai]at M a6|-;obtain⟨bl,bm⟩:=M.R 27 28 rfl;have bA:=M.A;clear M O8 ai a9 b2 b3 HL HH HU aa ak a4 hG y0 y1 y2 y3;go_upto_region 7 with fail;go_region_with(go_at_call 154;refine(a6 _ ?hb).L ?_;(case hb=>exact nH);rintro P w9⟨rfl,hs⟩;have HS:=gN hs;clear hs);all_goals
    go_wp2;go_end0;exact⟨rfl,HS⟩
  |some v0=>
   rw[hp]at a4 hG;go_upto_region 6 with(go_at_call 282;refine a4.L ?_;rintro P w7⟨he,a5⟩;simp only[Gw]at he;obtain⟨pa,pc,rfl,bn⟩:=he;have F:=au.bl a5 (fz:=ir cP W6.heap.size (t+3)) λb hb=>gV _ _ _ _ hb;have b2:=F.cellAt 28 rfl;have b3:=F.N 28;have bx:=F.A;obtain⟨a9,b4,bo⟩:=iI F a5 bn;clear a5 F bn);have M:=a9.Kk v0 (mP pa v0 pc) bo;have O8:gI (λb=>b=p) w7 (w7.setCell (U p 28) (mP pa v0 pc)):=(gI.refl (λb=>b=p) w7).setCell (U p 28) (.inl rfl) _;have l6:=ar.size;have a6:=gN (hG _ (ir cP W6.heap.size (t+3)) _ pa pc v0 (λb hb=>gV _ _ _ _ C) M (H.nF ((ar.H (gI.D b4)).H O8)) (bo.only O8 (λb hb e=>by rw[e,a9.tp];omega) λ_ _ e=>e) rfl);obtain⟨W8,ai⟩:=gG (w7.setCell (U p 28) (mP pa v0 pc));rw[ai]at M a6|-;obtain⟨bl,bm⟩:=M.R 27 28 rfl;have bA:=M.A;clear M O8 ai a9 b2 b3 HL HH HU aa ak a4 hG y0 y1 y2 y3 l6;go_upto_region 7 with fail;go_region_with(go_at_call 154;refine(a6 _ ?hb).L ?_;(case hb=>exact nH);rintro P w9⟨rfl,hs⟩;have HS:=gN hs;clear hs);all_goals
    go_wp2;go_end0;exact⟨rfl,HS⟩
 have bE:(v1==0)=false:=by simpa using h0
 have Q:=HY.o;rw[az h0]at Q;have HY:=gN Q;clear Q;have a6:Hid (∀W2,Bl W6 W2->iU 154 #[ptr p,Mr 6 0 0 0 X.mv.M 0 0 0 (mP sa vv sc)] W2 λP w'=>P=iF/\CS w cP t p qb Y w'):=λW2 hb=>by rw[<-HY.o];exact b8 vv W6 W2 cP _ ib a8 (H.nF ar) sa sc am hb
 clear a3 a8 al O6 an ap am;go_upto_region 4 with fail;rw[aq.o];clear aq z0 z1 z2 z3 bg bi;obtain⟨bl,bm⟩:=au.R 27 28 rfl;have bR:=au.A;clear HL HH HU aa ak HP;go_upto_region 7 with fail;go_region_with(go_at_call 154;refine(a6 _ ?hb).L ?_;(case hb=>exact nH);rintro P w8⟨rfl,hs⟩;have HS:=gN hs;clear hs);all_goals
  go_wp2;go_end0;exact⟨rfl,HS⟩
def Cx.VH(X:Cx)(u:Int):Prop:=0<=u/\u<X.n*X.m
def oM.GF(h:oM X)(y:X.VH u):GF X.n X.m X.vo X.ce u=(u/X.m,0):=by unfold Go.Proofs.YtbghhbpacijmmaaGreat.GF;obtain⟨A,F⟩:=y;simp[h.oE];omega
def oM.XA(h:oM X)(A:X.VH u):∃(j:Nat) (ch:List Int),u/X.m=(j:Int)/\j<X.n/\X.lay[j]?=some ch/\X.lay.getD (u/X.m).toNat []=ch/\1<=ch.length/\ch.length<=3:=by
 obtain⟨b1,_,L,_⟩:=h.A;obtain⟨F,H⟩:=A;have M:0<=u/(X.m:Int):=fC F C;have P:u/(X.m:Int)<X.n:=gp C H;have y:(u/(X.m:Int)).toNat<X.lay.length:=by rw[h.ll];omega
 refine⟨(u/X.m).toNat,X.lay[(u/(X.m:Int)).toNat],C,C,ah y,?_,(h.ne _ (aL y)).1,(h.ne _ (aL y)).2⟩;rw[aS,ah y];rfl
theorem AE(h:jy w cP t p qb X V)(hx:oM X)(hc:c∈X.a)(hu:X.VH c.unit):iU 92 #[ptr p,ptr (qb c.gL)] w λen w'=>en=iF/\CS w cP t p qb (X.ku c) w'/\gI (λb=>cP b=t+1\/cP b=t+2) w w':=by
 obtain⟨cv,k⟩:=h.r.f c hc;obtain⟨j,ch,hj,ad,a3,a4,ag,ai⟩:=hx.XA hu;have HL:=gN λw=>uK X.n X.m X.vo X.ce c.unit w;rw[hx.GF hu,hj]at HL;obtain⟨g,aa,cap,f,a5,ac,ak,tg,hg,a1⟩:=h.r.lay;obtain⟨x,a6,a2⟩:=a1 j ch a3;obtain⟨na,nc,a7⟩:=a2.D;rw[ay]at a7;subst a7;have cg:w.cell? (U g j)=some (gK na ch.length nc):=by rw[ax w g j aa 24 f hg];exact a6
 have lg:=(ae.1 hg).1;obtain⟨c0,c1,c2⟩:=h.QI 0 1 2 rfl;obtain⟨c3,c6⟩:=h.R 3 6 rfl;rw[a5,hx.ll]at c6;have e4:=k.cellAt 4 rfl;have lp:=h.A;have lq:=k.lt;have al:(0:Int)<=(j:Int):=C;have am:(j:Int)<(X.n:Int):=C;have HE:Hid (∀W wh,Bl w W->iU 96 #[ptr p,ptr (qb c.gL),.agg #[I wh,I 0,OO]] W λen w'=>en=iF/\CS w cP t p qb (X.fin c ⟨wh,0,[]⟩) w'/\gI (λb=>cP b=t+1\/cP b=t+2) w w'):=λW wh hW=>(Lw (h.bl hW (fz:=cP) λ_ _=>rfl) hc ⟨wh,0,[]⟩ none 0 Rd.nil).L λen w'⟨e1,e2,e3⟩=>⟨e1,CS.M hW e2,(gI.D hW).H e3⟩
 have HC:Hid (∀W,Bl w W->_):=λW hW=>xS (a2.bl hW (fz:=cP) λ_ _ e=>e) C c.unit;have HF:Hid (∀W,Bl w W->CS w cP t p qb X W/\gI (λb=>cP b=t+1\/cP b=t+2) w W):=λW hW=>⟨CS.D ⟨V,h⟩ hW,gI.D hW⟩;have hS:X.ku c=if c.unit∈ch then(if ch.length=1 then X.fin c ⟨6,0,[]⟩else X)else X.fin c ⟨1,0,[]⟩:=by unfold Cx.ku;rw[a4];simp
 obtain⟨Y,hY⟩:=gG (X.ku c);rw[hY]at hS;rw[hY];have Q:=gN hS;clear h k hx hu a1 a6 a2 hg a5 hS a3 a4 hY;generalize qb c.gL=q at*;go_enter func92,ntmps92;go_upto_region 0 with fail;go_cut[4,5] λx y wx=>x=I j/\y=I 0/\Hid (Bl w wx)
 case first=>
  go_region_with(go_at_call 90;refine(HL _).L ?_;rintro en w2⟨rfl,a8⟩;have hB:Bl w w2:=Bl.H jU a8;have T:=gN hB;simp only[OR];clear hB a8);all_goals(go_wp2_with fail;go_meet)
  all_goals exact⟨rfl,rfl,T⟩
 case rest=>
  obtain⟨rfl,rfl,T⟩:=hcut;have d6:=(T.cell lp).H c6;have dg:=(T.cell lg).H cg;have d4:=(T.cell lq).H e4;have an:=af lp T.lt;have ap:=af lq T.lt;have aq:=af lg T.lt;by_cases M:c.unit∈ch
  .have F:decide (c.unit∈ch)=true:=by simpa using M
   have P:=gN (HC _ T);rw[F]at P;by_cases h1:ch.length=1
   .have a0:=gN (HE wc 6 T);have A:=Q.o;rw[aE M,aE h1]at A;rw[<-A]at a0;clear HE HC M F A Q;rw[h1]at dg P;go_wp2_with(first|(go_at_call 153;refine P.L ?_;rintro en w3⟨rfl,h3⟩;have e3:=h3.symm;clear h3;subst e3)|(go_at_call 96;refine a0.L ?_;rintro en w3⟨rfl,hs⟩;have HS:=gN hs;clear hs));go_end0;exact⟨rfl,HS⟩
   have ab:¬((ch.length:Nat):Int)=1:=C;have ar:(((ch.length:Nat):Int)==1)=false:=je ab;have a9:=gN (HF wc T);have A:=Q.o;rw[aE M,az h1]at A;rw[<-A]at a9;clear HE HC M F A Q;go_wp2_with(first|(go_at_call 153;refine P.L ?_;rintro en w3⟨rfl,h3⟩;have e3:=h3.symm;clear h3;subst e3));go_end0;exact⟨rfl,a9⟩
  have F:decide (c.unit∈ch)=false:=by simpa using M
  have P:=gN (HC _ T);rw[F]at P;have a0:=gN (HE wc 1 T);have A:=Q.o;rw[az M]at A;rw[<-A]at a0;clear HE HC M F A Q;go_wp2_with(first|(go_at_call 153;refine P.L ?_;rintro en w3⟨rfl,h3⟩;have e3:=h3.symm;clear h3;subst e3)|(go_at_call 96;refine a0.L ?_;rintro en w3⟨rfl,hs⟩;have HS:=gN hs;clear hs));go_end0;exact⟨rfl,HS⟩
def Mq(h:jy w cP t p qb X V)(y:oM X)(A:c∈X.a)(F:X.VH c.unit):iU 92 #[ptr p,ptr (qb c.gL)] w λH w'=>H=iF/\CS w cP t p qb (X.ku c) w':=
 (AE h y A F).L λ_ _ e=>⟨e.1,e.2.1⟩
structure MA(X:Cx)(c:jn):Prop where
 kd:c.kind=1\/c.kind=2\/c.kind=5
 ad:(c.kind=1->Cx.lD c=false)->c.kind≠5->X.T c.iA
 un:c.kind=5->X.VH c.unit
 nl:c.q.nodes.length<=100
theorem TM(h:jy w cP t p qb X V)(y:100<=t)(H:oM X)(Q:c∈X.a)(A:MA X c):iU 296 #[ptr p,ptr (qb c.gL)] w λen w'=>en=iF/\CS w cP t p qb (X.kA c) w':=by
 obtain⟨cv,k⟩:=h.r.f c Q;have e0:=k.cellAt 0 rfl;have lq:=k.lt;by_cases F:c.kind=5
 .have L:=gN (Mq h H Q (A.un F));have M:X.kA c=X.ku c:=by unfold Cx.kA;rw[aE F]
  rw[M];rw[F]at e0;clear h k H A;generalize qb c.gL=q at*;go_enter func296,ntmps296;go_wp2_with(go_at_call 92;refine jA L λw3 L=>?_);go_end0;exact⟨rfl,L⟩
 have T:=gN (qT k A.nl);have a0:(c.kind==5)=false:=je F;have M:X.kA c=if Cx.lD c then X else X.dO c:=by unfold Cx.kA;rw[az F]
 rw[M]
 cases W:Cx.lD c with
 |true=>rw[W]at T;have HF:=gN (CS.D (w':=w) ⟨V,h⟩ (Bl.refl w));clear h k H A M;generalize qb c.gL=q at*;go_enter func296,ntmps296;go_wp2_with(go_at_call 94;refine gS T λw3 P=>?_;have e3:=P.symm;clear P;subst e3);go_end0;exact⟨rfl,HF⟩
 |false=>
  rw[W]at T;have HD:Hid (iU 89 #[ptr p,ptr (qb c.gL)] w λen w'=>en=iF/\CS w cP t p qb (X.dO c) w'):=by
   obtain k1|k1|k1:=A.kd
   .exact R8 h y H Q (A.ad (λ_=>W) F) k1
   .exact Ql h y H Q (A.ad (λ_=>W) F) k1
   exact absurd k1 F
  clear h k H A M;generalize qb c.gL=q at*;go_enter func296,ntmps296;go_wp2_with(first|(go_at_call 94;refine gS T λw3 P=>?_;have e3:=P.symm;clear P;subst e3)|(go_at_call 89;refine jA HD λw3 L=>?_));go_end0;exact⟨rfl,L⟩
structure Ov(k:Nat)(Z Z':Cx):Prop where
 n:Z'.n=Z.n
 m:Z'.m=Z.m
 vo:Z'.vo=Z.vo
 ce:Z'.ce=Z.ce
 lay:Z'.lay=Z.lay
 ep:Z'.b=Z.b
 A:Z'.A=Z.A
 e:Z'.e.length=Z.e.length
 a0:Z.gJ<=Z'.gJ
 a1:Z'.gJ<=Z.gJ+1
 len:Z'.a.length<=Z.a.length
 mem:∀d∈Z.a,d.gL≠k->d∈Z'.a
def Ov.refl(k)(Z):Ov k Z Z:=⟨rfl,rfl,rfl,rfl,rfl,rfl,rfl,rfl,iG,C,jr,λ_ h _=>h⟩
def Ov.mK(Z)(c)(nodes)(kd pl)(u):Ov c.gL Z (Z.mK c nodes kd pl u):=by
 refine⟨rfl,rfl,rfl,rfl,rfl,rfl,rfl,rfl,?_,?_,?_,λd y h=>?_⟩
 .show Z.gJ<=Z.gJ+1;omega
 .exact iG
 .show(List.map _ _).length<=_;simp
 exact aD.2 ⟨d,y,by rw[az h]⟩
def Ov.fin(Z)(c)(r):Ov c.gL Z (Z.fin c r):=by
 refine⟨rfl,rfl,rfl,rfl,rfl,rfl,rfl,?_,iG,?_,bF _ _,λd y h=>?_⟩
 .show(Z.e.set _ _).length=_;simp
 .show Z.gJ<=Z.gJ+1;omega
 exact aU.2 ⟨y,je h⟩
def Ov.kA(Z)(c):Ov c.gL Z (Z.kA c):=by
 unfold Cx.kA;split
 .unfold Cx.ku;split
  .split
   .exact Ov.fin Z c _
   exact Ov.refl _ Z
  exact Ov.fin Z c _
 split
 .exact Ov.refl _ Z
 unfold Cx.dO;split
 .exact Ov.mK Z {c with d:=c.ij,b:=0} _ _ _ _
 split
 .exact Ov.mK Z c _ _ _ _
 exact Ov.refl _ Z
structure Vz(Y Z:Cx)(j:Nat)(rest:List jn):Prop where
 n:Z.n=Y.n
 m:Z.m=Y.m
 vo:Z.vo=Y.vo
 ce:Z.ce=Y.ce
 lay:Z.lay=Y.lay
 ep:Z.b=Y.b
 A:Z.A=Y.A
 e:Z.e.length=Y.e.length
 a0:Y.gJ<=Z.gJ
 a1:Z.gJ<=Y.gJ+j
 len:Z.a.length<=Y.a.length
 mem:∀d∈rest,d∈Z.a
def Vz.step{rest:List jn}(h:Vz Y Z j (c::rest))(A:∀d∈rest,d.gL≠c.gL):Vz Y (Z.kA c) (j+1) rest:=by have k:=Ov.kA Z c;exact⟨k.n.H h.n,k.m.H h.m,k.vo.H h.vo,k.ce.H h.ce,k.lay.H h.lay,k.ep.H h.ep,k.A.H h.A,k.e.H h.e,bt h.a0 k.a0,by have:=k.a1;have:=h.a1;omega,aF k.len h.len,λd y=>k.mem d (h.mem d (aX _ y)) (A d y)⟩
def Vz.Q8{y:List jn}(h:Vz Y Z j y)(A:oM Y)(F:j<=50)(H:Y.gJ+100<=1000000000000000):oM Z:=
 ⟨by rw[h.n,h.m,h.vo,h.ce];exact A.oE,by rw[h.lay,h.n];exact A.ll,by rw[h.lay];exact A.ne,bt A.a0 h.a0,gM h.a1⟩
def Vz.Zm{y:List jn}(h:Vz Y Z j y)(A:MA Y c):MA Z c:=
 ⟨A.kd,λF H=>by have:=A.ad F H;unfold Cx.T at this|-;rw[h.n,h.ce];exact this,λF=>by have:=A.un F;unfold Cx.VH at this|-;rw[h.n,h.m];exact this,A.nl⟩
def jy.VR(h:jy w cP t p qb X V)(e)(l)(lv)(y:qh w cP (t+3) lv l):jy ((((w.setCell (U p 5) (I e)).setCell (U p 6) lv).setCell (U p 53) (.bool false)).setCell (U p 54) (.bool false)) cP t p qb {X with b:=e,lay:=l,wb:=false,wl:=false} {V with lv:=lv}:=
 h.uV ((((((gI.refl (λb=>b=p) w).setCell (U p 5) (.inl rfl) _).setCell (U p 6) (.inl rfl) _).setCell (U p 53) (.inl rfl) _).setCell (U p 54) (.inl rfl) _)) (jO 54 _ _ _ (jO 53 _ _ _ (jO 6 _ _ _ (jO 5 _ w _ h.hp)))) ⟨y,h.r.e,h.r.tb,h.r.mp,h.r.bo,h.r.bn,h.r.pr,h.r.sl,h.r.vt,h.r.bg,h.r.b,h.r.f,h.r.a.gL,h.r.a.lt,h.r.a.a,h.r.a.A⟩
structure G1(X:Cx):Prop where
 x:oM X
 u:BI X
 e:0<=X.mv.b/\X.mv.b<=1000000000000000
 t:0<=X.A/\X.A<=1000000000000000
 a:X.gJ+100<=1000000000000000
 r:X.e.length<=1000000000
 l:X.a.length<=8
 c:∀c∈X.a,MA X c
def Cx.N(X:Cx)(R:List (List Int)):Cx:={X with b:=X.mv.b,lay:=R,mv:=Mv.zero,wb:=false,wl:=false}
def G1.N(h:G1 X)(F:oj R X.lay):oM (X.N R):=
 ⟨h.x.oE,by rw[show(X.N R).lay=R from rfl,F.1];exact h.x.ll,λr H=>by
  obtain⟨ch,y,L,A⟩:=F.mem H
  have M:=h.x.ne ch y
  have P:=L.length_le
  have Q:0<r.length:=cU.2 A
  omega,h.x.a0,h.x.a1⟩
def PH(h:j+1<=n):n-(Go.RowKit.intOf (I ((j:Int)+1))).toNat<n-(Go.RowKit.intOf (I (j:Int))).toNat:=by show n-((j:Int)+1).toNat<n-(j:Int).toNat;omega
def Om{l:List jn}(h:l.Pairwise λc d=>c.gL<d.gL)(j)(A:j<l.length):∀d∈l.drop (j+1),d.gL≠l[j].gL:=λd F=>by have y:=h.sublist (List.drop_sublist j l);rw[cm A,cI]at y;have:=y.1 d F;omega
theorem FD(h:jy w cP t p qb X V)(h100:100<=t)(ho:G1 X)(va)(vc)(val)(hv:Rd w cP (t+3) 5 (gK va val.length vc) (val.map B8))(hB:nX val):iU 276 #[ptr p,gK va val.length vc] w λen w'=>en=iF/\CS w cP t p qb (X.kX val) w':=by
 obtain⟨b1,b2,_⟩:=ho.x.A;have hll:=ho.x.ll;obtain⟨d6,d24⟩:=h.R 6 24 rfl;have lp:=h.A;obtain⟨gl,clv,hlv⟩:∃gl clv,V.lv=gK (G gl) X.lay.length clv:=by obtain⟨g,arr,cap,f,e,_⟩:=h.r.lay;exact⟨g,cap,e⟩
 rw[hlv]at d6;have HW:=gN (Bo V.lv X.lay (gK va val.length vc) val w h.r.lay.XM hv hB C C λc hc=>by have:=ho.x.ne c hc;omega);rw[hlv]at HW;obtain⟨H,Ho⟩:=gO h ho;obtain⟨Y,hY⟩:=gG (X.kX val);rw[hY];unfold Cx.kX at hY;have hsz:(prog.info? 108).map (·.size)=some (tY 0 false).toArray.size:=iu;have hone:(tY 0 false).toArray.all (·.oneCell')=true:=iu;clear h ho hv hB hlv hll
 cases hw:within X.lay val with
 |none=>
  rw[hw]at HW hY;simp only at hY;have HY:=gN hY;clear hw hY;go_enter func276,ntmps276;go_upto_region 3 with(first|(go_at_call 295;refine HW.L ?_;rintro en w2⟨he,hb2⟩;simp only[yA]at he;subst he;have e24:=(hb2.cell lp).H d24;have lp2:=af lp hb2.lt;have hK2:=H.bl hb2 (fz:=cP) ib;obtain⟨hth2,HB⟩:=gO hK2.there hb2;clear HW hb2 hK2)|((show Go.wpList _ _ _ [{dst:=none,op:=Op.store 108 _ _,type:=_,pos:=_,after:=_,guard:=_}] _ _);refine wpList_store_mid rfl 108 (.tmp 26) (.tmp 24) rfl p 24 (tY 0 false).toArray rfl rfl hth2 hsz hone ?_));have hE:w2.setCells p 24 (tY 0 false).toArray.toList=lT w2 p 24 (tY 0 false):=wJ p _ 24 _;rw[hE];have hK2:=H.bl HB (fz:=cP) ib;have hK3:=hK2.zx 0 false;have O3:gI (λb=>b=p) w2 (lT w2 p 24 (tY 0 false)):=kD (S:=λb=>b=p) (.inl rfl) _ 24 w2 (gI.refl _ w2);have HS:Hid (CS w cP t p qb Y (lT w2 p 24 (tY 0 false))):=by unfold Hid;rw[<-HY.o];exact CS.mk hK3 ((gI.D HB).H (hK2.nF O3))
  generalize lT w2 p 24 (tY 0 false)=W3 at*;clear hE hK2 hK3 O3 hsz hone hth2;go_wp2;refine aG (v:= .tuple #[]) (by simp[results,results276,go_sem]) rfl ?_;exact⟨rfl,HS⟩
 |some R=>
  rw[hw]at HW hY;simp only at hY;have hS:=(rO hw).2;obtain⟨HXL,HSb⟩:=gO (Ho.N hS) hS;have HY:Hid ((if((X.N R).a.foldl Cx.kA (X.N R)).iJ||decide (((X.N R).a.foldl Cx.kA (X.N R)).b<((X.N R).a.foldl Cx.kA (X.N R)).A)then((X.N R).a.foldl Cx.kA (X.N R)).iB else(X.N R).a.foldl Cx.kA (X.N R))=Y):=hY;have hRl:=gN hS.1;clear hw hY hS;go_enter func276,ntmps276;go_upto_region 3 with(first|(go_at_call 295;refine HW.L ?_;rintro en w2⟨he,hb2⟩;simp only[yA]at he;obtain⟨g,ms,rfl,hR⟩:=he;have e24:=(hb2.cell lp).H d24;have lp2:=af lp hb2.lt;have hK2:=H.bl hb2 (fz:=cP) ib;obtain⟨hth2,HB,HR⟩:=iI hK2.there hb2 hR;clear HW hb2 hK2 hR)|((show Go.wpList _ _ _ [{dst:=none,op:=Op.store 108 _ _,type:=_,pos:=_,after:=_,guard:=_}] _ _);refine wpList_store_mid rfl 108 (.tmp 26) (.tmp 24) rfl p 24 (tY 0 false).toArray rfl rfl hth2 hsz hone ?_));have hE:w2.setCells p 24 (tY 0 false).toArray.toList=lT w2 p 24 (tY 0 false):=wJ p _ 24 _;rw[hE];have hold:∀b,b<w.heap.size->ir cP w.heap.size (t+3) b=cP b:=λb hb=>gV _ _ _ _ hb;have hK2:=H.bl HB (fz:=ir cP w.heap.size (t+3)) hold;have hK3:=hK2.zx 0 false;have O3:gI (λb=>b=p) w2 (lT w2 p 24 (tY 0 false)):=kD (S:=λb=>b=p) (.inl rfl) _ 24 w2 (gI.refl _ w2);have hL3:qh (lT w2 p 24 (tY 0 false)) (ir cP w.heap.size (t+3)) (t+3) (gK (G g) X.lay.length X.lay.length) R:=(HR.lay λb hb=>jc _ _ _ _ hb).only O3 (λb _ e=>by rw[e,hK2.tp];omega) λ_ _ e=>e;have hK4:=hK3.VR X.mv.b R _ hL3;have O4:=(((O3.setCell (U p 5) (.inl rfl) (I X.mv.b)).setCell (U p 6) (.inl rfl) (gK (G g) X.lay.length X.lay.length)).setCell (U p 53) (.inl rfl) (.bool false)).setCell (U p 54) (.inl rfl) (.bool false);obtain⟨y5,y6,y53,y54⟩:=hK3.T 5 6 53 54 rfl;obtain⟨f5,f6,f53,f54⟩:=hK3.EO 5 6 53 54;have lp3:=hK3.A;have HO4:Hid (gI (λb=>b=p) w _):=(gI.D HB).H O4;have HK4:=gN hK4;generalize lT w2 p 24 (tY 0 false)=W3 at*;clear hE hK2 hK3 O3 hsz hone hth2 hL3 hK4 O4;go_upto_region 4 with fail;go_cut[]from 2 to 40 λwx=>Hid (jy wx (ir cP w.heap.size (t+3)) t p qb (X.N R) {{V with bg:= .map none,b:= OO,sl:=QV.zero,vt:=QV.zero}with lv:=gK (G g) X.lay.length X.lay.length})/\Hid (gI (λb=>b=p) w wx)
  case first=>go_wp2_with fail;go_meet;exact⟨HK4,HO4⟩
  obtain⟨HKL,HO4⟩:=hcut;obtain⟨W4,hW4⟩:∃W4,W4=wc:=⟨_,rfl⟩;subst hW4;have HCa:=gN (AU HKL Ho.r Ho.l);have lp4:=HKL.A;have hpl:(X.N R).a.length=X.a.length:=rfl;go_wp2_with fail;refine HCa.L ?_;rintro en w6⟨v6,rfl,ho6,hb6⟩;obtain⟨a6,c6,rfl⟩:=jk ho6;have hK6:=HKL.bl hb6 (fz:=ir (ir cP w.heap.size (t+3)) W4.heap.size 5) λb hb=>gV _ _ _ _ hb;obtain⟨HK6,HO6,HB6,hpn⟩:=kN hK6 ho6 hb6 hK6.r.a.gL;clear HCa hK6 ho6 hb6 hpl;have HFin:Hid (∀W tagr Vr,(∀b,b<w6.heap.size->tagr b=ir (ir cP w.heap.size (t+3)) W4.heap.size 5 b)->gI (λb=>Mc t (ir (ir cP w.heap.size (t+3)) W4.heap.size 5 b)) w6 W->jy W tagr t p qb ((X.N R).a.foldl Cx.kA (X.N R)) Vr->∀Z W',CS W tagr t p qb Z W'->CS w cP t p qb Z W'):=λW tagr Vr ht hO _ Z W' hc=>by
   have l2:=HB.lt;have l4:=HO4.size;have l6:=HB6.lt;have ho:∀b,b<w.heap.size->ir (ir cP w.heap.size (t+3)) W4.heap.size 5 b=cP b:=λb hb=>by rw[gV _ _ _ _ C,gV _ _ _ _ hb]
   refine CS.wA ((H.nF (HO4.H (gI.D HB6))).andThen hO λb hb e=>?_) (λb hb=>(ht b C).H (ho b hb)) hc;rwa[ho b hb]at e
  have h8l:=Ho.l;go_wp2;go_loopw[44](λi wr=>∃j:Nat,j<=X.a.length/\i=I j/\Hid (CS w6 (ir (ir cP w.heap.size (t+3)) W4.heap.size 5) t p qb (((X.N R).a.take j).foldl Cx.kA (X.N R)) wr)/\Hid (Vz (X.N R) (((X.N R).a.take j).foldl Cx.kA (X.N R)) j ((X.N R).a.drop j))) λi _=>X.a.length-(Go.RowKit.intOf i).toNat
  case atStart=>exact⟨0,jR,rfl,CS.D ⟨_,HK6⟩ jZ,⟨rfl,rfl,rfl,rfl,rfl,rfl,rfl,rfl,iG,bz,jr,λd hd=>hd⟩⟩
  obtain⟨j,hj,rfl,HCS,HOv⟩:=hrel;obtain⟨tagr,hr1,⟨Vr,Kr⟩,Or⟩:=HCS.o;by_cases jt:j<X.a.length
  .have hltI:(j:Int)<(X.a.length:Int):=C;have hlt2:j<(X.N R).a.length:=jt;obtain⟨g6,cap',hga⟩:=qS HO6 C;simp only[bO]at hga;obtain⟨rfl,_,rfl⟩:=hga;have hcell:=HO6.cellAt j C;rw[aK,ah hlt2]at hcell;have hgl:=HO6.lt g6 rfl;have hnM:¬Mc t (ir (ir cP w.heap.size (t+3)) W4.heap.size 5 g6):=by rw[jc _ _ _ _ hgl.1];unfold Mc;omega
   have k1:=(Or.cell (b:=g6) (o:=j) hgl.2 hnM).H hcell;simp only[bG]at k1;have hgl2:=af hgl.2 Or.size;have hdr:=cm hlt2;have hOv:=HOv.o;rw[hdr]at hOv;have hOv2:=hOv.step (Om hpn j hlt2);have htk:(X.N R).a.take (j+1)=(X.N R).a.take j++[(X.N R).a[j]]:=aM hlt2;have hfo:((X.N R).a.take (j+1)).foldl Cx.kA (X.N R)=(((X.N R).a.take j).foldl Cx.kA (X.N R)).kA (X.N R).a[j]:=by rw[htk,dN];rfl
   have hcm:=hOv.mem _ aN;have hCK:MA (X.N R) (X.N R).a[j]:=by have:=Ho.c _ (aL jt);exact⟨this.kd,this.ad,this.un,this.nl⟩
   have HOver:=gN (TM Kr h100 (hOv.Q8 HXL (gM Ho.l) Ho.a) hcm (hOv.Zm hCK));have HF:Hid (∀W',CS wr tagr t p qb ((((X.N R).a.take j).foldl Cx.kA (X.N R)).kA (X.N R).a[j]) W'->CS w6 (ir (ir cP w.heap.size (t+3)) W4.heap.size 5) t p qb (((X.N R).a.take (j+1)).foldl Cx.kA (X.N R)) W'):=λW' hc=>by rw[hfo];exact CS.wA Or hr1 hc
   rw[<-hfo]at hOv2;have HOv2:=gN hOv2;have hj1:Hid (j+1<=X.a.length):=jt;clear HCS HOv Kr Or hr1 hOv hOv2 hfo htk hdr hcm hCK hcell;generalize (X.N R).a[j]=cc at*;generalize ((X.N R).a.take j).foldl Cx.kA (X.N R)=Zj at*;generalize qb cc.gL=q at*;go_wp2_with(go_at_call 296;refine jA HOver λw7 HS=>?_);go_roundw
   case rel=>exact⟨j+1,hj1,bz,HF _ HS,HOv2⟩
   exact PH hj1
  have hge:¬((j:Int)<(X.a.length:Int)):=C;have hje:j=X.a.length:=C;subst hje;have htl:(X.N R).a.take X.a.length=(X.N R).a:=bZ;rw[htl]at Kr;have hOv:=HOv.o;rw[htl]at hOv;have HF:=gN (HFin wr tagr Vr hr1 Or Kr);have HH:Hid (∀W,Bl wr W->_):=λW hW=>mS (Kr.bl hW (fz:=tagr) ib) (by rw[hOv.e];exact Ho.r) (aF hOv.len Ho.l);have hxz:=hOv.Q8 HXL (gM Ho.l) Ho.a;have hnz:XN ((X.N R).a.foldl Cx.kA (X.N R)):=⟨by rw[hOv.ep];exact Ho.e,by rw[hOv.A];exact Ho.t⟩;have HSM:Hid (∀W,Bl wr W->_):=λW hW=>pI (Kr.bl hW (fz:=tagr) ib) h100 hxz hnz;have HKr:=gN Kr;obtain⟨k5,k22⟩:=Kr.R 5 22 rfl;have lpr:=Kr.A;clear HCS HOv Kr Or hr1 hOv hxz hnz htl HFin;generalize (X.N R).a.foldl Cx.kA (X.N R)=Z at*;go_upto_region 10 with fail;go_cut[64] λx wx=>x=.bool (Z.iJ||decide (Z.b<Z.A))/\Hid (Bl wr wx)
  case first=>
   generalize Z.iJ=hc at*
   cases hc
   .go_region_with(go_at_call 91;refine(HH _ ?hb).L ?_;(case hb=>exact jU);rintro en w7⟨rfl,hb7⟩;have hB7:Bl wr w7:=Bl.H jU hb7;obtain⟨m5,m22⟩:=hB7.D lpr k5 k22;have lp7:=af lpr hB7.lt;have HB7:=gN hB7;clear hb7 hB7);all_goals(go_wp2_with fail;go_meet)
    all_goals exact⟨bz,HB7⟩
   refine wp_region_any iu ?_;refine ZW (i:=0) (v:=ptr p) rfl iu iu iu (λ_ _ _ h=>h) (Or.inl ⟨ko,λw=>ko⟩) ?_;refine wpAny_ready (rs:=[1]) iu bz ?_;refine AllReady.cons rfl (λK hK=>?_) ?_
   case refine_1=>go_simp;go_wp2_with(go_at_call 91;refine(HH _ ?hb).L ?_;(case hb=>exact jU);rintro en w7⟨rfl,hb7⟩;have hB7:Bl wr w7:=Bl.H jU hb7;have HB7:=gN hB7;clear hb7 hB7);refine ZW (i:=2) (v:= .bool true) rfl iu iu iu (λ_ _ _ h=>h) (Or.inl ⟨ko,λw=>ko⟩) ?_;refine ZW (i:=3) (v:=undef) rfl iu iu iu (λ_ _ _ h=>h) (Or.inr ⟨iu,rfl⟩) ?_;refine ZW (i:=4) (v:=undef) rfl iu iu iu (λ_ _ _ h=>h) (Or.inr ⟨iu,rfl⟩) ?_;refine ZW (i:=5) (v:=undef) rfl iu iu iu (λ_ _ _ h=>h) (Or.inr ⟨iu,rfl⟩) ?_;refine ZW (i:=6) (v:=undef) rfl iu iu iu (λ_ _ _ h=>h) (Or.inr ⟨iu,rfl⟩) ?_;refine ZW (i:=7) (v:=undef) rfl iu iu iu (λ_ _ _ h=>h) (Or.inr ⟨iu,rfl⟩) ?_;refine ZW (i:=8) (v:=undef) rfl iu iu iu (λ_ _ _ h=>h) (Or.inr ⟨iu,rfl⟩) ?_;refine ZW (i:=9) (v:=undef) rfl iu iu iu (λ_ _ _ h=>h) (Or.inr ⟨iu,rfl⟩) ?_;refine ZW (i:=10) (v:=undef) rfl iu iu iu (λ_ _ _ h=>h) (Or.inr ⟨iu,rfl⟩) ?_;refine ZW (i:=11) (v:=undef) rfl iu iu iu (λ_ _ _ h=>h) (Or.inr ⟨iu,rfl⟩) ?_;refine ZW (i:=12) (v:= .bool true) rfl iu iu iu (λ_ _ _ h=>h) (Or.inl ⟨iu,λw=>iu⟩) ?_;refine wpAny_done iu ?_ _;go_simp;go_step;go_meet;exact⟨bz,HB7⟩
   case refine_2=>exact AllReady.nil
  case rest=>
   obtain⟨rfl,HB7⟩:=hcut
   cases hb:(Z.iJ||decide (Z.b<Z.A))with
   |true=>have HYe:=HY.o;rw[hb]at HYe;have HSM2:Hid (iU 93 #[ptr p] wc λen w'=>en=iF/\CS w cP t p qb Y w'):=(HSM wc HB7).L λen w'⟨e1,e2⟩=>⟨e1,by rw[<-HYe];exact HF _ _ (CS.M HB7 e2)⟩;clear HSM HF HYe HY hb HH k5 k22;go_wp2_with(go_at_call 93;refine jA HSM2 λw8 HS=>?_);go_end0;exact⟨rfl,HS⟩
   |false=>
    have HYe:=HY.o;rw[hb]at HYe;have HS:Hid (CS w cP t p qb Y wc):=by unfold Hid;rw[<-HYe];exact HF _ _ (CS.D ⟨_,HKr⟩ HB7)
    clear HSM HF HYe HY hb HH k5 k22;go_wp2;go_end0;exact⟨rfl,HS⟩
end Go.Proofs.YtbghhbpacijmmaaGreat
