import Derived.Shelf.SlIterI.Nil
import Derived.Shelf.Spec.SlicesGrow
import Derived.Test.YtbghhbpacijmmaaGreatProg
import Derived.Test.YtbghhbpacijmmaaGreatL03
open Go.Proofs.Tryz
namespace Go.Proofs.YtbghhbpacijmmaaGreat
set_option maxRecDepth 99999
set_option maxHeartbeats 0
set_option linter.defProp false
open Go.RowKit Go.Maps Go.Shelf
attribute [local go_sem ↓] Go.wp_at_zero Go.wp_at_succ
open Go.ChangeMaps (setBlock)
variable {w w' w1:World} {cP fz qb Q:Nat->Nat} {t p g q tg tn tb tc iC gm r n:Nat} {v:Value} {P:kC} {a b c d ch:Int} {cs xs:List Value} {e:TypeId} {S:Nat->Prop} {x:MapEntry}
section
variable{L:Nat}{ov:Value}{l:List Qv}{q:List Qz}
def OE{W wc:World}{iv:Value}{F:Value}(h:Qm w cP tn tb g gm iC iv ov l q)(y:Bl w W)(ho:wc.ownsRow W.heap.size 5 1 F n xs)(hT:Tl W wc (ir cP w.heap.size 5) tg p a b c d L P F)(a3:10<=tg)(a0:tn≠tg)(T:tb≠tg):∃V j,(∀b,b<w.heap.size->j b=cP b)/\L<=V/\V<=L+300/\Qm wc j tn tb g gm iC iv ov l q/\(∀b,F.ownBlock=some b->j b=tb)/\(∀x∈l,∀b,x.M=some b->F.ownBlock≠some b)/\ml wc j tg p a b c d V P/\gI (λb=>cP b=tg) w wc:=by
 obtain⟨V,fz,a1,Y,l1,l2,hp,Z⟩:=hT;have hs:∀b,F.ownBlock=some b->W.heap.size<=b:=λb A=>(ho.lt b A).1;have o1:gI (λb=>cP b=tg) w wc:=⟨Z.os.H y.os,Z.tape.H y.tape,Z.output.H y.output,aF y.lt Z.size,λi H hn=>by rw[Z.block i (af H y.lt) λe=>hn (by rwa[gV _ _ _ _ H]at e),y.heap H]⟩
 have t2:∀b,b<w.heap.size->(λb=>if F.ownBlock=some b then tb else fz b) b=cP b:=λb A=>by simp only;rw[az λe=>by have:=hs b e;have:=y.lt;omega,Y b (af A y.lt),gV _ _ _ _ A]
 refine⟨V,λb=>if F.ownBlock=some b then tb else fz b,t2,l1,l2,h.only o1 (λb _ e=>by rw[e];exact⟨Ne.symm a0,Ne.symm T⟩) t2,λb A=>by simp only;rw[aE A],λx hx b A e=>?_,hp.only (gI.refl (λ_=>False) _) (λ_ _ e=>e.elim) λb A e=>?_,o1⟩
 .obtain⟨i,H,rfl⟩:=aV.1 hx;have a2:i<q.length:=by rw[<-h.len];exact H
  have:=((h.vs i l[i] q[i] (ah H) (ah a2)).M A).1;have:=hs b e;have:=y.lt;omega
 show(if F.ownBlock=some b then tb else fz b)=tg;rw[az λe'=>by have:=a1 b e';omega];exact e
theorem Li{ty F:Nat}(hF:ty=233/\F=333\/ty=238/\F=340)(a8:P.ty=ty)(hq:Qm w cP tn tb g gm iC (VJ ty p) ov l q)(an:10<=tg)(a0:tn≠tg)(a9:tb≠tg)(ap:tb≠tn)(aq:q.length<=1000)(v:Value)(fr kd ln Z e x ck cl ca:Int)(val ds:List Int)(h0:1000<=fr)(h1:fr<=1099)(hv:sJ w v (j5 kd [ln,Z,e,x,ck,cl,ca] val))(ar:0<=ln/\ln<10)(aa:Rc.Ok pG ⟨kd,[ln,Z,e,x,ck,cl,ca],val⟩)(hA:∀W va vc,Bl w W->Bs W (gK va val.length vc) (val.map B8)->(∀b,(gK va val.length vc).ownBlock=some b->b<W.heap.size/\ir cP w.heap.size 5 b≠tg)->nQ F #[.agg #[O p],.agg #[I kd,I ln,I Z,I e,I x,I ck,I cl,I ca,gK va val.length vc]] W (ir cP w.heap.size 5) tg p a b c d L ZJ ds P):iU 161 #[O g,I fr,v] w λen w'=>en=iF/\∃L' fz,(∀b,b<w.heap.size->fz b=cP b)/\L<=L'/\L'<=L+300/\Nd w' fz tg tn tb g a b c d L' P (By q ⟨fr,ln,Z,ds⟩)/\gI (λb=>cP b=tg\/cP b=tn) w w':=by
 obtain⟨HR,HQ⟩:=gO (yZ v kd ln Z e x ck cl ca val w hv ar aa) hq;have hg:=hq.hp;have HG:=gN hg;have ab:=hq.tg;obtain⟨HF,au,ac⟩:=iI hF a8 hA;have av:∀W,(method 512 ty (Value.agg #[Value.pointer (some {block:=p,off:=0})]) "furrow/nodes.answer").run prog W=.ok (F,Value.agg #[Value.pointer (some {block:=p,off:=0})]) W:=by obtain⟨rfl,rfl⟩|⟨rfl,rfl⟩:=hF<;>exact λ_=>rfl
 clear hv aa hq hg hF a8 hA;go_enter func161,ntmps161;go_wp2_with fail;refine HR.L ?_;rintro en w1⟨va,vc,rfl,a1,a4⟩;have a5:=(a1.heap (ae.1 HG).1).H HG;obtain⟨W,hW⟩:=gG (w1.alloc (AZ kd ln Z e x ck cl ca va val vc));have bX:=(Bl.refl w1).alloc (AZ kd ln Z e x ck cl ca va val vc);have T:=(bX.heap (ae.1 a5).1).H a5;have a2:=ao w1 (AZ kd ln Z e x ck cl ca va val vc);rw[hW]at bX T a2;have bW:=a1.H bX;have c0:W.cell? (U g 0)=some (VJ ty p):=ax W g 0 _ 127 (0,0) T;obtain⟨⟨q0,q1,q2,q3,q4,q5,q6,q7,q8⟩,_,lq⟩:=xY a2;have lg:=(ae.1 T).1;have hV:=iE (base':=w.heap.size) ((jY bX).jH a4 λ_ _ e=>e) λb hb=>(a4.lt b hb).1;have HA:Hid (∀W',Bl W W'->_):=λW' M=>ac.o W' va vc (bW.H M) ((Du hV).bl M) λb hb=>⟨af (hV.lt b hb).2 M.lt,by rw[jc _ _ _ _ (hV.lt b hb).1];omega⟩;obtain⟨ad,a6,a7,ag⟩:=kN hW T a2 bW;have ai:w.heap.size<=w1.heap.size:=a1.lt;have ak:g<w.heap.size:=(ae.1 HG).1;clear HR hW a2 T a5 a1 a4 bX bW ac hV;go_upto_region 2 with fail;rw[ad.o];clear ad;generalize w1.heap.size=V at*;unfold nQ at HA;go_cut[8,9]from 25 to 33 λy z wx=>∃ba bc W',y=gK ba ds.length bc/\z=.bool true/\Hid (Bl W W'/\wx.ownsRow W'.heap.size 5 1 (mP ba ds bc) ds.length (ds.map B8)/\Tl W' wx (ir cP w.heap.size 5) tg p a b c d L P (mP ba ds bc))
 case first=>
  obtain⟨-,rfl⟩|⟨-,rfl⟩:=HF.o;all_goals
   go_region_held3(λW=>W.cell? (U g 0)=some (VJ ty p)/\W.cell? (U V 0)=some (I kd)/\W.cell? (U V 1)=some (I ln)/\W.cell? (U V 2)=some (I Z)/\W.cell? (U V 3)=some (I e)/\W.cell? (U V 4)=some (I x)/\W.cell? (U V 5)=some (I ck)/\W.cell? (U V 6)=some (I cl)/\W.cell? (U V 7)=some (I ca)/\W.cell? (U V 8)=some (mP va val vc)) (go_keep)
    (first|((first|go_at_call 333|go_at_call 340);refine(HA _ ?hb).L ?_;(case hb=>exact jU);rintro en w2⟨ba,bc,rfl,ho,hT⟩;have oQ:=hT.o;have e1:=(oQ.block g lg (by rw[gV _ _ _ _ ak,ab];exact a0)).H a6;have Y:=(oQ.block V lq (by rw[jc _ _ _ _ ai];omega)).H a7;have zg:=(ax w2 _ 0 _ 127 (0,0) e1);simp at zg;have z0:=(ax w2 _ 0 _ 100 (0,0) Y);simp at z0;have z1:=(ax w2 _ 1 _ 100 (0,0) Y);simp at z1;have z2:=(ax w2 _ 2 _ 100 (0,0) Y);simp at z2;have z3:=(ax w2 _ 3 _ 100 (0,0) Y);simp at z3;have z4:=(ax w2 _ 4 _ 100 (0,0) Y);simp at z4;have z5:=(ax w2 _ 5 _ 100 (0,0) Y);simp at z5;have z6:=(ax w2 _ 6 _ 100 (0,0) Y);simp at z6;have z7:=(ax w2 _ 7 _ 100 (0,0) Y);simp at z7;have z8:=(ax w2 _ 8 _ 100 (0,0) Y);simp at z8;have l1:=(ae.1 e1).1;have l2:=(ae.1 Y).1;have HP:=nI ho hT;clear ho hT oQ e1 Y))
   all_goals(go_wp2_with fail;go_meet)
   all_goals exact⟨ba,bc,_,rfl,rfl,jU,HP⟩
 case rest=>
  obtain⟨ba,bc,W',rfl,rfl,HT⟩:=hcut;obtain⟨j,ho,hT⟩:=HT.o;have al:=(hT.o.block g (af lg j.lt) (by rw[gV _ _ _ _ ak,ab];exact a0)).H ((j.heap lg).H a6);have am:=(hT.o.block V (af lq j.lt) (by rw[jc _ _ _ _ ai];omega)).H ((j.heap lq).H a7);obtain⟨⟨p0,p1,p2,_⟩,_,aY⟩:=xY am;have b0:=(ae.1 al).1;obtain⟨L',A,k1,l1,l2,k2,k3,k4,k5,k6⟩:=OE HQ (ag.H j) ho hT an a0 a9;obtain⟨aw,Hk,Hs⟩:=iI (λW' (M:Bl wc W')=>Uh (k2.bl M (fz:=A) ib) ⟨fr,ln,Z,ds⟩ ba bc aq ap ((jY M).jH (iE ho λ_ _=>jR) λ_ _ e=>e) k3 k4) (And.intro k1 (And.intro k5 (And.intro k6 (ag.H j).lt))) hT.o.size;clear HA c0 q0 q1 q2 q3 q4 q5 q6 q7 q8 a7 a6 k1 k2 k3 k4 k5 k6 al am j ho hT HT;go_upto_region 4 with fail;go_region_with(go_at_call 212;refine(aw _ ?hb).L ?_;(case hb=>exact jU);rintro en w5⟨rfl,a3,t5,q5,o5⟩;have HF:=nJ t5 q5 o5;clear t5 q5 o5);all_goals
   go_wp2;go_end0;obtain⟨k1,k5,k6,s0⟩:=Hk.o;have s1:=Hs.o;obtain⟨wx,hx,t5,o5⟩:∃wx,Bl wc wx/\(∀b,b<wx.heap.size->a3 b=A b)/\gI (λb=>A b=tn) wx w5:=⟨_,by first|exact jZ.drewN _|exact jZ.drew|exact jZ,HF.1,HF.2.2⟩;have sx:=hx.lt;refine⟨rfl,L',a3,λb hb=>by rw[t5 b C,k1 b hb],l1,l2,⟨p,(k5.bl (fz:=A) hx λ_ _=>rfl).only o5 (λb _ e=>jf e a0) λb h e=>(t5 b h).H e,jf au.o HF.2.1⟩,((k6.L λ_ _ e=>.inl e).H (gI.D hx)).andThen o5 λb hb e=>.inr ?_⟩;simp_all
def YM{s:St}(h:Nd w cP tg tn tb g a b c d L (.unit ch s) q)(A:10<=tg)(F:tn≠tg)(j:tb≠tg)(H:tb≠tn)(M:q.length<=1000)(v:Value)(fr:Int)(r:Rq)(Z:1000<=fr)(h1:fr<=1099)(hv:sJ w v (j5 r.kd [r.ln,r.nr,r.ep,r.pl,r.ct.kd,r.ct.cl,r.ct.ca] r.ct.val))(y:UU r (.unit ch s))(hl:L<=1000000000000){R:An×St}(V:R=uA a b c d ch s r.kd r.ep r.pl r.ct.kd r.ct.cl r.ct.ca r.ct.val):iU 161 #[.pointer (some ⟨g,0,none⟩),.int .i64 fr,v] w λen w'=>en=iF/\∃T fz,(∀b,b<w.heap.size->fz b=cP b)/\L<=T/\T<=L+300/\Nd w' fz tg tn tb g a b c d T (.unit ch R.2) (By q ⟨fr,r.ln,r.nr,j5 101 [r.nr,R.1.wh,R.1.ep,R.1.mark,R.1.ct.kd,R.1.ct.cl,R.1.ct.ca] R.1.ct.val⟩)/\gI (λb=>cP b=tg\/cP b=tn) w w':=by
 obtain⟨p,Y,gm,iC,ov,l,hq⟩:=h;have hs:∀i,i<16->(s.ct i).val.length<=255:=by obtain⟨_,_,_,_,h,_⟩:=Y;exact h
 exact Li (.inl ⟨rfl,rfl⟩) rfl hq A F j H M v fr _ _ _ _ _ _ _ _ _ _ Z h1 hv y.ln y.ok λW va vc bW hV hb=>IV (Y.bl bW λg hg=>gV _ _ _ _ hg) C _ _ _ _ _ _ _ _ y.kd.1 va vc _ hV hb y.kd.2 hl R V (by rw[V];exact WN hs _ _ _ _ _ _ _)
def XW{s:VS}(h:Nd w cP tg tn tb g a b c d L (.voter s) q)(A:10<=tg)(F:tn≠tg)(y:tb≠tg)(H:tb≠tn)(M:q.length<=1000)(v:Value)(fr:Int)(r:Rq)(Z:1000<=fr)(h1:fr<=1099)(hv:sJ w v (j5 r.kd [r.ln,r.nr,r.ep,r.pl,r.ct.kd,r.ct.cl,r.ct.ca] r.ct.val))(j:UU r (.voter s))(hl:L<=1000000000000){R:Vo×VS}(V:R=vA s r.kd r.ep r.pl r.ct.val):iU 161 #[.pointer (some ⟨g,0,none⟩),.int .i64 fr,v] w λen w'=>en=iF/\∃T fz,(∀b,b<w.heap.size->fz b=cP b)/\L<=T/\T<=L+300/\Nd w' fz tg tn tb g a b c d T (.voter R.2) (By q ⟨fr,r.ln,r.nr,j5 102 [r.nr,R.2.lt,R.1.wh,R.1.pr,R.1.ba] R.1.val⟩)/\gI (λb=>cP b=tg\/cP b=tn) w w':=by
 obtain⟨p,Y,gm,iC,ov,l,hq⟩:=h;have hs:VI s:=by obtain⟨_,_,_,_,_,_,_,_,h,_⟩:=Y;exact h
 exact Li (.inr ⟨rfl,rfl⟩) rfl hq A F y H M v fr _ _ _ _ _ _ _ _ _ _ Z h1 hv j.ln j.ok λW va vc bW hV hb=>E7 (Y.bl bW λg hg=>gV _ _ _ _ hg) C _ _ _ _ _ _ _ _ j.kd va vc _ (j.ok.wf _ bz) hl hV hb j.ok.v1 j.a R V (by rw[V];exact Wu hs _ _ _ _)
end
theorem Kj(base p bm n)(E)(img)(M)(vi)(t)(w)(h:Vs base w p bm n E img M vi t)(F:img.length<=1000000000000):iU 179 #[O p] w λe w'=>∃j,e=gU j/\Bl w w'/\w'.ownsRow w.heap.size 5 1 j img.length (img.map B8):=by
 have T:=h.lt;have H:=gN h;clear h;go_enter func179,ntmps179;go_wp2_with fail;refine(Cy base p 1 _ img _ T H.c1 H.ij F).L ?_;rintro e w'⟨j,rfl,y,A⟩;obtain⟨V,W⟩:=gO y A;clear y A;go_wp2;go_ret;exact⟨_,rfl,V,W⟩
def kC.im:kC->Nat
 | .unit ..=>169
 | .voter _=>179
section
variable{L:Nat}{q:List Qz}
theorem Jj(hN:Nd w cP tg tn tb g a b c d L P q)(Y:L<=1000000000000):iU 103 #[O g] w λy w'=>∃h j,y=gU (gK h L j)/\Bl w w':=by
 obtain⟨p,H,gm,iC,ov,l,T⟩:=hN;have c0:w.cell? (U g 0)=some (VJ P.ty p):=ax w g 0 _ 127 (0,0) T.hp;have lg:=T.lg;have Z:Hid (iU P.im #[O p] w λy w'=>∃h j,y=gU (gK h L j)/\Bl w w'):=by
  cases P with
  |unit ch s=>obtain⟨K,F,rfl,hk,_⟩:=H;refine(MS 0 p a b c d ch _ _ _ _ K w hk Y).L ?_;rintro y w'⟨v,rfl,A,V⟩;obtain⟨h,j,rfl⟩:=jk V;exact⟨h,j,rfl,A⟩
  |voter s=>obtain⟨n,bm,M,vi,F,_,rfl,hv,_⟩:=H;refine(Kj 0 p bm n s.E F M vi 253 w hv Y).L ?_;rintro y w'⟨v,rfl,A,V⟩;obtain⟨h,j,rfl⟩:=jk V;exact⟨h,j,rfl,A⟩
 clear T H;have hm:∀W,(method 512 P.ty (Value.agg #[Value.pointer (some {block:=p,off:=0})]) "Image").run prog W=.ok (P.im,Value.pointer (some {block:=p,off:=0})) W:=by cases P<;>exact λ_=>rfl
 cases P;all_goals
  go_enter func103,ntmps103;unfold kC.ty at c0;unfold kC.ty kC.im at hm;go_wp2_with fail;refine Z.L ?_;rintro y w'⟨h,j,rfl,A⟩;have HB:=gN A;clear Z A;go_wp2;go_ret;exact⟨h,j,rfl,HB⟩
theorem FB(h:Nd w cP tg tn tb g a b c d L P q)(M:L<=1000000000000):iU 70 #[O g] w λA w'=>∃j y,A=gU (gK j L y)/\Bl w w':=by
 have F:=gN (Jj h M);have V:=h.lt.1;clear h;go_enter func70,ntmps70;go_wp2_with fail;refine F.L ?_;rintro A w'⟨j,y,rfl,H⟩;have T:=gN H;clear F H;go_wp2;go_ret;exact⟨j,y,rfl,T⟩
theorem P9(hN:Nd w cP tg tn tb g a b c d L P q)(hq:q.length<=200)(A:tb≠tn)(h1:tn≠tg)(_h2:tb≠tg):iU 159 #[O g] w λT w'=>∃j y xs fz,T=gU (gK j (qB q).length y)/\(∀b,b<w.heap.size->fz b=cP b)/\xH w' (λb=>fz b=tb) (gK j (qB q).length y) (qB q) xs/\Nd w' fz tg tn tb g a b c d L P []/\gI (λb=>cP b=tn) w w':=by
 obtain⟨p,V,gm,iC,ov,l,F⟩:=hN;obtain⟨W,HP⟩:=gO (Rj F hq A) V;have lg:=F.lg;clear F V;go_enter func159,ntmps159;go_wp2_with fail;refine W.L ?_;rintro T w'⟨v,xs,fz,rfl,Y,M,Z,hO⟩;obtain⟨j,y,rfl⟩:=jk M.ij;have HF:=oH Y M Z hO;clear Y M Z hO W;go_wp2;go_ret;exact⟨j,y,xs,fz,rfl,HF.1,HF.2.1,⟨p,HP.only HF.2.2.2 (λb _ e=>jf e h1) λb h e=>(HF.1 b h).H e,HF.2.2.1⟩,HF.2.2.2⟩
theorem NZ(y:Nd w cP tg tn tb g a b c d L P q)(T:q.length<=200)(A:tb≠tn)(V:tn≠tg)(W:tb≠tg):iU 98 #[O g] w λF w'=>∃h j xs fz,F=gU (gK h (qB q).length j)/\(∀b,b<w.heap.size->fz b=cP b)/\xH w' (λb=>fz b=tb) (gK h (qB q).length j) (qB q) xs/\Nd w' fz tg tn tb g a b c d L P []/\gI (λb=>cP b=tn) w w':=by
 have H:=gN (P9 y T A V W);have Y:=y.lt.1;clear y;go_enter func98,ntmps98;go_wp2_with fail;refine H.L ?_;rintro F w'⟨h,j,xs,fz,rfl,M⟩;have HF:=gN M;clear M H;go_wp2;go_ret;exact⟨h,j,xs,fz,rfl,HF⟩
end
theorem Fh(w)(g)(fr)(v)(Q:World->Prop)(h:iU 161 #[O g,I fr,v] w λj w'=>j=iF/\Q w'):iU 101 #[O g,I fr,v] w λj w'=>j=iF/\Q w':=by
 have H:=gN h;clear h;go_enter func101,ntmps101;go_wp2_with fail;refine gS H λw' y=>?_;have A:=gN y;clear H y;go_wp2;go_end0;exact⟨rfl,A⟩
def VN(i:Nat)(h:i<72):zeroCells248[i]?=some (if i=71 then OO else if i<7 then I 0 else if(i-7)%4=3 then OO else I 0):=by have e:zeroCells248.toList=(List.range 72).map (λi=>if i=71 then gK none 0 0 else if i<7 then I 0 else if(i-7)%4=3 then OO else I 0):=iu;rw[<-gw,e,aK,cD h];rfl
def Ks.mM(a b c d ch:Int):∃K:Nat->Value,∀(base:Nat) (w:World) (p:Nat),w.heap[p]?=some (ig (((((zeroCells248.setIfInBounds 0 (I a)).setIfInBounds 1 (I b)).setIfInBounds 2 (I c)).setIfInBounds 3 (I d)).setIfInBounds 4 (I ch)) 248 (0,0))->Ks base w p a b c d ch 0 0 (λ_=>no) [] K:=by
 have T:∀i,5<=i->(((((zeroCells248.setIfInBounds 0 (I a)).setIfInBounds 1 (I b)).setIfInBounds 2 (I c)).setIfInBounds 3 (I d)).setIfInBounds 4 (I ch))[i]?=zeroCells248[i]?:=by intro i H;rw[cO C,cO C,cO C,cO C,cO C]
 have V:(((((zeroCells248.setIfInBounds 0 (I a)).setIfInBounds 1 (I b)).setIfInBounds 2 (I c)).setIfInBounds 3 (I d)).setIfInBounds 4 (I ch)).size=72:=by simp only[Array.size_setIfInBounds];rfl
 have W:(((((zeroCells248.setIfInBounds 0 (I a)).setIfInBounds 1 (I b)).setIfInBounds 2 (I c)).setIfInBounds 3 (I d)).setIfInBounds 4 (I ch))[0]?=some (I a):=rfl;have Y:(((((zeroCells248.setIfInBounds 0 (I a)).setIfInBounds 1 (I b)).setIfInBounds 2 (I c)).setIfInBounds 3 (I d)).setIfInBounds 4 (I ch))[1]?=some (I b):=rfl;have Z:(((((zeroCells248.setIfInBounds 0 (I a)).setIfInBounds 1 (I b)).setIfInBounds 2 (I c)).setIfInBounds 3 (I d)).setIfInBounds 4 (I ch))[2]?=some (I c):=rfl;have e3:(((((zeroCells248.setIfInBounds 0 (I a)).setIfInBounds 1 (I b)).setIfInBounds 2 (I c)).setIfInBounds 3 (I d)).setIfInBounds 4 (I ch))[3]?=some (I d):=rfl;have e4:(((((zeroCells248.setIfInBounds 0 (I a)).setIfInBounds 1 (I b)).setIfInBounds 2 (I c)).setIfInBounds 3 (I d)).setIfInBounds 4 (I ch))[4]?=some (I ch):=rfl;generalize (((((zeroCells248.setIfInBounds 0 (I a)).setIfInBounds 1 (I b)).setIfInBounds 2 (I c)).setIfInBounds 3 (I d)).setIfInBounds 4 (I ch))=j at*;refine⟨λi=>(j[i]?).getD undef,λbase w p h=>?_⟩;have y:∀i,5<=i->i<72->(j[i]?).getD undef=(if i=71 then OO else if i<7 then I 0 else if(i-7)%4=3 then OO else I 0):=by intro i H A;rw[T i H,VN i A];rfl
 have F:(j[71]?).getD undef= OO:=by rw[y 71 bT bT];rfl
 have L:∀i,i<16->(j[10+4*i]?).getD undef= OO:=by intro i A;rw[y _ C C,az C,az C,aE C]
 refine⟨⟨_,248,h,.inl rfl,λi A=>?_⟩,by simp only[W];rfl,by simp only[Y];rfl,by simp only[Z];rfl,by simp only[e3];rfl,by simp only[e4];rfl,?_,?_,?_,λi A=>?_,λi A=>?_,λi A=>?_,λi A=>?_,λi A g M=>?_⟩
 .simp only[dW (show i<j.size by omega),eN]
 .rw[y 5 bT bT];rfl
 .rw[y 6 bT bT];rfl
 .simp only[F];exact m7
 iterate 3
  .rw[y _ C C,az C,az C,az C];rfl
 .simp only[L i A];exact m7
 simp only[L i A]at M;simp[Value.ownBlock]at M
section
variable{u:Int}
theorem WC(w:World)(s:Value):iU 233 #[OO,s] w λe w'=>e=gU (.tuple #[OO,.bool true])/\Bl w w':=by have h:=gN ((Bl.refl w).alloc (ig #[OO] 40));go_enter func233,ntmps233;go_wp2;refine Z6 1 ?_;rw[ZZ];go_wp2;go_ret2;exact⟨rfl,h⟩
theorem GQ(w:World)(p o:Nat)(s f:Value):iU 183 #[.pointer (some (U p o)),OO,s,f] w λe w'=>e=gU (.bool true)/\Bl w w':=by go_enter func183,ntmps183;go_wp2_with fail;refine jA (WC w s) λj h=>?_;go_wp2;refine Z6 1 ?_;rw[ZZ];go_wp2;go_ret;exact⟨rfl,h⟩
theorem SU(w:World):iU 184 #[] w λe w'=>∃s,e=gU s/\Bl w w':=by go_enter func184,ntmps184;go_wp2;go_ret;exact⟨_,rfl,jZ.alloc _⟩
theorem Pn(w:World):iU 186 #[] w λe w'=>∃s,e=gU s/\Bl w w':=by go_enter func186,ntmps186;go_wp2;go_ret;exact⟨_,rfl,jZ.alloc _⟩
theorem R9(A:GF a b c d u=(ch,0))(cP:Nat->Nat)(tg:Nat):iU 146 #[.agg #[I a,I b,I c,I d],I u,OO] w λe w'=>∃p,e=gU (.tuple #[O p,I 0])/\Bl w w'/\ml w' (ir cP w.heap.size tg) tg p a b c d 0 (.unit ch St.first):=by
 have bA:=gN ((Bl.refl w).alloc (ig #[I a,I b,I c,I d] 27));have Y:Hid (∀W,iU 90 #[.agg #[I a,I b,I c,I d],I u] W λe w'=>e=gU (.tuple #[I ch,I 0])/\Bl W w'):=λW=>by have:=uK a b c d u W;rwa[A]at this
 clear A;go_enter func146,ntmps146;go_wp2_with fail;refine gS (Y _) λw1 j=>?_;have hN:=(j.heap bz).H (ao w (ig #[I a,I b,I c,I d] 27));obtain⟨g0,g1,g2,g3,l1⟩:=sj hN;have F:=gN (bA.H j);clear j hN;obtain⟨K0,h⟩:=Ks.mM a b c d ch;obtain⟨h,HI⟩:=gO h λW s f=>GQ W w1.heap.size 71 s f;go_upto_region 5 with fail;obtain⟨W,V⟩:=gG (w1.alloc (ig (((((zeroCells248.setIfInBounds 0 (I a)).setIfInBounds 1 (I b)).setIfInBounds 2 (I c)).setIfInBounds 3 (I d)).setIfInBounds 4 (I ch)) 248));have HF:Hid (W.heap[w1.heap.size]?=some (ig (((((zeroCells248.setIfInBounds 0 (I a)).setIfInBounds 1 (I b)).setIfInBounds 2 (I c)).setIfInBounds 3 (I d)).setIfInBounds 4 (I ch)) 248 (0,0))):=by rw[<-V];exact ao w1 _
 have HB:Hid (Bl w W):=by rw[<-V];exact F.alloc _
 rw[V];clear V g0 g1 g2 g3;go_region_with(first
  |(go_at_call 184;refine(SU _).L ?_;rintro e w3⟨s,rfl,M⟩;have Z:Hid (Bl W w3):=Bl.H (by first|exact jZ|exact jZ.drewN _) M;clear M)
  |(go_at_call 183;refine gS (HI _ _ _) λw4 T=>?_;have y:Hid (Bl W w4):=Z.H T;clear T))
 all_goals
  go_wp2;go_ret2;have hl:w1.heap.size<W.heap.size:=(ae.1 HF).1;have hk:=h 0 w4 w1.heap.size ((y.heap hl).H HF);have a0:=h w.heap.size w4 w1.heap.size ((y.heap hl).H HF);exact⟨_,rfl,HB.H y,K0,[],rfl,hk,λi _=>jR,jc _ _ _ _ F.lt,λg hF=>jc _ _ _ _ (a0.PM hF).1⟩
theorem Rh(cP:Nat->Nat)(tg:Nat):iU 147 #[OO] w λe w'=>∃p,e=gU (.tuple #[O p,I 0])/\Bl w w'/\ml w' (ir cP w.heap.size tg) tg p a b c d 0 (.voter VS.first):=by
 have T:(Instr.makeMap 251 none).run prog w=.ok (.map (some w.heap.size)) (w.alloc (.map #[] 0)):=ko;have HI:=gN λW s f=>GQ W (w.heap.size+1) 1 s f;go_enter func147,ntmps147;go_upto_region 2 with fail;have M:=ao (w.alloc (.map #[] 0)) (ig #[.map (some w.heap.size),OO] 253);have V:Mp ((w.alloc (.map #[] 0)).alloc (ig #[.map (some w.heap.size),OO] 253)) w.heap.size 0 (λ_=>V6):=(Mp.Eu w).bl (jZ.alloc _);have Y:=((Bl.refl w).alloc (.map #[] 0)).alloc (ig #[.map (some w.heap.size),OO] 253);have y:(w.alloc (.map #[] 0)).heap.size=w.heap.size+1:=bz;rw[y]at M;obtain⟨W,hW⟩:=gG ((w.alloc (.map #[] 0)).alloc (ig #[.map (some w.heap.size),OO] 253));rw[hW]at M V Y|-;obtain⟨HP,HM,HB⟩:=iI M V Y;clear hW M V Y T y;go_region_with(first
  |(go_at_call 186;refine(Pn _).L ?_;rintro e w3⟨s,rfl,A⟩;have Z:Hid (Bl W w3):=Bl.H (by first|exact jZ|exact jZ.drewN _) A;clear A)
  |(go_at_call 183;refine gS (HI _ _ _) λw4 F=>?_;have j:Hid (Bl W w4):=Z.H F;clear F))
 all_goals
  go_wp2;go_ret2;have hl:w.heap.size+1<W.heap.size:=(ae.1 HP).1;refine⟨_,rfl,HB.H j,0,w.heap.size,λ_=>V6,OO,[],jr,rfl,⟨(j.heap hl).H HP,.inl rfl,HM.bl j,λe=>⟨OO,rfl,m7,λg e=>pV e⟩,m7⟩,⟨λe=>⟨⟨jR,λd h=>by simp[VS.first,Y5]at h⟩,iG⟩,iG,λe h=>absurd rfl h,.inl rfl⟩,jc _ _ _ _ C,jc _ _ _ _ jr,λg hF=>?_⟩;obtain h|⟨e,h⟩:=hF<;>simp[V6,ZN,Value.ownBlock]at h
def kC.of(a b c d u:Int):kC->Prop
 | .unit ch _=>u<100/\GF a b c d u=(ch,0)
 | .voter _=>100<=u/\u<100+c
def kC.new:kC->Prop
 | .unit _ s=>s=St.first
 | .voter s=>s=VS.first
def kC.Zw:kC->Bool
 | .unit .. =>false
 | .voter .. =>true
def ml.two{N M L:Nat}(h:ml w (ir (ir cP N tg) M tg) tg p a b c d L P)(j:N<=M):ml w (ir cP N tg) tg p a b c d L P:=
 h.only (gI.refl (λ_=>False) _) (λ_ _ e=>e.elim) λg _ e=>by
  unfold ir at e|-;by_cases h:g<N
  .rwa[aE C]at e
  rw[az h]
theorem Dy(w):iU 85 #[] w λH w'=>∃gm,H=gU (.agg #[.map (some gm),OO])/\w.heap.size<=gm/\w'.heap[gm]?=some (.map #[] 0)/\Bl w w':=by
 have L:∀W:World,(Instr.makeMap 120 none).run prog W=.ok (.map (some W.heap.size)) (W.alloc (.map #[] 0)):=λW=>iu;have h:=ao w (ig #[.map none,OO] 123);obtain⟨W,j⟩:=gG (w.alloc (ig #[.map none,OO] 123));have F:Bl w W:=by rw[<-j];exact jZ.alloc _
 rw[j]at h;have lW:=(ae.1 h).1;obtain⟨M,T,ln⟩:=PZ h;obtain⟨f0,f1⟩:=Y1 h 0 1;have V:Hid (W.heap.size=w.heap.size+1):=by unfold Hid;rw[<-j];simp
 obtain⟨Y,HB⟩:=gO j F;clear j F h;go_enter func85,ntmps85;go_upto_region 1 with fail;rw[Y.o];go_wp2;have Z:=((gI.refl (λb=>b=w.heap.size) W).setCell (U w.heap.size 0) (.inl rfl) (.map (some W.heap.size))).setCell (U w.heap.size 1) (.inl rfl) OO;have A:((W.setCell (U w.heap.size 0) (.map (some W.heap.size))).setCell (U w.heap.size 1) OO).heap.size=W.heap.size:=by simp[World.setCell]
 have y:=ao ((W.setCell (U w.heap.size 0) (.map (some W.heap.size))).setCell (U w.heap.size 1) OO) (.map #[] 0);rw[A]at y;exact aG (v:= .agg #[.map (some W.heap.size),OO]) (by simp[results,results85,go_sem,M,T,ln]) rfl ⟨_,rfl,gM V.o,y,(HB.A Z λn e=>C).alloc _⟩
theorem Ia(h:P.of a b c d u)(y:c<=9)(w:World):iU 83 #[.agg #[I a,I b,I c,I d],I u] w λe w'=>e=gU (.bool P.Zw)/\Bl w w':=by
 have j:=(Bl.refl w).alloc (ig #[I a,I b,I c,I d] 27)
 cases P with
 |unit ch s=>have A:=h.1;clear h;go_enter func83,ntmps83;go_wp2;go_ret;exact⟨rfl,j⟩
 |voter s=>obtain⟨A,H⟩:=h;have F:IntKind.i64.wrap (100+c)=100+c:=zI;go_enter func83,ntmps83;go_wp2;go_ret;exact⟨rfl,j⟩
theorem Nr(F:P.of a b c d u)(T:P.new)(cP:Nat->Nat)(tg:Nat)(w:World):iU (if P.Zw then 84 else 82) #[.agg #[I a,I b,I c,I d],I u,OO] w λe w'=>∃p,e=gU (.tuple #[VJ P.ty p,I 0])/\Bl w w'/\ml w' (ir cP w.heap.size tg) tg p a b c d 0 P:=by
 have H:=(Bl.refl w).alloc (ig #[I a,I b,I c,I d] 27);have V:=gN H;have h:w.heap.size<=(w.alloc (ig #[I a,I b,I c,I d] 27)).heap.size:=H.lt;have W:=gN h;clear H h
 cases P with
 |unit ch s=>obtain rfl:s=St.first:=T;have j:=gN (R9 (w:=w.alloc (ig #[I a,I b,I c,I d] 27)) F.2 (ir cP w.heap.size tg) tg);clear F;show iU 82 _ _ _;go_enter func82,ntmps82;go_wp2_with fail;refine j.L ?_;rintro e w1⟨p,rfl,y,A⟩;obtain⟨L,M⟩:=gO (V.H y) A;clear j y A;go_wp2;go_ret2;exact⟨p,rfl,L,ml.two M W⟩
 |voter s=>obtain rfl:s=VS.first:=T;have j:=gN (Rh (w:=w.alloc (ig #[I a,I b,I c,I d] 27)) (a:=a) (b:=b) (c:=c) (d:=d) (ir cP w.heap.size tg) tg);clear F;show iU 84 _ _ _;go_enter func84,ntmps84;go_wp2_with fail;refine j.L ?_;rintro e w1⟨p,rfl,y,A⟩;obtain⟨L,M⟩:=gO (V.H y) A;clear j y A;go_wp2;go_ret2;exact⟨p,rfl,L,ml.two M W⟩
theorem WM(hN:P.of a b c d u)(h0:P.new)(hf:oE a b c d=true)(cP:Nat->Nat)(tg:Nat)(w:World):iU 44 #[.agg #[I a,I b,I c,I d],I u,OO] w λe w'=>∃p g gm,e=gU (.tuple #[O g,I 0])/\w'.heap[g]?=some (ig #[VJ P.ty p,.map (some gm),OO] 125 (0,0))/\w'.heap[gm]?=some (.map #[] 0)/\Bl w w'/\∃F,Bl w F/\Bl F w'/\F.heap.size<=gm/\ml F (ir cP w.heap.size tg) tg p a b c d 0 P:=by
 have HV:=gN (nU a b c d);rw[hf]at HV;have HN:=gN (ao w (ig #[I a,I b,I c,I d] 27));have HI:=gN (Ia hN (by simp[oE]at hf;omega));obtain⟨HA,HO⟩:=gO ((Bl.refl w).alloc (ig #[I a,I b,I c,I d] 27)) (Nr hN h0 (ir cP w.heap.size tg) tg);generalize P.Zw=iV at HI HO;generalize P.ty=t at HO|-;clear hN h0 hf;go_enter func44,ntmps44;go_wp2_with fail;refine gS (HV _) λw1 L=>?_;obtain⟨c0,c1,c2,c3,l1⟩:=sj ((L.heap bz).H HN);have M:=gN (HA.H L);clear L HN HA HV;go_wp2_with fail;refine gS (HI w1) λw2 y=>?_;obtain⟨d0,d1,d2,d3⟩:=y.N l1 c0 c1 c2 c3;have l2:=af l1 y.lt;obtain⟨T,V⟩:=gO (M.H y) (HO w2);clear y c0 c1 c2 c3 M HI HO
 cases iV;all_goals
  go_wp2_with fail;refine V.L ?_;rintro e F⟨p,rfl,W,Y⟩;obtain⟨HQ,Z,a0⟩:=iI (Dy F) (T.H W) (ml.two Y T.lt);clear V W Y d0 d1 d2 d3;go_wp2_with(go_at_call 85;refine HQ.L ?_;rintro en w4⟨gm,rfl,A,h,j⟩;have H4:=nJ A h j;clear A h j);go_ret2;obtain⟨A,h,j⟩:=H4.o;have bX:=(Bl.refl w4).alloc (ig #[.iface t (.agg #[O p]),.map (some gm),OO] 125);exact⟨_,_,gm,rfl,ao w4 _,(bX.heap (ae.1 h).1).H h,(Z.H j).H bX,F,Z,j.H bX,A,a0⟩
theorem N7(Y:P.of a b c d u)(Z:P.new)(hf:oE a b c d=true)(cP:Nat->Nat)(tg tn tb:Nat):iU 17 #[.agg #[I a,I b,I c,I d],I u,OO] w λe w'=>∃g fz,e=gU (.tuple #[O g,I 0])/\(∀b,b<w.heap.size->fz b=cP b)/\Nd w' fz tg tn tb g a b c d 0 P []/\Bl w w':=by
 have hA:=(Bl.refl w).alloc (ig #[I a,I b,I c,I d] 27);obtain⟨HO,T⟩:=gO (WM Y Z hf (ir cP w.heap.size tg) tg (w.alloc (ig #[I a,I b,I c,I d] 27))) hA;clear hA Y Z;go_enter func17,ntmps17;go_wp2_with fail;refine HO.L ?_;rintro e L⟨p,g,gm,rfl,hg,j,y,w3,A,h,V,F⟩;obtain⟨c0,c1,c2,lg⟩:=G8 hg;have HF:=SJ j y A h V F;clear HO hg j y A h V F;go_wp2;go_ret2;obtain⟨j,y,A,h,V,F⟩:=HF.o;have F:=F.two T.lt;have s1:=T.lt;have s3:=A.lt;have s5:=h.lt;have W:=(Bl.refl L).alloc (ig #[VJ P.ty p,.map (some gm),OO] 127);have lg:=(ae.1 j).1;refine⟨_,λb=>if b=L.heap.size\/b=gm then tn else ir cP w.heap.size tg b,rfl,λb M=>by show(if b=L.heap.size\/b=gm then tn else ir cP w.heap.size tg b)=cP b;rw[az C,gV _ _ _ _ M],⟨p,F.only (jY (h.H W)) (λ_ _ e=>e.elim) λb M e=>?_,gm,0,OO,[],ao L _,bz,(W.heap lg).H j,bz,m7,λb M=>pV M,rfl,λi e z he=>mR he,List.Pairwise.nil,List.Pairwise.nil⟩,(T.H y).H W⟩;show(if b=L.heap.size\/b=gm then tn else ir cP w.heap.size tg b)=tg;rw[az C];exact e
end
structure Qn(α:Type) where
 A:Rq
 nodes:List Int
 mi:Bool
 D:List (Int×α)
def Rq.zero:Rq:=⟨0,0,0,0,0,no⟩
def Qn.zero{α:Type}:Qn α:=⟨Rq.zero,[],false,[]⟩
def Qn.new{α:Type}(nodes:List Int)(r:Rq):Qn α:=⟨r,nodes,true,[]⟩
def Qn.N{α:Type}(q:Qn α):Bool:= !q.nodes.isEmpty
def Qn.T{α:Type}(q:Qn α)(fr:Int):Bool:=q.D.any λz=>z.1==fr
def Qn.M{α:Type}(q:Qn α)(nr fr:Int):Bool:=(q.A.nr==nr)&&q.nodes.contains fr&& !q.T fr
def Qn.add{α:Type}(q:Qn α)(fr:Int)(a:α):Qn α:={q with D:=q.D++[(fr,a)]}
def Qn.count{α:Type}(q:Qn α)(such:α->Bool):Nat:=(q.D.filter λz=>such z.2).length
def Qn.iH{α:Type}(q:Qn α):List (Int×Rq):=if q.mi then(q.nodes.filter λnd=> !q.T nd).map λnd=>(nd,q.A)else []
def Qn.jE{α:Type}(q:Qn α):Qn α:={q with mi:=false}
structure Rz where
 wh:Int
 ad:Int
 val:List Int
def Rz.zero:Rz:=⟨0,0,[]⟩
structure jn where
 kind:Int
 gL:Nat
 a:Nat
 iA:Int
 unit:Int
 ij:Ct
 d:Ct
 b:Nat
 e:Rz
 q:Qn An
structure Mv where
 b:Int
 c:Bool
 D:List (Int×Vo)
 M:Int
 value:List Int
 a:Qn An
 A:Qn Vo
def Mv.zero:Mv:=⟨0,false,[],0,[],Qn.zero,Qn.zero⟩
structure Cx where
 n:Nat
 m:Nat
 vo:Nat
 ce:Nat
 id:Int
 b:Int
 lay:List (List Int)
 e:List Rz
 a:List jn
 gJ:Int
 c:Qn An
 A:Int
 M:Int
 mv:Mv
 wb:Bool
 wl:Bool
def iR(n m:Nat):List (List Int):=(List.range n).map λk=>(List.range m).map λi=>((k*m+i:Nat):Int)
def kB(lay:List (List Int)):List Int:=lay.flatten
def jd:List Int->List Int->List Int×List Int
 |[],d=>([],d)
 |u::us,d=>match d with
  |[]=>jd us []
  |x::d'=>if x=u then(u::(jd us d').1,(jd us d').2)else jd us (x::d')
def within:List (List Int)->List Int->Option (List (List Int))
 |[],d=>if d=[]then some []else none
 |ch::rest,d=>if(jd ch d).1=[]then none else(within rest (jd ch d).2).map ((jd ch d).1::·)
def tK(lay:List (List Int))(out:Int):Bool:=(lay.any λch=>ch.contains out)&& !(lay.any λch=>ch.contains out&&ch.length==1)
def lY(lay:List (List Int))(out:Int):List (List Int):=lay.map λch=>ch.filter λu=>out==-1||u !=out
def oJ(lay:List (List Int))(ld:List Int):Bool:=lay.all λch=>ch.any λu=>ld.contains u
def qj(lay:List (List Int))(out:Int)(ld:List Int):Option (List (List Int)):=
 if(out==-1||tK lay out)&&oJ (lY lay out) ld then some (lY lay out)else none
def xx:List Int->List Int->Bool
 |_,[]=>false
 |[],_::_=>true
 |x::xs,y::ys=>if x<y then true else if y<x then false else xx xs ys
def pR(b:Int×List Int)(v:Vo):Int×List Int:=if b.1<v.ba||(v.ba==b.1&&xx b.2 v.val)then(v.ba,v.val)else b
def jC(l:List (Int×Vo)):Int×List Int:=l.foldl (λb z=>pR b z.2) (0,[])
def j7(l:List (Int×Vo)):Int:=l.foldl (λb z=>max b z.2.pr) 0
def qE(l:List (Int×Vo))(mf:Nat):Int×List Int:=jC (l.filter λz=>decide (mf<=(l.filter λy=>y.2.ba==z.2.ba).length))
def kQ(l:List (Int×Vo)):List (Int×Vo):=l.filter λz=>z.2.wh==1
def vw(b:Int)(l:List (Int×Vo)):List (Int×Vo):=l.filter λz=>decide (z.2.ba<=b)
namespace Cx
def put(X:Cx)(c:jn):Cx:={X with a:=X.a.map λd=>if d.gL=c.gL then c else d}
def mK(X:Cx)(c:jn)(nodes:List Int)(kd pl:Int)(t:Ct):Cx:=
 ({X with gJ:=X.gJ+1}).put {c with q:=Qn.new nodes ⟨kd,c.a,X.gJ+1,X.b,pl,t⟩}
def chain(X:Cx)(a:Int):List Int:=X.lay.getD (a%X.n).toNat []
def qI(X:Cx)(c:jn):Cx:=X.mK c (X.chain c.iA) 3 c.iA no
def lK(X:Cx)(c:jn):Cx:=X.mK c [(X.chain c.iA).getD c.b 0] 2 c.iA c.d
def fin(X:Cx)(c:jn)(r:Rz):Cx:={X with e:=X.e.set c.gL r,a:=X.a.filter λd=>d.gL !=c.gL}
def vh(t:Ct):Rz:=⟨t.kd,0,t.val⟩
def jH(c:jn)(t:Ct):Bool:=t.cl==c.ij.cl&&t.ca==c.ij.ca
def lD(c:jn):Bool:=c.kind==1&& !c.q.N
def dO(X:Cx)(c:jn):Cx:=
 if c.kind=1 then X.lK {c with d:=c.ij,b:=0}else if c.kind=2 then X.qI c else X
def kg(X:Cx)(c:jn):Cx:=
 if c.b+1<(X.chain c.iA).length then X.lK {c with b:=c.b+1}else X.fin c ⟨1,c.iA,[]⟩
def pO(X:Cx)(c:jn)(t:Ct):Cx:=
 if jH c t=false then X.put {c with q:=Qn.zero}else X.kg {c with d:=t}
def oy(X:Cx)(c:jn)(A:An):Cx:=
 if A.wh=1 then X.kg c else if A.wh=2 then X.pO c A.ct else X.put c
def nV(X:Cx)(c:jn):Cx:=
 if c.q.D.length<c.q.nodes.length then X.put c
 else if c.q.count (λa=>a.wh==2)=c.q.nodes.length then X.fin c (vh (((c.q.D.find? λz=>z.1==c.q.nodes.headD 0).map λz=>z.2.ct).getD no))
 else X.fin c ⟨3,0,[]⟩
def oe(X:Cx)(c:jn)(A:An):Cx:=
 if c.q.A.kd=3 then X.nV c else if c.q.A.kd=2 then X.oy c A else X.put c
def gT(X:Cx):List Int:=(X.a.filter λc=>c.kind==5).map λc=>c.unit
def iJ(X:Cx):Bool:= !X.gT.isEmpty
def mf(X:Cx):Nat:=X.vo/2+1
def kE(X:Cx):List Int:=(List.range X.vo).map λ(i:Nat)=>100+(i:Int)
def kh(X:Cx)(kd pl:Int)(val:List Int):Cx:=
 {X with gJ:=X.gJ+1,mv:={X.mv with A:=Qn.new X.kE ⟨kd,9,X.gJ+1,X.mv.b,pl,⟨0,0,0,val⟩⟩}}
def iB(X:Cx):Cx:=
 ({X with mv:={Mv.zero with b:=max (X.b+1) (X.A-1),c:=decide (max (X.b+1) (X.A-1)<X.A)}}).kh 7 0 []
def jX(X:Cx):Cx:=
 {X with gJ:=X.gJ+1,c:=Qn.new (kB X.lay) ⟨1,8,X.gJ+1,X.b,0,no⟩}
def gR(X:Cx)(e:Int):Cx:=
 if e<=X.b\/e<=X.A then X
 else if X.mv.b<e then({X with A:=e}).iB else{X with A:=e}
def oF(X:Cx):Cx:=
 {X with gJ:=X.gJ+1,mv:={X.mv with a:=Qn.new (kB X.lay) ⟨1,9,X.gJ+1,X.mv.b,0,no⟩}}
def jh(X:Cx):List Int:=X.mv.a.D.map λz=>z.1
def sG(X:Cx)(v:List Int):Bool:=match within X.lay v with
 |none=>false
 |some l=>oJ l X.jh
def lG(X:Cx)(l:List (Int×Vo)):List (Int×Vo):=l.filter λz=> !(decide (0<z.2.ba)&& !X.sG z.2.val)
def next(X:Cx):Option (List (List Int)):=
 (if X.gT.isEmpty then [-1]else X.gT).findSome? λout=>qj X.lay out X.jh
def jN(X:Cx):Option (List Int):=
 if 0<(jC (X.lG X.mv.D)).1 then some (jC (X.lG X.mv.D)).2 else X.next.map kB
def jv(X:Cx)(p:Int):Int:=(max p X.M/100+1)*100+X.id-1000
def jS(X:Cx):Cx:=match X.jN with
 |none=>X
 |some _=>({X with M:=X.jv (j7 X.mv.D),mv:={X.mv with M:=X.jv (j7 X.mv.D)}}).kh 5 (X.jv (j7 X.mv.D)) []
def jM(X:Cx):Cx:=
 if !X.iJ&& !X.wl then{X with wb:=true}
 else
  let Y:={X with wb:=true,mv:={X.mv with D:=X.mv.A.D}}
  (if Y.mv.a.N then Y else Y.oF).jS
def ku(X:Cx)(c:jn):Cx:=
 if(X.lay.getD (c.unit/X.m).toNat []).contains c.unit then(if(X.lay.getD (c.unit/X.m).toNat []).length=1 then X.fin c ⟨6,0,[]⟩else X)else X.fin c ⟨1,0,[]⟩
def kA(X:Cx)(c:jn):Cx:=if c.kind=5 then X.ku c else if lD c then X else X.dO c
def kX(X:Cx)(v:List Int):Cx:=match within X.lay v with
 |none=>{X with mv:=Mv.zero}
 |some l=>
  let Y:={X with b:=X.mv.b,lay:=l,mv:=Mv.zero,wb:=false,wl:=false}
  let Z:=Y.a.foldl kA Y
  if Z.iJ||decide (Z.b<Z.A)then Z.iB else Z
def jB(X:Cx):Cx:=
 let a:=kQ X.mv.A.D
 let v:=jC (X.lG a)
 if(vw v.1 a).length<X.mf then X
 else
  let val:=if v.1=0 then X.jN.getD []else v.2
  ({X with mv:={X.mv with value:=val}}).kh 6 X.mv.M val
def kx(X:Cx):Cx:=if X.mf<=(kQ X.mv.A.D).length then X.kX X.mv.value else X
def kr(X:Cx):Cx:=
 let b:=qE X.mv.A.D X.mf
 if 0<b.1 then X.kX b.2
 else if X.mv.A.D.length<X.mf then X
 else if X.mv.c then X.kX (jC X.mv.A.D).2
 else X.jM
def ld(X:Cx):Cx:=
 if X.mv.A.A.kd=7 then X.jS else if X.mv.A.A.kd=5 then X.jB else X
def kK(X:Cx)(fr nr lt:Int)(v:Vo):Cx:=
 if X.mv.A.M nr fr then
  let Y:=X.gR lt
  if Y.mv.A.M nr fr then
   let Z:={Y with mv:={Y.mv with A:=Y.mv.A.add fr v,D:=if Y.mv.A.A.kd=7/\Y.mv.D≠[]then Y.mv.A.D++[(fr,v)]else Y.mv.D}}
   if Z.mv.A.A.kd=7 then Z.kr else if Z.mv.A.A.kd=5 then Z.jB else if Z.mv.A.A.kd=6 then Z.kx else Z
  else Y
 else X
def jJ(X:Cx)(fr nr:Int)(A:An):Cx:=
 if X.c.M nr fr then(if A.wh=5 then X.gR A.ep else{X with c:=X.c.add fr A})
 else if X.mv.a.M nr fr then(if A.wh=5 then X.gR A.ep else({X with mv:={X.mv with a:=X.mv.a.add fr A}}).ld)
 else match X.a.find? λc=>c.q.M nr fr with
  |none=>X
  |some c=>if A.wh=5 then X.gR A.ep else(X.put {c with q:=c.q.add fr A}).oe {c with q:=c.q.add fr A} A
def iX(X:Cx):List Nat:=(X.a.filter lD).map λc=>c.gL
def kG(X:Cx):Cx:=
 let Y:={X with wl:=X.wb,A:=0,mv:=Mv.zero,a:=X.a.map λ(c:jn)=>{c with q:={c.q with mi:=true}}}
 let Z:=if Y.iX.length<Y.a.length then Y.jX else Y
 if Z.iJ then Z.iB else Z
def iH(X:Cx):List (Int×Rq):=(X.a.flatMap λc=>c.q.iH)++X.c.iH++X.mv.a.iH++X.mv.A.iH
def jE(X:Cx):Cx:={X with a:=X.a.map λ(c:jn)=>{c with q:=c.q.jE},c:=X.c.jE,mv:={X.mv with a:=X.mv.a.jE,A:=X.mv.A.jE}}
def nz(X:Cx):Nat:=((List.range 8).find? λl=> !(X.a.any λc=>c.a==l)).getD 0
def jW(X:Cx)(kind:Int):jn:=⟨kind,X.e.length,X.nz,0,0,⟨0,X.id,X.e.length,[]⟩,no,0,Rz.zero,Qn.zero⟩
def jb(X:Cx)(c:jn):Cx:={X with e:=X.e++[Rz.zero],a:=X.a++[c]}
def append(X:Cx)(val:List Int):Cx:=let c:=X.jW 1;X.jb {c with ij:={c.ij with kd:=8,val:=val}}
def EG(X:Cx)(a:Int):Cx:=let c:={X.jW 2 with iA:=a};(X.jb c).dO c
def change(X:Cx)(u:Int):Cx:=
 let c:={X.jW 5 with unit:=u}
 let Y:=(X.jb c).ku c
 if !X.iJ&&Y.iJ then Y.iB else Y
def oO(X:Cx)(a:Int):Bool:=decide (0<=a)&&decide (a<X.n*X.ce)
def jK(X:Cx)(k:Nat)(t:Int):Cx:=match X.a.find? λc=>c.gL==k with
 |none=>X
 |some c=>if X.oO t then let c':={c with iA:=t};(X.put c').dO c' else X.fin c ⟨7,0,[]⟩
def new(n m vo ce:Nat)(id:Int):Cx:=⟨n,m,vo,ce,id,0,iR n m,[],[],0,Qn.zero,0,0,Mv.zero,false,false⟩
end Cx
abbrev Sx(p0:Rz)(p1)(p2):=#[I p0.wh,I p0.ad,gK p1 p0.val.length p2]
def Rd(w:World)(cP:Nat->Nat)(t:Nat)(e:TypeId)(v:Value)(cs:List Value):Prop:=
 (v= OO/\cs=[])\/∃b o c arr f,v=.slice (some (U b o)) cs.length c/\cP b=t/\w.heap[b]?=some (.cells arr e f)/\cs.length<=c/\c<=maxLen/\∀j x,cs[j]?=some x->arr[o+j]?=some x
def Rd.nil:Rd w cP t e OO []:= .inl ⟨rfl,rfl⟩
def Rd.D(h:Rd w cP t e v cs):∃a c,v=gK a cs.length c:=by obtain⟨rfl,rfl⟩|⟨b,o,c,j,f,rfl,_⟩:=h<;>exact⟨_,_,rfl⟩
def Rd.only(h:Rd w cP t e v cs){T:Nat->Prop}(L:gI T w w')(M:∀b,b<w.heap.size->T b->cP b≠t)(V:∀b,b<w.heap.size->cP b=t->fz b=t):Rd w' fz t e v cs:=by
 obtain h|⟨b,o,c,j,f,W,A,F,Y⟩:=h
 .exact .inl h
 have y:=(ae.1 F).1;exact .inr ⟨b,o,c,j,f,W,V b y A,(L.block b y λe=>M b y e A).H F,Y⟩
def Rd.bl(h:Rd w cP t e v cs)(j:Bl w w')(y:∀b,b<w.heap.size->cP b=t->fz b=t):Rd w' fz t e v cs:=h.only (jY j) (λ_ _ e=>e.elim) y
def Rd.cell(h:Rd w cP t e v cs)(V:0<cs.length):∃b o c,v=gK (some (U b o)) cs.length c/\b<w.heap.size/\cs.length<=c/\c<=maxLen/\∀j x,cs[j]?=some x->w.cell? (U b (o+j))=some x:=by
 obtain⟨_,rfl⟩|⟨b,o,c,y,f,F,W,A,H,L,M⟩:=h
 .simp_all
 exact⟨b,o,c,F,(ae.1 A).1,H,L,λj x T=>by rw[ax w b _ y e f A];exact M j x T⟩
def Rd.bs(h:Rd w cP t e v cs):Bs w v cs:=by
 obtain h|⟨b,o,c,y,f,A,M,F,T,V,H⟩:=h
 .exact .inl h
 exact .inr ⟨(U b o),c,A,λj x L=>by rw[nW,ax w b _ y e f F];exact H j x L⟩
def Rd.M(h:Rd w cP t e v cs)(b)(j:v.ownBlock=some b):b<w.heap.size/\cP b=t:=by
 obtain⟨rfl,_⟩|⟨b',o,c,y,f,rfl,A,F,_⟩:=h
 .contradiction
 simp[Value.ownBlock]at j;subst j;exact⟨(ae.1 F).1,A⟩
def Rd.qW{base:Nat}(h:w.ownsRow base e 1 v n cs)(H:∀b,v.ownBlock=some b->cP b=t):Rd w cP t e v cs:=by
 have A:=jQ h;obtain⟨rfl,rfl⟩|⟨g,cap,y,rfl,V,F,W,L,Y,Z⟩:=h.2
 .exact .inl ⟨rfl,aW.1 A⟩
 refine .inr ⟨g,0,cap,y,_,mT A,H g rfl,F,C,L,λj x M=>?_⟩;have T:=(aj.1 M).1;have:=h.cellAt j C;rw[ax w g j y e (0,0) F]at this;simp_all
class oN(α:Type) where
 ev:World->(Nat->Nat)->Nat->α->Value->Prop
 only:∀{w w':World} {cP fz:Nat->Nat} {t:Nat} {A:α} {v:Value} {T:Nat->Prop},ev w cP t A v->gI T w w'->(∀b,b<w.heap.size->T b->cP b≠t)->(∀b,b<w.heap.size->cP b=t->fz b=t)->ev w' fz t A v
instance:oN An where
 ev w cP t A v:=∃s,v=.agg #[I A.wh,I A.ep,I A.mark,I A.ct.kd,I A.ct.cl,I A.ct.ca,s]/\Rd w cP t 5 s (A.ct.val.map B8)
 only:=λ⟨s,h1,h2⟩ ho hT ht=>⟨s,h1,h2.only ho hT ht⟩
instance:oN Vo where
 ev w cP t A v:=∃s,v=.agg #[I A.wh,I A.pr,I A.ba,s]/\Rd w cP t 5 s (A.val.map B8)
 only:=λ⟨s,h1,h2⟩ ho hT ht=>⟨s,h1,h2.only ho hT ht⟩
structure Ae where
 k:Int
 v:Value
 bo:Nat
def Ae.A(e:Ae):MapEntry:=⟨I e.k,e.v,e.bo⟩
def ie(l:List Ae):Array MapEntry:=(l.map Ae.A).toArray
structure Mm{α:Type}(w:World)(gm iC:Nat)(l:List Ae)(zz:List (Int×α))(R:α->Value->Prop):Prop where
 mp:w.heap[gm]?=some (.map (ie l) iC)
 len:l.length=zz.length
 kY:∀(i:Nat) e z,l[i]?=some e->zz[i]?=some z->e.k=z.1/\R z.2 e.v
 bo:∀e∈l,e.bo<iC
 nd:(l.map (·.bo)).Nodup
 ky:(zz.map (·.1)).Nodup
def oS{α:Type}[oN α](w:World)(cP:Nat->Nat)(g t:Nat)(v:Value)(zz:List (Int×α)):Prop:=
 (v=.map none/\zz=[])\/∃gm iC l,v=.map (some gm)/\cP gm=g/\Mm w gm iC l zz (oN.ev w cP t)
section
variable{α:Type}[oN α]{zz:List (Int×α)}
def oS.map(h:oS w cP g t v zz){b:Nat}(j:v=.map (some b)):b<w.heap.size/\cP b=g:=by
 obtain⟨e,_⟩|⟨gm,iC,l,e,y,h⟩:=h
 .simp_all
 rw[e]at j;simp at j;subst j;exact⟨(ae.1 h.mp).1,y⟩
def oS.only(h:oS w cP g t v zz){T:Nat->Prop}(A:gI T w w')(F:∀b,b<w.heap.size->T b->cP b≠t)(L:∀b,v=.map (some b)->¬T b)(M:∀b,b<w.heap.size->cP b=t->fz b=t)(V:∀b,v=.map (some b)->fz b=cP b):oS w' fz g t v zz:=by
 obtain h|⟨gm,iC,l,y,W,j⟩:=h
 .exact .inl h
 refine .inr ⟨gm,iC,l,y,by rw[V gm y,W],(A.block gm ((ae.1 j.mp).1) (L gm y)).H j.mp,j.len,λi e z Y Z=>?_,j.bo,j.nd,j.ky⟩;obtain⟨k1,k2⟩:=j.kY i e z Y Z;exact⟨k1,oN.only k2 A F M⟩
end
structure QV where
 vv:Value
 nv:Value
 av:Value
def QV.zero:QV:=⟨OO,OO,.map none⟩
structure QR{α:Type}[oN α](w:World)(cP:Nat->Nat)(g t:Nat)(q:Qn α)(V:QV):Prop where
 val:Rd w cP t 5 V.vv (q.A.ct.val.map B8)
 nodes:Rd w cP t 3 V.nv (q.nodes.map I)
 D:oS w cP g t V.av q.D
 nil:V.av=.map none->q.nodes=[]
section
variable{α:Type}[oN α]{q:Qn α}{V:QV}
def QR.only(h:QR w cP g t q V){T:Nat->Prop}(A:gI T w w')(F:∀b,b<w.heap.size->T b->cP b≠t)(H:∀b,b<w.heap.size->T b->cP b≠g)(y:∀b,b<w.heap.size->fz b=cP b):QR w' fz g t q V:=
 ⟨h.val.only A F λb j e=>by rw[y b j];exact e,h.nodes.only A F λb j e=>by rw[y b j];exact e,h.D.only A F (λb j e=>H b (h.D.map j).1 e (h.D.map j).2) (λb j e=>by rw[y b j];exact e) λb j=>y b (h.D.map j).1,h.nil⟩
def QR.zero:QR w cP g t (Qn.zero:Qn α) QV.zero:=⟨Rd.nil,Rd.nil,.inl ⟨rfl,rfl⟩,λ_=>rfl⟩
end
def tI(w:World)(cP:Nat->Nat)(g t:Nat)(v:Value)(rs:List Rz):Prop:=
 ∃xs,w.ownsRow 0 43 3 v rs.length xs/\(∀b,v.ownBlock=some b->cP b=g)/\∀i r,rs[i]?=some r->xs[3*i]?=some (I r.wh)/\xs[3*i+1]?=some (I r.ad)/\∃s,xs[3*i+2]?=some s/\Rd w cP t 5 s (r.val.map B8)
def tI.only{rs:List Rz}(h:tI w cP g t v rs){T:Nat->Prop}(A:gI T w w')(L:∀b,b<w.heap.size->T b->cP b≠t)(M:∀b,b<w.heap.size->T b->cP b≠g)(F:∀b,b<w.heap.size->fz b=cP b):tI w' fz g t v rs:=by obtain⟨xs,y,H,W⟩:=h;refine⟨xs,A.jH y λb j e=>M b (y.lt b j).2 e (H b j),λb j=>by rw[F b (y.lt b j).2];exact H b j,λi r Y=>?_⟩;obtain⟨Z,k2,s,k3,k4⟩:=W i r Y;exact⟨Z,k2,s,k3,k4.only A L λb j e=>by rw[F b j];exact e⟩
def qh(w:World)(cP:Nat->Nat)(t:Nat)(v:Value)(lay:List (List Int)):Prop:=
 ∃g arr cap f,v=.slice (G g) lay.length cap/\lay.length<=cap/\cap<=maxLen/\cP g=t/\w.heap[g]?=some (.cells arr 24 f)/\∀(k:Nat) (ch:List Int),lay[k]?=some ch->∃x,arr[k]?=some x/\Rd w cP t 3 x (ch.map I)
def qh.only{lay:List (List Int)}(h:qh w cP t v lay){T:Nat->Prop}(A:gI T w w')(F:∀b,b<w.heap.size->T b->cP b≠t)(L:∀b,b<w.heap.size->cP b=t->fz b=t):qh w' fz t v lay:=by obtain⟨g,j,cap,f,Y,c1,c2,M,W,Z⟩:=h;have y:=(ae.1 W).1;refine⟨g,j,cap,f,Y,c1,c2,L g y M,(A.block g y λe=>F g y e M).H W,λk ch hk=>?_⟩;obtain⟨x,k1,k2⟩:=Z k ch hk;exact⟨x,k1,k2.only A F L⟩
structure lE where
 ov:Value
 cv:Value
 ev:Value
 q:QV
def rh(c:jn)(V:lE):List Value:=
 [I c.kind,I c.gL,I c.a,I c.iA,I c.unit,I c.ij.kd,I c.ij.cl,I c.ij.ca,V.ov,I c.d.kd,I c.d.cl,I c.d.ca,V.cv,I c.b,I c.e.wh,I c.e.ad,V.ev,
  I c.q.A.kd,I c.q.A.ln,I c.q.A.nr,I c.q.A.ep,I c.q.A.pl,I c.q.A.ct.kd,I c.q.A.ct.cl,I c.q.A.ct.ca,V.q.vv,V.q.nv,.bool c.q.mi,V.q.av]
structure lS(w:World)(cP:Nat->Nat)(t q:Nat)(c:jn)(V:lE):Prop where
 hq:w.heap[q]?=some (.cells (rh c V).toArray 168 (0,0))
 tq:cP q=t+8+2*c.a
 ij:Rd w cP (t+3) 5 V.ov (c.ij.val.map B8)
 d:Rd w cP (t+3) 5 V.cv (c.d.val.map B8)
 e:Rd w cP (t+3) 5 V.ev (c.e.val.map B8)
 q:QR w cP (t+9+2*c.a) (t+3) c.q V.q
section
variable{c:jn}{V:lE}
def lS.lt(h:lS w cP t q c V):q<w.heap.size:=(ae.1 h.hq).1
def lS.only(h:lS w cP t q c V){T:Nat->Prop}(y:gI T w w')(L:∀b,b<w.heap.size->T b->cP b≠t+3/\cP b≠t+8+2*c.a/\cP b≠t+9+2*c.a)(M:∀b,b<w.heap.size->fz b=cP b):lS w' fz t q c V:=by
 have F:∀b,b<w.heap.size->T b->cP b≠t+3:=λb A e=>(L b A e).1;have j:∀b,b<w.heap.size->cP b=t+3->fz b=t+3:=λb A e=>by rw[M b A];exact e
 exact⟨(y.block q h.lt λe=>(L q h.lt e).2.1 h.tq).H h.hq,(M q h.lt).H h.tq,h.ij.only y F j,h.d.only y F j,h.e.only y F j,h.q.only y F (λb A e=>(L b A e).2.2) M⟩
def lS.cellAt(h:lS w cP t q c V)(i)(e:(rh c V)[i]?=some v):w.cell? (U q i)=some v:=by rw[ax w q i _ 168 _ h.hq];simpa using e
def lS.N(h:lS w cP t q c V)(i):w.frozen? (U q i)=false:=aP w q i _ 168 h.hq
end
def lS.R{T:Nat->Nat}{X:jn}{Y:lE}(h:lS w T t p X Y)(i j:Nat){a b:Value}(e:((rh X Y)[i]?,(rh X Y)[j]?)=(some a,some b)):w.cell? (U p i)=some a/\w.cell? (U p j)=some b:=by simp at e;exact⟨h.cellAt i e.1,h.cellAt j e.2⟩
def lS.QI{T:Nat->Nat}{X:jn}{Y:lE}(h:lS w T t p X Y)(i j k:Nat){a b c:Value}(e:((rh X Y)[i]?,(rh X Y)[j]?,(rh X Y)[k]?)=(some a,some b,some c)):w.cell? (U p i)=some a/\w.cell? (U p j)=some b/\w.cell? (U p k)=some c:=by simp at e;exact⟨h.cellAt i e.1,h.cellAt j e.2.1,h.cellAt k e.2.2⟩
def lS.T{T:Nat->Nat}{X:jn}{Y:lE}(h:lS w T t p X Y)(i j k m:Nat){a b c d:Value}(e:((rh X Y)[i]?,(rh X Y)[j]?,(rh X Y)[k]?,(rh X Y)[m]?)=(some a,some b,some c,some d)):w.cell? (U p i)=some a/\w.cell? (U p j)=some b/\w.cell? (U p k)=some c/\w.cell? (U p m)=some d:=by simp at e;exact⟨h.cellAt i e.1,h.cellAt j e.2.1,h.cellAt k e.2.2.1,h.cellAt m e.2.2.2⟩
def lS.Z9{T:Nat->Nat}{X:jn}{Y:lE}(h:lS w T t p X Y)(i j:Nat):w.frozen? (U p i)=false/\w.frozen? (U p j)=false:=⟨h.N i,h.N j⟩
def lS.ZP{T:Nat->Nat}{X:jn}{Y:lE}(h:lS w T t p X Y)(i j k:Nat):w.frozen? (U p i)=false/\w.frozen? (U p j)=false/\w.frozen? (U p k)=false:=⟨h.N i,h.N j,h.N k⟩
def lS.EO{T:Nat->Nat}{X:jn}{Y:lE}(h:lS w T t p X Y)(i j k m:Nat):w.frozen? (U p i)=false/\w.frozen? (U p j)=false/\w.frozen? (U p k)=false/\w.frozen? (U p m)=false:=⟨h.N i,h.N j,h.N k,h.N m⟩
structure CV where
 lv:Value
 rv:Value
 bm:Nat
 iC:Nat
 bo:Nat->Nat
 pr:QV
 bg:Value
 b:Value
 sl:QV
 vt:QV
def ry(X:Cx)(V:CV):List Value:=
 [I X.n,I X.m,I X.vo,I X.ce,I X.id,I X.b,V.lv,V.rv,.map (some V.bm),I X.gJ,
  I X.c.A.kd,I X.c.A.ln,I X.c.A.nr,I X.c.A.ep,I X.c.A.pl,I X.c.A.ct.kd,I X.c.A.ct.cl,I X.c.A.ct.ca,V.pr.vv,V.pr.nv,.bool X.c.mi,V.pr.av,
  I X.A,I X.M,I X.mv.b,.bool X.mv.c,V.bg,I X.mv.M,V.b,
  I X.mv.a.A.kd,I X.mv.a.A.ln,I X.mv.a.A.nr,I X.mv.a.A.ep,I X.mv.a.A.pl,I X.mv.a.A.ct.kd,I X.mv.a.A.ct.cl,I X.mv.a.A.ct.ca,V.sl.vv,V.sl.nv,.bool X.mv.a.mi,V.sl.av,
  I X.mv.A.A.kd,I X.mv.A.A.ln,I X.mv.A.A.nr,I X.mv.A.A.ep,I X.mv.A.A.pl,I X.mv.A.A.ct.kd,I X.mv.A.A.ct.cl,I X.mv.A.A.ct.ca,V.vt.vv,V.vt.nv,.bool X.mv.A.mi,V.vt.av,
  .bool X.wb,.bool X.wl]
def kU(qb bo:Nat->Nat)(c:jn):Ae:=⟨c.gL,O (qb c.gL),bo c.gL⟩
structure uf(X:Cx):Prop where
 gL:X.a.Pairwise λc d=>c.gL<d.gL
 lt:∀c∈X.a,c.gL<X.e.length
 a:X.a.Pairwise λc d=>c.a≠d.a
 A:∀c∈X.a,c.a<8
def NF(w:World)(cP:Nat->Nat)(t:Nat)(M:Mv)(bg av:Value):Prop:=
 (bg=.map none/\M.D=[])\/(M.A.A.kd=7/\bg=av/\M.D=M.A.D/\M.D≠[])\/(M.A.A.kd≠7/\bg≠av/\oS w cP (t+6) (t+3) bg M.D)
structure Tt(w:World)(cP:Nat->Nat)(t:Nat)(qb:Nat->Nat)(X:Cx)(V:CV):Prop where
 lay:qh w cP (t+3) V.lv X.lay
 e:tI w cP (t+2) (t+3) V.rv X.e
 tb:cP V.bm=t+1
 mp:w.heap[V.bm]?=some (.map (ie (X.a.map (kU qb V.bo))) V.iC)
 bo:∀c∈X.a,V.bo c.gL<V.iC
 bn:(X.a.map λc=>V.bo c.gL).Nodup
 pr:QR w cP (t+4) (t+3) X.c V.pr
 sl:QR w cP (t+5) (t+3) X.mv.a V.sl
 vt:QR w cP (t+6) (t+3) X.mv.A V.vt
 bg:NF w cP t X.mv V.bg V.vt.av
 b:Rd w cP (t+3) 5 V.b (X.mv.value.map B8)
 f:∀c∈X.a,∃cv,lS w cP t (qb c.gL) c cv
 a:uf X
structure jy(w:World)(cP:Nat->Nat)(t p:Nat)(qb:Nat->Nat)(X:Cx)(V:CV):Prop where
 hp:w.heap[p]?=some (.cells (ry X V).toArray 114 (0,0))
 tp:cP p=t
 r:Tt w cP t qb X V
def Cl(w:World)(cP:Nat->Nat)(t p:Nat)(qb:Nat->Nat)(X:Cx):Prop:=∃V,jy w cP t p qb X V
def Mc(t g:Nat):Prop:=t<=g/\g<t+32/\g≠t+3
section
variable{X:Cx}{V:CV}
def Tt.lb(h:Tt w cP t qb X V):V.bm<w.heap.size:=(ae.1 h.mp).1
def NF.only{M:Mv}{A av:Value}(h:NF w cP t M A av){T:Nat->Prop}(L:gI T w w')(F:∀b,b<w.heap.size->T b->cP b≠t+3/\cP b≠t+6)(H:∀b,b<w.heap.size->fz b=cP b):NF w' fz t M A av:=by
 obtain h|h|⟨W,Y,y⟩:=h
 .exact .inl h
 .exact .inr (.inl h)
 exact .inr (.inr ⟨W,Y,y.only L (λb j e=>(F b j e).1) (λb j e=>(F b (y.map j).1 e).2 (y.map j).2) (λb j e=>by rw[H b j];exact e) λb j=>H b (y.map j).1⟩)
def Tt.only(h:Tt w cP t qb X V){T:Nat->Prop}(y:gI T w w')(A:∀b,b<w.heap.size->T b->cP b<=t\/t+32<=cP b)(F:∀b,b<w.heap.size->fz b=cP b):Tt w' fz t qb X V:=by
 have L:∀b,b<w.heap.size->T b->cP b≠t+3:=λb j e=>by have:=A b j e;omega
 have M:∀b,b<w.heap.size->cP b=t+3->fz b=t+3:=λb j e=>by rw[F b j];exact e
 exact⟨h.lay.only y L M,h.e.only y L (λb j e=>by have:=A b j e;omega) F,(F _ h.lb).H h.tb,(y.block _ h.lb λe=>by have:=A _ h.lb e;have:=h.tb;omega).H h.mp,h.bo,h.bn,h.pr.only y L (λb j e=>by have:=A b j e;omega) F,h.sl.only y L (λb j e=>by have:=A b j e;omega) F,h.vt.only y L (λb j e=>by have:=A b j e;omega) F,h.bg.only y (λb j e=>by have:=A b j e;omega) F,h.b.only y L M,λc W=>by
  obtain⟨Y,Z⟩:=h.f c W
  have:=h.a.A c W
  exact⟨Y,Z.only y (λb j e=>by have:=A b j e;omega) F⟩,h.a⟩
def jy.A(h:jy w cP t p qb X V):p<w.heap.size:=(ae.1 h.hp).1
def jy.only(h:jy w cP t p qb X V){T:Nat->Prop}(j:gI T w w')(y:∀b,b<w.heap.size->T b->cP b<t\/t+32<=cP b)(A:∀b,b<w.heap.size->fz b=cP b):jy w' fz t p qb X V:=
 ⟨(j.block p h.A λe=>by have:=y p h.A e;have:=h.tp;omega).H h.hp,(A p h.A).H h.tp,h.r.only j (λb F e=>by have:=y b F e;omega) A⟩
def jy.bl(h:jy w cP t p qb X V)(j:Bl w w')(y:∀b,b<w.heap.size->fz b=cP b):jy w' fz t p qb X V:=h.only (jY j) (λ_ _ e=>e.elim) y
def Cl.only(h:Cl w cP t p qb X){T:Nat->Prop}(j:gI T w w')(y:∀b,b<w.heap.size->T b->cP b<t\/t+32<=cP b)(A:∀b,b<w.heap.size->fz b=cP b):Cl w' fz t p qb X:=by obtain⟨V,h⟩:=h;exact⟨V,h.only j y A⟩
def Cl.bl(h:Cl w cP t p qb X)(j:Bl w w')(y:∀b,b<w.heap.size->fz b=cP b):Cl w' fz t p qb X:=h.only (jY j) (λ_ _ e=>e.elim) y
def jy.cellAt(h:jy w cP t p qb X V)(i)(e:(ry X V)[i]?=some v):w.cell? (U p i)=some v:=by rw[ax w p i _ 114 _ h.hp];simpa using e
def jy.N(h:jy w cP t p qb X V)(i):w.frozen? (U p i)=false:=aP w p i _ 114 h.hp
end
def CS(w:World)(cP:Nat->Nat)(t p:Nat)(qb:Nat->Nat)(X':Cx)(w':World):Prop:=
 ∃fz,(∀b,b<w.heap.size->fz b=cP b)/\Cl w' fz t p qb X'/\gI (λb=>Mc t (cP b)) w w'
section
variable{X X' X'':Cx}{V:CV}
def CS.D(h:Cl w cP t p qb X)(j:Bl w w'):CS w cP t p qb X w':=⟨cP,λ_ _=>rfl,h.bl j ib,gI.D j⟩
def CS.post(h:CS w cP t p qb X w1)(j:Bl w1 w'):CS w cP t p qb X w':=by obtain⟨fz,y,A,F⟩:=h;exact⟨fz,y,A.bl j ib,F.H (gI.D j)⟩
def CS.M(y:Bl w w1)(h:CS w1 cP t p qb X w'):CS w cP t p qb X w':=by obtain⟨fz,A,F,L⟩:=h;exact⟨fz,λb j=>A b (af j y.lt),F,(gI.D y).H L⟩
end
def jy.R{T:Nat->Nat}{X:Cx}{Y:CV}(h:jy w T t p Q X Y)(i j:Nat){a b:Value}(e:((ry X Y)[i]?,(ry X Y)[j]?)=(some a,some b)):w.cell? (U p i)=some a/\w.cell? (U p j)=some b:=by simp at e;exact⟨h.cellAt i e.1,h.cellAt j e.2⟩
def jy.QI{T:Nat->Nat}{X:Cx}{Y:CV}(h:jy w T t p Q X Y)(i j k:Nat){a b c:Value}(e:((ry X Y)[i]?,(ry X Y)[j]?,(ry X Y)[k]?)=(some a,some b,some c)):w.cell? (U p i)=some a/\w.cell? (U p j)=some b/\w.cell? (U p k)=some c:=by simp at e;exact⟨h.cellAt i e.1,h.cellAt j e.2.1,h.cellAt k e.2.2⟩
def jy.T{T:Nat->Nat}{X:Cx}{Y:CV}(h:jy w T t p Q X Y)(i j k m:Nat){a b c d:Value}(e:((ry X Y)[i]?,(ry X Y)[j]?,(ry X Y)[k]?,(ry X Y)[m]?)=(some a,some b,some c,some d)):w.cell? (U p i)=some a/\w.cell? (U p j)=some b/\w.cell? (U p k)=some c/\w.cell? (U p m)=some d:=by simp at e;exact⟨h.cellAt i e.1,h.cellAt j e.2.1,h.cellAt k e.2.2.1,h.cellAt m e.2.2.2⟩
def jy.Z9{T:Nat->Nat}{X:Cx}{Y:CV}(h:jy w T t p Q X Y)(i j:Nat):w.frozen? (U p i)=false/\w.frozen? (U p j)=false:=⟨h.N i,h.N j⟩
def jy.ZP{T:Nat->Nat}{X:Cx}{Y:CV}(h:jy w T t p Q X Y)(i j k:Nat):w.frozen? (U p i)=false/\w.frozen? (U p j)=false/\w.frozen? (U p k)=false:=⟨h.N i,h.N j,h.N k⟩
def jy.EO{T:Nat->Nat}{X:Cx}{Y:CV}(h:jy w T t p Q X Y)(i j k m:Nat):w.frozen? (U p i)=false/\w.frozen? (U p j)=false/\w.frozen? (U p k)=false/\w.frozen? (U p m)=false:=⟨h.N i,h.N j,h.N k,h.N m⟩
abbrev NB(p0:Cx)(p1)(p2:CV):=ie (p0.a.map (kU p1 p2.bo))
theorem kD{a:World}(y:S p\/a.heap.size<=p):∀(j:List Value) (o:Nat) (w:World),gI S a w->gI S a (lT w p o j)
 |[],_,_,h=>h
 |v::j,o,_,h=>kD y j (o+1) _ (h.setCell (U p o) y v)
section
variable{X X':Cx}{V V':CV}{c c' d:jn}{cv cv':lE}
def jy.uV(h:jy w cP t p qb X V)(y:gI (λb=>b=p) w w')(j:w'.heap[p]?=some (ig (ry X' V').toArray 114 (0,0)))(r:Tt w cP t qb X' V'):jy w' cP t p qb X' V':=
 ⟨j,h.tp,r.only y (λb _ e=>by rw[e,h.tp];exact .inl jr) ib⟩
def jy.nF(h:jy w cP t p qb X V)(j:gI (λb=>b=p) w w'):gI (λb=>Mc t (cP b)) w w':=j.L λb _ e=>by rw[e,h.tp];unfold Mc;omega
def Cx.zr{X:Cx}{c' d:jn}(h:d∈(X.put c').a):d=c'\/(d∈X.a/\d.gL≠c'.gL):=by unfold Cx.put at h;simp at h;obtain⟨x,j,e⟩:=h;by_cases y:x.gL=c'.gL;all_goals simp_all
def Cx.jV{X:Cx}{c c':jn}(h:c∈X.a)(j:c'.gL=c.gL):c'∈(X.put c').a:=aD.2 ⟨c,h,by rw[aE j.symm]⟩
theorem rS{l:List jn}(h:l.Pairwise λc d=>c.gL<d.gL){c d:jn}(j:c∈l)(y:d∈l)(e:c.gL=d.gL):c=d:=by
 induction l with
 |nil=>simp at j
 |cons x l A=>
  rw[cI]at h;obtain rfl|hc':=bh.1 j<;>obtain rfl|hd':=bh.1 y
  .rfl
  .have:=h.1 d hd';omega
  .have:=h.1 c hc';omega
  simp_all
theorem To{l:List jn}(h:l.Pairwise λc d=>c.a≠d.a){c d:jn}(j:c∈l)(y:d∈l)(e:c≠d):c.a≠d.a:=by
 induction l with
 |nil=>simp at j
 |cons x l A=>
  rw[cI]at h;obtain rfl|hc':=bh.1 j<;>obtain rfl|hd':=bh.1 y
  .simp_all
  .simp_all
  .exact(h.1 c hc').symm
  simp_all
def uf.put(h:uf X)(H:c∈X.a)(L:c'.gL=c.gL)(M:c'.a=c.a):uf (X.put c'):=by
 have T:∀x∈X.a,∃y,y=(if x.gL=c'.gL then c' else x)/\y.gL=x.gL/\y.a=x.a:=λx W=>by
  by_cases e:x.gL=c'.gL
  .rw[aE e];have:x=c:=rS h.gL W H (kz e L);exact⟨c',rfl,e.symm,by rw[this,M]⟩
  rw[az e];exact⟨x,rfl,rfl,rfl⟩
 have A:(X.put c').a.map (·.gL)=X.a.map (·.gL):=by unfold Cx.put;simp_all
 have F:(X.put c').a.map (·.a)=X.a.map (·.a):=by unfold Cx.put;simp_all
 refine⟨?_,λd j=>?_,?_,λd j=>?_⟩
 .have:=cj.2 h.gL;rw[<-A]at this;exact cj.1 this
 .obtain rfl|⟨j,_⟩:=Cx.zr j
  .rw[L];exact h.lt c H
  exact h.lt d j
 .have:=(cj (f:=λc:jn=>c.a) (R:=λa b=>a≠b) (l:=X.a)).2 h.a;rw[<-F]at this;exact cj.1 this
 obtain rfl|⟨j,_⟩:=Cx.zr j
 .rw[M];exact h.A c H
 exact h.A d j
def Iq(X:Cx)(c')(qb bo):(X.put c').a.map (kU qb bo)=X.a.map (kU qb bo):=by
 unfold Cx.put;simp only[br];refine bf λx _=>?_;simp;by_cases e:x.gL=c'.gL
 .rw[aE e];simp[kU,e]
 simp_all
def jy.call(h:jy w cP t p qb X V)(L:c∈X.a)(j:gI (λb=>cP b=t+8+2*c.a\/cP b=t+9+2*c.a) w w')(T:lS w' cP t (qb c.gL) c' cv')(M:c'.gL=c.gL)(Z:c'.a=c.a):jy w' cP t p qb (X.put c') V:=by
 have h8:=h.r.a.A c L;have A:∀b,b<w.heap.size->cP b=cP b:=λ_ _=>rfl;have F:∀b,b<w.heap.size->(cP b=t+8+2*c.a\/cP b=t+9+2*c.a)->cP b≠t+3:=λb _ e=>C;have W:(X.put c').a.map (λc=>V.bo c.gL)=X.a.map (λc=>V.bo c.gL):=by have:=Z5 (List.map Ae.bo) (Iq X c' qb V.bo);rwa[br,br]at this
 refine⟨(j.block p h.A λe=>by have:=h.tp;omega).H h.hp,h.tp,h.r.lay.only j F λ_ _ e=>e,h.r.e.only j F (λb _ e=>C) A,h.r.tb,?_,?_,by rw[W];exact h.r.bn,h.r.pr.only j F (λb _ e=>C) A,h.r.sl.only j F (λb _ e=>C) A,h.r.vt.only j F (λb _ e=>C) A,h.r.bg.only j (λb _ e=>C) A,h.r.b.only j F λ_ _ e=>e,λd y=>?_,h.r.a.put L M Z⟩
 .rw[Iq];exact(j.block _ h.r.lb λe=>by have:=h.r.tb;omega).H h.r.mp
 .intro d y;obtain rfl|⟨y,_⟩:=Cx.zr y
  .rw[M];exact h.r.bo c L
  exact h.r.bo d y
 obtain rfl|⟨y,Y⟩:=Cx.zr y
 .rw[M];exact⟨_,T⟩
 obtain⟨dv,T⟩:=h.r.f d y;have:=To h.r.a.a y L λe=>Y (kz e M);exact⟨dv,T.only j (λb _ e=>C) A⟩
def jy.I4(h:jy w cP t p qb X V)(j:c∈X.a)(y:gI (λb=>cP b=t+8+2*c.a\/cP b=t+9+2*c.a) w w'):gI (λb=>Mc t (cP b)) w w':=y.L λb _ e=>by have:=h.r.a.A c j;unfold Mc;omega
def lS.A(h:lS w cP t q c cv)(j:gI (λb=>b=q) w w')(A:w'.heap[q]?=some (ig (rh c' cv').toArray 168 (0,0)))(F:c'.a=c.a)(H:Rd w cP (t+3) 5 cv'.ov (c'.ij.val.map B8))(L:Rd w cP (t+3) 5 cv'.cv (c'.d.val.map B8))(M:Rd w cP (t+3) 5 cv'.ev (c'.e.val.map B8))(T:QR w cP (t+9+2*c'.a) (t+3) c'.q cv'.q):lS w' cP t q c' cv':=by
 have y:∀b,b<w.heap.size->b=q->cP b≠t+3:=λb _ e=>by rw[e,h.tq];omega
 exact⟨A,by rw[F];exact h.tq,H.only j y λ_ _ e=>e,L.only j y λ_ _ e=>e,M.only j y λ_ _ e=>e,T.only j y (λb _ e=>by rw[e,h.tq];omega) ib⟩
def lS.Ej(h:lS w cP t q c cv)(j:gI (λb=>b=q) w w'):gI (λb=>cP b=t+8+2*c.a\/cP b=t+9+2*c.a) w w':=j.L λb _ e=>.inl (by rw[e];exact h.tq)
def CS.mk(h:jy w' cP t p qb X V)(j:gI (λb=>Mc t (cP b)) w w'):CS w cP t p qb X w':=⟨cP,λ_ _=>rfl,⟨V,h⟩,j⟩
def jy.gJ(h:jy w cP t p qb X V)(a):jy (w.setCell (U p 9) (I a)) cP t p qb {X with gJ:=a} V:=
 h.uV ((gI.refl (λb=>b=p) w).setCell (U p 9) (.inl rfl) _) (jO 9 _ w _ h.hp) ⟨h.r.lay,h.r.e,h.r.tb,h.r.mp,h.r.bo,h.r.bn,h.r.pr,h.r.sl,h.r.vt,h.r.bg,h.r.b,h.r.f,h.r.a.gL,h.r.a.lt,h.r.a.a,h.r.a.A⟩
def uD(h:jy w cP t p qb X V)(A:0<=X.gJ)(F:X.gJ<=1000000000000000):Calls prog 194 #[O p] w λj w'=>j=gU (I (X.gJ+1))/\jy w' cP t p qb {X with gJ:=X.gJ+1} V/\gI (λb=>b=p) w w':=by
 have H:=gN (h.gJ (X.gJ+1));have L:=h.cellAt 9 rfl;have M:=h.N 9;have T:=h.A;have y:Hid (gI (λb=>b=p) w (w.setCell (U p 9) (I (X.gJ+1)))):=(gI.refl (λb=>b=p) w).setCell (U p 9) (.inl rfl) _;clear h;go_wp2;go_ret;exact⟨rfl,H,y⟩
end
section
variable{X X':Cx}{V V':CV}{c c':jn}{cv cv':lE}
def Rd.pP(h:Rd w cP g e v cs)(j:∀b,b<w.heap.size->cP b=g->fz b=g):Rd w fz g e v cs:=h.bl (Bl.refl w) j
def oS.pP{α:Type}[oN α]{zz:List (Int×α)}(h:oS w cP g r v zz)(y:∀b,b<w.heap.size->cP b=r->fz b=r)(A:∀b,b<w.heap.size->cP b=g->fz b=g):oS w fz g r v zz:=
 h.only (gI.refl _ w) (λ_ _ e=>e.elim) (λ_ _ e=>e) y (λb j=>by rw[A b (h.map j).1 (h.map j).2,(h.map j).2])
def QR.pP{α:Type}[oN α]{q:Qn α}{V:QV}(h:QR w cP g r q V)(j:∀b,b<w.heap.size->cP b=r->fz b=r)(y:∀b,b<w.heap.size->cP b=g->fz b=g):QR w fz g r q V:=
 ⟨h.val.pP j,h.nodes.pP j,h.D.pP j y,h.nil⟩
def jy.pP(h:jy w cP t p qb X V)(A:∀b,b<w.heap.size->t<=cP b->cP b<t+32->fz b=cP b):jy w fz t p qb X V:=by
 have j:∀k,k<32->∀b,b<w.heap.size->cP b=t+k->fz b=t+k:=λk hk b y e=>by rw[A b y C C];exact e
 refine⟨h.hp,by rw[A p h.A (by rw[h.tp];omega) (by rw[h.tp];omega)];exact h.tp,h.r.lay.only (gI.refl (λ_=>False) w) (λ_ _ e=>e.elim) (j 3 C),?_,j 1 C _ h.r.lb h.r.tb,h.r.mp,h.r.bo,h.r.bn,h.r.pr.pP (j 3 C) (j 4 C),h.r.sl.pP (j 3 C) (j 5 C),h.r.vt.pP (j 3 C) (j 6 C),?_,h.r.b.pP (j 3 C),λc F=>?_,h.r.a⟩
 .obtain⟨xs,H,L,M⟩:=h.r.e;refine⟨xs,H,λb y=>j 2 C b (H.lt b y).2 (L b y),λi r T=>?_⟩;obtain⟨W,Y,s,Z,k4⟩:=M i r T;exact⟨W,Y,s,Z,k4.pP (j 3 C)⟩
 .obtain e|e|⟨e1,e2,e3⟩:=h.r.bg
  .exact .inl e
  .exact .inr (.inl e)
  exact .inr (.inr ⟨e1,e2,e3.pP (j 3 C) (j 6 C)⟩)
 obtain⟨cv,k⟩:=h.r.f c F;have h8:=h.r.a.A c F;exact⟨cv,k.hq,by rw[cG];exact j (8+2*c.a) C _ k.lt (by rw[<-cG];exact k.tq),k.ij.pP (j 3 C),k.d.pP (j 3 C),k.e.pP (j 3 C),k.q.pP (j 3 C) λb y e=>by rw[cG];exact j (9+2*c.a) C b y (by rw[<-cG];exact e)⟩
end
def TO(w):(Instr.makeMap 101 none).run prog w=.ok (.map (some w.heap.size)) (w.alloc (.map #[] 0)):=rfl
def Uv(w):(Instr.makeMap 104 none).run prog w=.ok (.map (some w.heap.size)) (w.alloc (.map #[] 0)):=rfl
abbrev Td(kd ln nr ep pl ck cl ca:Int)(v n:Value)(gm:Nat):Value:= .agg #[I kd,I ln,I nr,I ep,I pl,I ck,I cl,I ca,v,n,.bool true,.map (some gm)]
theorem qx(w)(na)(nn nc)(kd ln nr ep pl ck cl ca)(va)(vn vc):iU 207 #[gK na nn nc,Mr kd ln nr ep pl ck cl ca (gK va vn vc)] w λh w'=>∃gm,h=gU (Td kd ln nr ep pl ck cl ca (gK va vn vc) (gK na nn nc) gm)/\w.heap.size<=gm/\w'.heap[gm]?=some (.map #[] 0)/\Bl w w':=by
 have j:=TO;go_enter func207,ntmps207;go_wp2;refine aG (v:=Td kd ln nr ep pl ck cl ca (gK va vn vc) (gK na nn nc) (w.heap.size+1+1)) (by simp[results,results207,go_sem]) rfl ⟨_,rfl,C,?_,(((Bl.refl w).alloc _).alloc _).alloc _⟩;have:=ao ((w.alloc (ig #[I kd,I ln,I nr,I ep,I pl,I ck,I cl,I ca,gK va vn vc] 100)).alloc (ig #[I kd,I ln,I nr,I ep,I pl,I ck,I cl,I ca,gK va vn vc,gK na nn nc,.bool true,.map (some (w.heap.size+1+1))] 103)) (.map #[] 0);simpa using this
theorem ya(w)(na)(nn nc)(kd ln nr ep pl ck cl ca)(va)(vn vc):iU 195 #[gK na nn nc,Mr kd ln nr ep pl ck cl ca (gK va vn vc)] w λh w'=>∃gm,h=gU (Td kd ln nr ep pl ck cl ca (gK va vn vc) (gK na nn nc) gm)/\w.heap.size<=gm/\w'.heap[gm]?=some (.map #[] 0)/\Bl w w':=by
 have j:=Uv;go_enter func195,ntmps195;go_wp2;refine aG (v:=Td kd ln nr ep pl ck cl ca (gK va vn vc) (gK na nn nc) (w.heap.size+1+1)) (by simp[results,results195,go_sem]) rfl ⟨_,rfl,C,?_,(((Bl.refl w).alloc _).alloc _).alloc _⟩;have:=ao ((w.alloc (ig #[I kd,I ln,I nr,I ep,I pl,I ck,I cl,I ca,gK va vn vc] 100)).alloc (ig #[I kd,I ln,I nr,I ep,I pl,I ck,I cl,I ca,gK va vn vc,gK na nn nc,.bool true,.map (some (w.heap.size+1+1))] 106)) (.map #[] 0);simpa using this
def oS.new{α:Type}[oN α](j:w.heap[gm]?=some (.map #[] 0))(tg:cP gm=g):oS w cP g r (.map (some gm)) ([]:List (Int×α)):=
 .inr ⟨gm,0,[],rfl,tg,j,rfl,λi e z h=>mR h,λe h=>mR h,fH,fH⟩
section
variable{X X':Cx}{V V':CV}{c c':jn}{cv cv':lE}
def jy.Zp(h:jy w cP t p qb X V)(j:c∈X.a)(r)(nodes)(mi)(v2 n2)(gm)(A:Rd w cP (t+3) 5 v2 (r.ct.val.map B8))(F:Rd w cP (t+3) 3 n2 (nodes.map I))(H:w.heap[gm]?=some (.map #[] 0))(tg:cP gm=t+9+2*c.a):jy (lT w (qb c.gL) 17 [I r.kd,I r.ln,I r.nr,I r.ep,I r.pl,I r.ct.kd,I r.ct.cl,I r.ct.ca,v2,n2,.bool mi,.map (some gm)]) cP t p qb (X.put {c with q:=⟨r,nodes,mi,[]⟩}) V
 /\gI (λb=>Mc t (cP b)) w (lT w (qb c.gL) 17 [I r.kd,I r.ln,I r.nr,I r.ep,I r.pl,I r.ct.kd,I r.ct.cl,I r.ct.ca,v2,n2,.bool mi,.map (some gm)]):=by
 obtain⟨cv,k⟩:=h.r.f c j;have y:gI (λb=>b=qb c.gL) w (lT w (qb c.gL) 17 [I r.kd,I r.ln,I r.nr,I r.ep,I r.pl,I r.ct.kd,I r.ct.cl,I r.ct.ca,v2,n2,.bool mi,.map (some gm)]):=kD (S:=λb=>b=qb c.gL) (.inl rfl) _ 17 w (gI.refl _ w);have L:lS _ cP t (qb c.gL) {c with q:=⟨r,nodes,mi,[]⟩} {cv with q:=⟨v2,n2,.map (some gm)⟩}:=k.A y (lL _ 17 w _ k.hq) rfl k.ij k.d k.e ⟨A,F,oS.new H tg,λe=>mR e⟩;exact⟨h.call j (k.Ej y) L rfl rfl,h.I4 j (k.Ej y)⟩
def La{W W' h:World}{kd pl A F L ln j y:Int}(T:cP g<t\/t+32<=cP g)(Y:jy h cP t p qb X V)(Z:h.heap[g]?=some (ig #[I kd,I 0,I 0,I 0,I pl,I A,I F,I L,v] 100 (0,0)))(ho:gI (λb=>b=p) W' h)(hb:Bl W W'):Hid (jy (((h.setCell (U g 1) (I ln)).setCell (U g 2) (I j)).setCell (U g 3) (I y)) cP t p qb X V)/\Hid ((((h.setCell (U g 1) (I ln)).setCell (U g 2) (I j)).setCell (U g 3) (I y)).heap[g]?=some (ig #[I kd,I ln,I j,I y,I pl,I A,I F,I L,v] 100 (0,0)))/\Hid (gI (λb=>b=p\/b=g) W (((h.setCell (U g 1) (I ln)).setCell (U g 2) (I j)).setCell (U g 3) (I y))):=by
 have M:gI _ h (((h.setCell (U g 1) (I ln)).setCell (U g 2) (I j)).setCell (U g 3) (I y)):=(((gI.refl (λb=>b=g) h).setCell (U g 1) (.inl rfl) _).setCell (U g 2) (.inl rfl) _).setCell (U g 3) (.inl rfl) _;exact⟨Y.only M (λb _ e=>jf e T) ib,lL [I ln,I j,I y] 1 h [I kd,I 0,I 0,I 0,I pl,I A,I F,I L,v] Z,((gI.D hb).H (ho.L λ_ _ e=>.inl e)).H (M.L λ_ _ e=>.inr e)⟩
theorem PK(h:jy w cP t p qb X V)(ac:100<=t)(hc:c∈X.a)(ha:0<=X.gJ)(hb:X.gJ<=1000000000000000)(kd pl ck cl ca)(val nodes)(va na)(vc nc)(hv:Rd w cP (t+3) 5 (gK va val.length vc) (val.map B8))(hn:Rd w cP (t+3) 3 (gK na nodes.length nc) (nodes.map I)):iU 190 #[O p,O (qb c.gL),gK na nodes.length nc,Mr kd 0 0 0 pl ck cl ca (gK va val.length vc)] w λen w'=>en=iF/\CS w cP t p qb (X.mK c nodes kd pl ⟨ck,cl,ca,val⟩) w':=by
 obtain⟨cv,k⟩:=h.r.f c hc;obtain⟨W,hW⟩:=gG (w.alloc (ig #[I kd,I 0,I 0,I 0,I pl,I ck,I cl,I ca,gK va val.length vc] 100));have T:=(Bl.refl w).alloc (ig #[I kd,I 0,I 0,I 0,I pl,I ck,I cl,I ca,gK va val.length vc] 100);have hX:=ao w (ig #[I kd,I 0,I 0,I 0,I pl,I ck,I cl,I ca,gK va val.length vc] 100);rw[hW]at T hX;have HN:Hid (∀W',Bl W W'->_):=λW' a5=>uD (h.bl (fz:=ir cP w.heap.size 5) (T.H a5) λb hb=>gV _ _ _ _ hb) ha hb;obtain⟨H,Hk,Hv,Hn⟩:=kN h k hv hn;have a6:=h.A;have a0:=k.lt;obtain⟨a1,BW,HX⟩:=iI hW T hX;have lg:w.heap.size<W.heap.size:=(ae.1 hX).1;have a7:Hid (p≠w.heap.size):=nC;have a8:Hid (qb c.gL≠p):=λe=>by have:=k.hq;rw[e,h.hp]at this;simp at this
 have d5:=(h.bl (fz:=cP) T ib).cellAt 5 rfl;have d2:=(T.cell a0).H (k.cellAt 2 rfl);obtain⟨⟨q0,q1,q2,q3,q4,q5,q6,q7,q8⟩,A,_⟩:=xY hX;have f1:=A 1;have f2:=A 2;have f3:=A 3;have ad:=af a6 T.lt;have a2:=af a0 T.lt;clear h k hv hn hW T hX A;go_enter func190,ntmps190;go_upto_region 1 with fail;rw[a1.o];clear a1;go_cut[] λwx=>Hid (jy wx (ir cP w.heap.size 5) t p qb {X with gJ:=X.gJ+1} V)/\Hid (wx.heap[w.heap.size]?=some (ig #[I kd,I c.a,I (X.gJ+1),I X.b,I pl,I ck,I cl,I ca,gK va val.length vc] 100 (0,0)))/\Hid (gI (λb=>b=p\/b=w.heap.size) W wx)
 case first=>
  go_region_with(go_at_call 194;refine(HN _ ?hb).L ?_;(case hb=>exact jU);rintro en w2⟨rfl,F,y⟩;have e1:=(y.block w.heap.size lg (gM a7.o)).H HX;have z5:=F.cellAt 5 rfl;have z2:=(y.cell a2 a8).H d2;obtain⟨⟨y0,y1,y2,y3,_⟩,A,ly⟩:=xY e1;have g1:=A 1;have g2:=A 2;have g3:=A 3;have ag:=F.A;have ai:=af a2 y.size;obtain⟨a9,aa,ab⟩:=iI e1 F y;clear F y e1 A);all_goals(go_wp2_with fail;go_meet)
  all_goals exact La (.inl (by rw[jc _ _ _ _ jr];omega)) aa a9 ab jU
 case rest=>
  obtain⟨HC,HB,HO⟩:=hcut;obtain⟨⟨z0,z1,z2,z3,z4,z5,z6,z7,z8⟩,_,lz⟩:=xY HB;have HQ:=gN (qx wc na nodes.length nc kd c.a (X.gJ+1) X.b pl ck cl ca va val.length vc);have ak:=BW.lt;have al:=HO.size;clear q0 q1 q2 q3 q4 q5 q6 q7 q8 f1 f2 f3 d5 d2 HN HX;go_wp2_with fail;refine HQ.L ?_;rintro en w3⟨gm,rfl,am,a3,b3⟩;obtain⟨tag3,M⟩:∃tag3:Nat->Nat,tag3=λb=>if b=gm then t+9+2*c.a else ir cP w.heap.size 5 b:=⟨_,rfl⟩
  have j:∀b,b<w.heap.size->tag3 b=cP b:=λb hb=>by rw[M];show(if b=gm then _ else ir cP w.heap.size 5 b)=_;rw[az C,gV _ _ _ _ hb]
  have H3:jy w3 tag3 t p qb {X with gJ:=X.gJ+1} V:=((HC.bl b3 (fz:=ir cP w.heap.size 5) ib).pP λb hb h1 h2=>by
   rw[M];show(if b=gm then _ else ir cP w.heap.size 5 b)=_
   rw[az]
   intro e
   rw[e,jc _ _ _ _ C]at h1
   omega)
  have a4:tag3 gm=t+9+2*c.a:=om M;obtain⟨an,Y⟩:=H3.r.f c hc;have l3:=Y.lt;obtain⟨ap,aq,ar,au⟩:=Y.T 17 18 19 20 rfl;obtain⟨av,aw,aY,b0⟩:=Y.T 21 22 23 24 rfl;obtain⟨b1,b2,b4,b5⟩:=Y.T 25 26 27 28 rfl;obtain⟨b6,b7,b8,b9⟩:=Y.EO 17 18 19 20;obtain⟨ba,bb,bc,bd⟩:=Y.EO 21 22 23 24;obtain⟨be,bg,bi,bl⟩:=Y.EO 25 26 27 28;have oW:gI (λb=>b=p) w wc:=⟨HO.os.H BW.os,HO.tape.H BW.tape,HO.output.H BW.output,C,λi hi hs=>(HO.block i C C).H (BW.heap hi)⟩;have O3:=gN (oW.H (gI.D b3));have V3:Rd w3 tag3 (t+3) 5 (mP va val vc) (val.map B8):=Hv.only O3 (λb _ e=>by rw[e,H.tp];omega) (λb hb e=>by rw[j b hb];exact e);have N3:Rd w3 tag3 (t+3) 3 (mP na nodes nc) (nodes.map I):=Hn.only O3 (λb _ e=>by rw[e,H.tp];omega) (λb hb e=>by rw[j b hb];exact e);obtain⟨HF,Z⟩:=gO (H3.Zp (c:=c) hc ⟨kd,c.a,X.gJ+1,X.b,pl,⟨ck,cl,ca,val⟩⟩ nodes true (mP va val vc) (mP na nodes nc) gm V3 N3 a3 a4) j;clear HQ a3 b3 H3 Y HC HB HO oW V3 N3 j a4 M z0 z1 z2 z3 z4 z5 z6 z7 z8;go_wp2;go_end0;exact⟨rfl,tag3,Z,⟨V,HF.1⟩,((O3.L λb _ e=>by rw[e,H.tp];unfold Mc;omega).andThen HF.2 λb hb e=>by rwa[Z.o b hb]at e)⟩
end
structure oM(X:Cx):Prop where
 oE:oE X.n X.m X.vo X.ce=true
 ll:X.lay.length=X.n
 ne:∀ch∈X.lay,1<=ch.length/\ch.length<=3
 a0:0<=X.gJ
 a1:X.gJ<=1000000000000000
def oM.A{X:Cx}(h:oM X):1<=X.n/\X.n<=3/\1<=X.m/\X.m<=3/\1<=X.vo/\X.vo<=5/\1<=X.ce/\X.ce<=16:=by have:=h.oE;simp[Go.Proofs.YtbghhbpacijmmaaGreat.oE]at this;omega
def Cx.T(X:Cx)(a:Int):Prop:=0<=a/\a<X.n*X.ce
def oM.rC{X:Cx}(h:oM X)(j:X.T a):rC X.n X.m X.vo X.ce a=(a%X.n,a/X.n,0):=by unfold Go.Proofs.YtbghhbpacijmmaaGreat.rC;rw[aE h.oE,az (by have:=j.1;have:=j.2;omega)]
def oM.chain{X:Cx}(h:oM X)(a):∃j ch:_,(a%X.n=((j:Nat):Int))/\X.lay[j]?=some ch/\X.chain a=ch/\1<=ch.length/\ch.length<=3/\j<X.n:=by
 obtain⟨b1,_⟩:=h.A;have A:=dq a (show(X.n:Int)≠0 by omega);have F:=de a (show(0:Int)<X.n by omega);have y:(a%X.n).toNat<X.lay.length:=by rw[h.ll];omega
 refine⟨(a%X.n).toNat,X.lay[(a%X.n).toNat],C,ah y,?_,(h.ne _ (aL y)).1,(h.ne _ (aL y)).2,C⟩;unfold Cx.chain;simp_all
section
variable{X X':Cx}{V V':CV}{c c':jn}{cv cv':lE}
theorem zB(h:jy w cP t p qb X V)(hx:oM X)(hc:c∈X.a)(hA:X.T c.iA):iU 189 #[O p,O (qb c.gL)] w λen w'=>∃M T,en=gU (gK M (X.chain c.iA).length T)/\Bl w w'/\Rd w' cP (t+3) 3 (gK M (X.chain c.iA).length T) ((X.chain c.iA).map I):=by
 obtain⟨cv,k⟩:=h.r.f c hc;obtain⟨j,ch,hj,Y,e,_,_,a6⟩:=hx.chain c.iA;have HL:=gN λw=>mX X.n X.m X.vo X.ce c.iA w;rw[hx.rC hA,hj]at HL;rw[e];obtain⟨g,a3,cap,f,Z,a5,a7,tg,hg,A⟩:=h.r.lay;obtain⟨x,a0,F⟩:=A j ch Y;obtain⟨M,T,a1⟩:=F.D;rw[ay]at a1;subst a1;have cg:w.cell? (U g j)=some (mP M ch T):=by rw[ax w g j a3 24 f hg];exact a0
 have lg:=(ae.1 hg).1;obtain⟨c0,c1,c2⟩:=h.QI 0 1 2 rfl;obtain⟨c3,c6⟩:=h.R 3 6 rfl;rw[Z,hx.ll]at c6;have e3:=k.cellAt 3 rfl;have lp:=h.A;have lq:=k.lt;have HX:=gN F;have a8:(0:Int)<=(j:Int):=C;have a9:(j:Int)<(X.n:Int):=C;generalize qb c.gL=q at*;clear h k hx a0 F A hg hj Y e Z;unfold Ot at HL;go_enter func189,ntmps189;go_upto_region 1 with fail;go_cut[5,6,7] λy y2 y3 wx=>y=I j/\(∃i:Int,y2=I i)/\(∃i:Int,y3=I i)/\Hid (Bl w wx)
 case first=>
  go_region_held3(λW=>W.cell? (U p 0)=some (I X.n)/\W.cell? (U p 1)=some (I X.m)/\W.cell? (U p 2)=some (I X.vo)/\W.cell? (U p 3)=some (I X.ce)/\W.cell? (U q 3)=some (I c.iA)) (go_keep) (first|(go_at_call 88;refine gS (HL _) λw2 a2=>?_;have hB:Bl w w2:=Bl.H jU a2;obtain⟨z0,z1,z2,z3⟩:=hB.N lp c0 c1 c2 c3;have z4:=(hB.cell lq).H e3;have a4:=gN hB;clear a2 hB));all_goals(go_wp2_with fail;go_meet)
  all_goals exact⟨rfl,⟨_,rfl⟩,⟨_,rfl⟩,a4⟩
 case rest=>obtain⟨rfl,⟨i2,rfl⟩,⟨i3,rfl⟩,L⟩:=hcut;have d6:=(L.cell lp).H c6;have dg:=(L.cell lg).H cg;have aa:=af lp L.lt;have ab:=af lg L.lt;clear c0 c1 c2 c3 c6 e3 cg;go_wp2;go_ret;exact⟨M,T,rfl,L,HX.bl L λ_ _ e=>e⟩
def CS.UM{nodes:List Int}{kd pl:Int}{ct:Ct}(j:CS w cP t p qb (X.mK c nodes kd pl ct) w')(y:c∈X.a):w'.cell? (U (qb c.gL) 3)=some (I c.iA):=by
 obtain⟨fz,_,⟨V,h⟩,_⟩:=j;obtain⟨cv,k⟩:=h.r.f {c with q:=Qn.new nodes ⟨kd,c.a,X.gJ+1,X.b,pl,ct⟩} (by exact aD.2 ⟨c,y,bz⟩)
 exact k.cellAt 3 rfl
theorem SQ(h:jy w cP t p qb X V)(A:100<=t)(hx:oM X)(hc:c∈X.a)(hA:X.T c.iA):iU 150 #[O p,O (qb c.gL)] w λen w'=>en=iF/\CS w cP t p qb (X.qI c) w':=by
 obtain⟨cv,k⟩:=h.r.f c hc;have HC:Hid (∀W,Bl w W->_):=λW hW=>zB (h.bl hW (fz:=cP) ib) hx hc hA;have HA:Hid (∀W,Bl w W->∀F M,Rd W cP (t+3) 3 (gK F (X.chain c.iA).length M) ((X.chain c.iA).map I)->_):=λW hW F M hr=>PK (h.bl hW (fz:=cP) ib) A hc hx.a0 hx.a1 3 c.iA 0 0 0 [] (X.chain c.iA) none F 0 M Rd.nil hr;have e3:=k.cellAt 3 rfl;have lq:=k.lt;have hX:Hid (X.qI c=X.mK c (X.chain c.iA) 3 c.iA ⟨0,0,0,[]⟩):=rfl;simp only[dA]at HA;have HZ:Hid (∀W {w0:World},CS w0 cP t p qb (X.mK c (X.chain c.iA) 3 c.iA ⟨0,0,0,[]⟩) W->W.cell? (U (qb c.gL) 3)=some (I c.iA)):=λW w0 T=>T.UM hc;generalize qb c.gL=q at*;generalize X.chain c.iA=ch at*;clear h k hx;go_enter func150,ntmps150;go_region_held3(λW=>W.cell? (U q 3)=some (I c.iA)) (go_keep) (first|(go_at_call 189;refine(HC _ ?hb).L ?_;(case hb=>exact jU);rintro en w2⟨F,M,rfl,Y,Z⟩;have hB:Bl w w2:=Bl.H jU Y;have z4:=(hB.cell lq).H e3;obtain⟨j,y⟩:=gO hB Z;clear Y hB Z)|(go_at_call 190;refine(HA _ ?hb F M ?hr).L ?_;(case hb=>first|exact j.o|exact j.drew|exact j.drewN _);(case hr=>first|exact y.o|exact y.bl (jZ.drew) (λ_ _ e=>e)|exact y.bl (jZ.drewN _) λ_ _ e=>e);rintro en w3⟨rfl,T⟩;have z5:=HZ _ T;have HS:=gN T;clear T));all_goals go_wp2
 all_goals go_end0
 all_goals(refine⟨rfl,?_⟩;rw[hX.o];exact CS.M (by first|exact j.o|exact j.drew|exact j.drewN _) HS)
end
section
variable{X X':Cx}{V V':CV}{c c':jn}{cv cv':lE}
def CS.BL(A:Bl w w1)(F:∀b,b<w.heap.size->fz b=cP b)(h:CS w1 fz t p qb X w'):CS w cP t p qb X w':=by obtain⟨y,L,M,T⟩:=h;exact⟨y,λb j=>(L b (af j A.lt)).H (F b j),M, ((gI.D A).andThen T λb j e=>by rwa[F b j]at e)⟩
def MV(h:jy w cP t p qb X V)(F:oM X)(H:c∈X.a)(M:X.T c.iA)(k)(T:k<(X.chain c.iA).length):iU 189 #[O p,O (qb c.gL)] w λy w'=>∃b o A,y=gU (gK (some (U b o)) (X.chain c.iA).length A)/\Bl w w'/\b<w'.heap.size/\w'.cell? (U b (o+k))=some (I ((X.chain c.iA).getD k 0)):=by
 refine(zB h F H M).L ?_;rintro y w'⟨na,A,rfl,W,Y⟩;obtain⟨b,o,cc,e,Z,_,_,j⟩:=Y.cell (by rw[ay];omega);rw[ay]at e;obtain⟨rfl,rfl⟩:=e;exact⟨b,o,_,rfl,W,Z,j k _ (by rw[aK,aS,ah T];rfl)⟩
theorem wD(h:jy w cP t p qb X V)(Z:100<=t)(hx:oM X)(hc:c∈X.a)(hA:X.T c.iA)(a5:c.b<(X.chain c.iA).length):iU 149 #[O p,O (qb c.gL)] w λen w'=>en=iF/\CS w cP t p qb (X.lK c) w':=by
 obtain⟨cv,T⟩:=h.r.f c hc;obtain⟨va,vc,F⟩:=T.d.D;rw[ay]at F;have A:=T.d;rw[F]at A;have HC:Hid (∀W,Bl w W->_):=λW hW=>MV (h.bl hW (fz:=cP) ib) hx hc hA c.b a5;have HK:Hid (∀W,Bl w W->∀g,w.heap.size<=g->W.heap[g]?=some (ig #[I ((X.chain c.iA).getD c.b 0)] 3 (0,0))->_):=λW hW g hg a6=>PK (h.bl hW (fz:=ir cP w.heap.size (t+3)) λb hb=>gV _ _ _ _ hb) Z hc hx.a0 hx.a1 2 c.iA c.d.kd c.d.cl c.d.ca c.d.val [(X.chain c.iA).getD c.b 0] va (G g) vc 1 (A.bl hW λb hb e=>by rw[gV _ _ _ _ hb];exact e) (.inr ⟨g,0,1,_,_,rfl,jc _ _ _ _ hg,a6,bz,bT,λj x hj=>je hj⟩);simp only[dD]at HK;obtain⟨a0,e3,e9⟩:=T.QI 13 3 9 rfl;obtain⟨a1,a2,M⟩:=T.QI 10 11 12 rfl;rw[F]at M;have lq:=T.lt;have hX:Hid (X.lK c=X.mK c [(X.chain c.iA).getD c.b 0] 2 c.iA ⟨c.d.kd,c.d.cl,c.d.ca,c.d.val⟩):=rfl;have aa:(0:Int)<=(c.b:Int):=C;have ab:(c.b:Int)<((X.chain c.iA).length:Int):=C;generalize qb c.gL=q at*;generalize a7:X.chain c.iA=ch at*;generalize ch.getD c.b 0=u at*;clear h T A a7 hx;go_enter func149,ntmps149;go_upto_region 0 with fail;go_cut[4] λy wx=>y=I u/\Hid (Bl w wx)
 case first=>
  go_region_with(first|(go_at_call 189;refine(HC _ ?hb).L ?_;(case hb=>exact jU);rintro en w2⟨b2,o2,ac,rfl,a3,ad,z5⟩;have hB:Bl w w2:=Bl.H jU a3;have z4:=(hB.cell lq).H a0;have a8:=gN hB;clear a3 hB));all_goals(go_wp2_with fail;go_meet)
  all_goals exact⟨rfl,a8⟩
 case rest=>
  obtain⟨rfl,Y⟩:=hcut;obtain⟨d3,d9,ag⟩:=Y.M lq e3 e9 a1;obtain⟨ai,ak⟩:=Y.D lq a2 M;have al:=af lq Y.lt;have lw:=Y.lt;clear e3 e9 a1 a2 M a0 HC;go_upto_region 1 with fail;go_region_with(first|(go_at_call 190;refine(HK _ (Y.H ?hb) _ ?hl ?hg).L ?_;(case hb=>exact nH);(case hg=>first|exact ao _ _|exact ao wc.drew _|exact ao (wc.drewN _) _);(case hl=>first|omega|(simp;omega));rintro en w3⟨rfl,a4⟩;have a9:=gN (CS.BL (cP:=cP) (Y.H (by exact nH)) (λb hb=>gV _ _ _ _ hb) a4);clear a4));all_goals
   go_wp2;go_end0;refine⟨rfl,?_⟩;rw[hX.o];exact a9
end
def Tryz.De:Go.Shelf.Ren:=⟨fun|7=>237|10=>267|n=>n,fun|23=>98|26=>3|3=>163|28=>326|0=>0|27=>325|33=>131|4=>4|n=>n,fun|n=>n⟩
def Tryz.Vu:Go.Proofs.SlLaysZI.n7 prog Tryz.De:={
 mixed:=by kernel_rfl
 f7:=⟨Tryz.f237.name,by decide,func237.trans (congrArg some (by kernel_rfl))⟩
 f10:=⟨Tryz.f267.name,by decide,func267.trans (congrArg some (by kernel_rfl))⟩
 t0:=underlying0
 a0:=Tryz.isAgg0
 z0:=Tryz.sizeOf0
 v0:=Tryz.zeroValue0
 t4:=underlying4
 a4:=Tryz.isAgg4
 z4:=Tryz.sizeOf4
 v4:=Tryz.zeroValue4
 t23:=underlying98
 a23:=Tryz.isAgg98
 z23:=Tryz.sizeOf98
 v23:=Tryz.zeroValue98
 t26:=underlying3
 a26:=Tryz.isAgg3
 z26:=Tryz.sizeOf3
 v26:=Tryz.zeroValue3
 t27:=underlying325
 a27:=Tryz.isAgg325
 z27:=Tryz.sizeOf325
 v27:=Tryz.zeroValue325
 t28:=underlying326
 a28:=Tryz.isAgg326
 z28:=Tryz.sizeOf326
 v28:=Tryz.zeroValue326
 t33:=underlying131
 a33:=Tryz.isAgg131
 z33:=Tryz.sizeOf131
 v33:=Tryz.zeroValue131}
def Tryz.yR:Go.Shelf.Ren:=⟨fun|6=>236|8=>266|9=>95|11=>286|13=>157|12=>156|23=>205|24=>206|14=>196|15=>197|16=>198|17=>199|18=>200|19=>201|20=>202|21=>203|22=>204|25=>238|26=>239|27=>240|28=>241|29=>242|30=>243|31=>268|n=>n,fun|26=>3|28=>326|24=>24|0=>0|3=>3|37=>144|48=>283|50=>285|4=>4|40=>277|39=>276|45=>140|5=>5|9=>9|51=>328|55=>332|57=>356|58=>357|33=>131|n=>n,fun|n=>n⟩
def Tryz.UZ:Go.Proofs.SlLaysZI.n6 prog Tryz.yR:={
 mixed:=by kernel_rfl
 f6:=⟨Tryz.f236.name,by decide,func236.trans (congrArg some (by kernel_rfl))⟩
 f8:=⟨Tryz.f266.name,by decide,func266.trans (congrArg some (by kernel_rfl))⟩
 f11:=⟨Tryz.f286.name,by decide,func286.trans (congrArg some (by kernel_rfl))⟩
 t0:=underlying0
 a0:=Tryz.isAgg0
 z0:=Tryz.sizeOf0
 v0:=Tryz.zeroValue0
 t24:=underlying24
 a24:=Tryz.isAgg24
 z24:=Tryz.sizeOf24
 v24:=Tryz.zeroValue24
 t26:=underlying3
 a26:=Tryz.isAgg3
 z26:=Tryz.sizeOf3
 v26:=Tryz.zeroValue3
 t28:=underlying326
 a28:=Tryz.isAgg326
 z28:=Tryz.sizeOf326
 v28:=Tryz.zeroValue326
 i26:=by kernel_rfl}
def Tryz.NT:Go.Shelf.Ren:=⟨fun|4=>265|n=>n,fun|22=>24|25=>3|3=>3|4=>4|9=>9|20=>20|0=>0|n=>n,fun|n=>n⟩
def Tryz.YL:Go.Proofs.Lays8.n4 prog Tryz.NT:={
 mixed:=by kernel_rfl
 f4:=⟨Tryz.f265.name,by decide,func265.trans (congrArg some (by kernel_rfl))⟩
 t0:=underlying0
 a0:=Tryz.isAgg0
 z0:=Tryz.sizeOf0
 v0:=Tryz.zeroValue0
 t3:=underlying3
 a3:=Tryz.isAgg3
 z3:=Tryz.sizeOf3
 v3:=Tryz.zeroValue3
 t4:=underlying4
 a4:=Tryz.isAgg4
 z4:=Tryz.sizeOf4
 v4:=Tryz.zeroValue4
 t9:=underlying9
 a9:=Tryz.isAgg9
 z9:=Tryz.sizeOf9
 v9:=Tryz.zeroValue9
 t20:=underlying20
 a20:=Tryz.isAgg20
 z20:=Tryz.sizeOf20
 v20:=Tryz.zeroValue20
 t22:=underlying24
 a22:=Tryz.isAgg24
 z22:=Tryz.sizeOf24
 v22:=Tryz.zeroValue24}
def RA(k:Nat)(w)(W:0<k)(Y:k<=100):iU 265 #[OO,I k] w λe w'=>∃g cap,e=gU (gK (G g) 0 cap)/\w'.ownsRow w.heap.size 3 1 (gK (G g) 0 cap) 0 []/\Bl w w':=by
 obtain⟨T,V,h,y,A⟩:=fx Tryz.tJ;refine(Any8.slices_Grow_grow Tryz.YL T (I 0) V h (qH y) none 0 0 k [] w C C (qD A) C bz (λ_=>rfl) λa e=>mR e).L ?_;rintro e w'⟨rfl,rfl⟩;refine⟨_,_,rfl,?_,(jZ.drew).alloc _⟩;have F:=grownCap_ge w (0+k) 0 3;have H:=grownCap_le_maxLen w (0+k) 0 3 (by unfold maxLen;omega);refine⟨rfl,.inr ⟨w.heap.size,_,_,rfl,jr,ao w.drew _,jR,H,?_,bz⟩⟩;have M:∀j,(Builtin.zeroCells (I 0).cells j).size=j:=λj=>by rw[size_zeroCells];exact Nat.mul_one j
 change (#[]++Builtin.zeroCells (I 0).cells (0+k-0)++Builtin.zeroCells (I 0).cells (grownCap w (0+k) 0 3-(0+k))).size=grownCap w (0+k) 0 3*1;rw[Array.size_append,Array.size_append,M,M];simp;simp at F;omega
def tk(lay:List (List Int))(j:Nat):List Int:=(lay.take j).flatten
def zt{lay:List (List Int)}{j:Nat}{ch:List Int}(h:lay[j]?=some ch):tk lay (j+1)=tk lay j++ch:=by unfold tk;rw[cW,h];simp
theorem IQ{lay:List (List Int)}(h:∀ch∈lay,ch.length<=3)(j):(tk lay j).length<=3*j:=by
 induction j with
 |zero=>simp[tk]
 |succ j y=>
  cases e:lay[j]? with
  |none=>
   have:tk lay (j+1)=tk lay j:=by unfold tk;rw[cW,e];simp
   rw[this];omega
  |some ch=>have:=h ch (aR e);rw[zt e,aO];omega
def OK(lay):tk lay lay.length=kB lay:=by unfold tk kB;rw[bZ]
theorem Jt{lay:List (List Int)}(h:qh w cP tc v lay)(n1:1<=lay.length)(n3:lay.length<=3)(V:∀ch∈lay,1<=ch.length/\ch.length<=3):iU 235 #[v] w λe w'=>∃g cap,e=gU (gK (G g) (kB lay).length cap)/\w'.ownsRow w.heap.size 3 1 (gK (G g) (kB lay).length cap) (kB lay).length ((kB lay).map I)/\Bl w w':=by
 obtain⟨i3,ji,ab,ac,ad⟩:=fx Tryz.tJ;obtain⟨g,ag,cap,f,rfl,_,_,tg,hg,hx⟩:=h;have lg:=(ae.1 hg).1;have M:Hid (∀j:Nat,j<lay.length->∃b o c ch,lay[j]?=some ch/\1<=ch.length/\ch.length<=3/\w.cell? (U g j)=some (gK (some (U b o)) ch.length c)/\b<w.heap.size/\∀k u,(ch.map I)[k]?=some u->w.cell? (U b (o+k))=some u):=λj hj=>by have hc:=V _ (aL hj);obtain⟨x,h1,h2⟩:=hx j lay[j] (ah hj);obtain⟨b,o,c,rfl,lb,_,_,a0⟩:=h2.cell ik;rw[ay]at h1;exact⟨b,o,c,lay[j],ah hj,hc.1,hc.2,by rw[ax w g j ag 24 f hg];exact h1,lb,λk u hk=>a0 k u hk⟩
 have a3:=IQ (λch hc=>(V ch hc).2) lay.length;rw[OK]at a3;have a4:0<(kB lay).length:=by
  obtain⟨b,o,c,ch,y,a1,_⟩:=M 0 n1;unfold kB;rw[List.length_flatten]
  cases lay with
  |nil=>simp at n1
  |cons x l=>simp at y;subst y;simp;omega
 obtain⟨HG,HT⟩:=gO (λw=>RA (kB lay).length w a4 C) (IQ (lay:=lay) λch hc=>(V ch hc).2);generalize hn:lay.length=n at*;have HN:=gN hn;clear hx hg hn V;go_enter func235,ntmps235;go_wp2;go_loop[3,11] (λs i=>∃j:Nat,j<=n/\i=I j/\s=I ((tk lay j).length:Nat)) λ_ i=>n-(Go.RowKit.intOf i).toNat
 case atStart=>exact⟨0,jR,rfl,by simp[tk]⟩
 obtain⟨j,hj,rfl,rfl⟩:=hrel;by_cases jt:j<n
 .obtain⟨b,o,c,ch,y,a1,ai,h1,lb,h2⟩:=M j jt;have b0:=HT j;have hs:(tk lay (j+1)).length=(tk lay j).length+ch.length:=by rw[zt y,aO]
  have a5:(j:Int)<(n:Int):=C;generalize (tk lay j).length=jm at*;have Hs:=gN hs;clear hs h2 y;go_wp2;go_round
  case rel=>exact⟨j+1,C,iq,by rw[Hs.o];go_num⟩
  exact iD
 have ak:j=n:=C;subst ak;have a6:tk lay j=kB lay:=by rw[<-HN.o];exact OK lay
 rw[a6];go_wp2_with fail;refine(HG _).L ?_;rintro e w1⟨g1,a7,rfl,a8,a9⟩;obtain⟨al,am⟩:=gO a8 a9;clear a8 a9 HG;go_wp2;go_loopw[6,27](λd i wr=>∃k:Nat,k<=j/\i=I k/\(∃g2 A,d=gK (G g2) (tk lay k).length A/\Hid (wr.ownsRow w.heap.size 3 1 (gK (G g2) (tk lay k).length A) (tk lay k).length ((tk lay k).map I)))/\Hid (Bl w wr)) λ_ i _=>j-(Go.RowKit.intOf i).toNat
 case atStart=>exact⟨0,jR,rfl,⟨g1,a7,by simp[tk],by unfold Hid;simpa [tk]using al.o⟩,am⟩
 obtain⟨k,hk,rfl,⟨g2,A,rfl,W⟩,F⟩:=hrel;by_cases jt:k<j
 .obtain⟨b,o,c,ch,y,a1,ai,h1,lb,h2⟩:=M k jt;have b1:=HT k;have Hs:Hid ((tk lay (k+1)).length=(tk lay k).length+ch.length):=by unfold Hid;rw[zt y,aO]
  have Hr:Hid ((tk lay k).map I++ch.map I=(tk lay (k+1)).map I):=by unfold Hid;rw[zt y,aZ]
  have a5:(k:Int)<(j:Int):=C;have d1:=(F.cell lg).H h1;have b2:=af lg F.lt;have an:=F.lt;have a2:Hid (∀i u,(ch.map I)[i]?=some u->wr.cell? (((U b o):Addr).add i)=some u):=λi u hu=>by rw[nW,F.cell lb];exact h2 i u hu
  have aa:Hid (∀u∈(ch.map I),u.oneCell'=true):=λu hu=>by obtain⟨i,_,rfl⟩:=aD.1 hu;rfl
  have ap:Hid ((tk lay k).length+ch.length<=maxLen):=nZ;have aq:Hid (((tk lay k).length+ch.length)*8<=140737488355328):=nC;clear h2 h1 y;go_wp2_with(at_builtin;refine fm _ rfl _ _ 24 rfl w.heap.size 3 i3 (I 0) 1 8 underlying24 ji ab ac ad rfl bT _ (tk lay k).length _ rfl W (U b o) ch.length c _ rfl bz a2 aa a1 ap aq an wr.heap.size rfl ?_);intro g' Y w3 Z T ar aY;have au:Hid (Bl w w3):=F.A (gI.A T) λb e=>(W.lt b e.symm).1;have av:Hid (w3.ownsRow w.heap.size 3 1 (gK (G g') (tk lay (k+1)).length Y) (tk lay (k+1)).length ((tk lay (k+1)).map I)):=by unfold Hid;rw[<-Hr.o,Hs.o];exact Z
  clear Z T ar;go_wp2;go_roundw
  case rel=>exact⟨k+1,C,iq,⟨g',Y,mT Hs.o,av⟩,au⟩
  exact iD
 have aw:k=j:=C;subst aw;rw[a6]at W|-;go_wp2;go_ret;exact⟨g2,A,rfl,W,F⟩
theorem Eb{lay:List (List Int)}(h:qh w cP tc v lay)(y:1<=lay.length)(A:lay.length<=3)(j:∀ch∈lay,1<=ch.length/\ch.length<=3):iU 191 #[v] w λe w'=>∃g cap,e=gU (gK (G g) (kB lay).length cap)/\w'.ownsRow w.heap.size 3 1 (gK (G g) (kB lay).length cap) (kB lay).length ((kB lay).map I)/\Bl w w':=by
 have H:=gN (Jt h y A j);go_enter func191,ntmps191;go_wp2_with(refine H.L ?_;rintro e T⟨g,cap,rfl,F,L⟩;have M:=gN L);go_ret;exact⟨g,_,rfl,(gN F).o,M⟩
def Cx.Dz(X:Cx){c1 c2:jn}(h:c1.gL=c2.gL):(X.put c1).put c2=X.put c2:=by
 unfold Cx.put;simp only[br];congr 1;refine bf λx _=>?_;show(if(if x.gL=c1.gL then c1 else x).gL=c2.gL then c2 else(if x.gL=c1.gL then c1 else x))=if x.gL=c2.gL then c2 else x
 by_cases e:x.gL=c1.gL;all_goals simp_all
def Cx.Uj(X:Cx)(c)(nodes)(kd pl)(ct):(X.put c).mK c nodes kd pl ct=X.mK c nodes kd pl ct:=by show(({X with gJ:=X.gJ+1}:Cx).put c).put _=({X with gJ:=X.gJ+1}:Cx).put _;exact Cx.Dz _ rfl
def oM.put{X:Cx}(h:oM X)(c):oM (X.put c):=⟨h.oE,h.ll,h.ne,h.a0,h.a1⟩
def rL(l):∀x∈(ie l).toList,MapKept.IsKey (.int .i64) x.key:=by intro x h;simp[ie]at h;obtain⟨e,_,rfl⟩:=h;exact rfl
def my{l:List Ae}(h:x∈(ie l).toList):∃e∈l,x=e.A:=by simp[ie]at h;obtain⟨e,j,rfl⟩:=h;exact⟨e,j,rfl⟩
def VG{l1 l2:List Ae}{e:Ae}(M:∀x∈l1,x.k≠e.k)(A:∀x∈l2,x.k≠e.k):Instr.findNow (.int .i64) (.int .i64 e.k) (ie (l1++e::l2)).toList 0=some (some (l1.length,e.v)):=by
 have H:(ie (l1++e::l2)).toList=l1.map Ae.A++e.A::l2.map Ae.A:=by simp[ie]
 obtain⟨_,h⟩|⟨j,x,T,h,L⟩:=ZR (d:= .int .i64) (k:= .int .i64 e.k) rfl (ie (l1++e::l2)).toList 0 (rL _)
 .exact absurd rfl (h e.A (om H))
 rw[H]at h;have hj:j=l1.length:=by
  obtain hj|hj|hj:=fh j l1.length
  .exfalso;rw[aB (je hj),aK]at h;obtain⟨y,F,rfl⟩:=bN.1 h;exact M y (aR F) (by simpa [Ae.A]using L)
  .exact hj
  exfalso;rw[aC ik,ay,show j-l1.length=(j-l1.length-1)+1 by omega,dx,aK]at h;obtain⟨y,F,rfl⟩:=bN.1 h;exact A y (aR F) (by simpa [Ae.A]using L)
 subst hj;rw[aC bz]at h;simp at h;subst h;rw[T];simp[Ae.A]
def Re(l1 l2)(e):(ie (l1++e::l2)).eraseIdxIfInBounds l1.length=ie (l1++l2):=by simp[ie,List.eraseIdx_append_of_length_le]
def PA{bm:Nat}{l1 l2:List Ae}{e:Ae}(ty)(j:w.heap[bm]?=some (.map (ie (l1++e::l2)) iC))(y:∀x∈l1,x.k≠e.k)(h:∀x∈l2,x.k≠e.k):(Builtin.delete_ #[98,3] ty #[.map (some bm),.int .i64 e.k]).run prog w=.ok (.tuple #[]) (setBlock w bm (.map (ie (l1++l2)) iC)):=by
 have A:=fa (w:=w) underlying3 (VG y h);have F:=eW (P:=prog) (w:=w) (k:= .int .i64 e.k) underlying3 vN (ie (l1++e::l2)).isEmpty 9999;simp[Builtin.delete_,Sem.run_bind,aI j,F,A,Z7 _ j,setBlock,Re]
def tI.set{gg len cap:Nat}{rs:List Rz}(h:tI w cP gg t (gK (G g) len cap) rs)(A:gg≠t)(H:rs.length=len)(i)(V:i<rs.length)(r)(s)(W:Rd w cP t 5 s (r.val.map B8)):tI (((w.setCell (U g (i*3)) (I r.wh)).setCell (U g (i*3+1)) (I r.ad)).setCell (U g (i*3+2)) s) cP gg t (gK (G g) len cap) (rs.set i r):=by
 obtain⟨xs,F,L,Y⟩:=h;rw[H]at F;obtain⟨Z,g1⟩:=F.stored (i*3) (I r.wh);obtain⟨k2,g2⟩:=Z.stored (i*3+1) (I r.ad);obtain⟨k3,g3⟩:=k2.stored (i*3+2) s;have a0:xs.length=len*3:=F.1;have M:gI (λb=>b=g) w (((w.setCell (U g (i*3)) (I r.wh)).setCell (U g (i*3+1)) (I r.ad)).setCell (U g (i*3+2)) s):=(((gI.refl (λb=>b=g) w).setCell (U g _) (.inl rfl) _).setCell (U g _) (.inl rfl) _).setCell (U g _) (.inl rfl) _;have T:∀b,b<w.heap.size->b=g->cP b≠t:=λb _ e=>by rw[e,L g rfl];exact A
 refine⟨((xs.set (i*3) (I r.wh)).set (i*3+1) (I r.ad)).set (i*3+2) s,by rw[bK,H];exact k3,L,λj r' y=>?_⟩;by_cases e:j=i
 .subst e;rw[aQ V]at y;simp only[aJ]at y;subst y;refine⟨?_,?_,s,?_,W.only M T λ_ _ e=>e⟩
  .rw[aH C,aH C,cN,aQ C]
  .rw[aH C,cN,aQ ik]
  rw[cN,aQ ik]
 rw[aH (Ne.symm e)]at y;obtain⟨y1,y2,s',y3,y4⟩:=Y j r' y;refine⟨?_,?_,s',?_,y4.only M T λ_ _ e=>e⟩
 .rw[aH C,aH C,aH C];exact y1
 .rw[aH C,aH C,aH C];exact y2
 rw[aH C,aH C,aH C];exact y3
section
variable{X X':Cx}{V V':CV}{c c':jn}{cv cv':lE}
def jy.reR(h:jy w cP t p qb X V){rs:List Rz}(j:gI (λb=>cP b=t+2) w w1)(L:tI w1 cP (t+2) (t+3) V.rv rs)(M:rs.length=X.e.length):jy w1 cP t p qb {X with e:=rs} V:=by
 have y:∀b,b<w.heap.size->cP b=cP b:=λ_ _=>rfl;have A:∀b,b<w.heap.size->cP b=t+2->cP b≠t+3:=λb _ e=>C;refine⟨(j.block p h.A λe=>by have:=h.tp;omega).H h.hp,h.tp,h.r.lay.only j A λ_ _ e=>e,L,h.r.tb,(j.block _ h.r.lb λe=>by have:=h.r.tb;omega).H h.r.mp,h.r.bo,h.r.bn,h.r.pr.only j A (λb _ e=>C) y,h.r.sl.only j A (λb _ e=>C) y,h.r.vt.only j A (λb _ e=>C) y,h.r.bg.only j (λb _ e=>C) y,h.r.b.only j A λ_ _ e=>e,λd F=>?_,h.r.a.gL,λd F=>?_,h.r.a.a,h.r.a.A⟩
 .obtain⟨T,W⟩:=h.r.f d F;exact⟨T,W.only j (λb _ e=>C) y⟩
 show d.gL<rs.length;rw[M];exact h.r.a.lt d F
def JJ(j:X.a.Pairwise λc d=>c.gL<d.gL)(F:c∈X.a):∃l1 l2,X.a=l1++c::l2/\(∀d∈l1,d.gL≠c.gL)/\(∀d∈l2,d.gL≠c.gL)/\X.a.filter (λd=>d.gL !=c.gL)=l1++l2:=by
 obtain⟨l1,l2,e⟩:=fe F;rw[e]at j;have y:∀d∈l1,d.gL≠c.gL:=λd h=>by have:=(cu.1 j).2.2 d h c aN;omega
 have A:∀d∈l2,d.gL≠c.gL:=λd h=>by have:=(cI.1 (cu.1 j).2.1).1 d h;omega
 refine⟨l1,l2,e,y,A,?_⟩;rw[e,cz,cT];simp only[bne_self_eq_false,fg,if_false];rw[eD.2 λd h=>by simpa using y d h,eD.2 λd h=>by simpa using A d h]
def jy.Ze(h:jy w cP t p qb X V)(T:c∈X.a):∃l1 l2,X.a=l1++c::l2/\(∀d∈l1,d.gL≠c.gL)/\(∀d∈l2,d.gL≠c.gL)/\jy (setBlock w V.bm (.map (ie (l1.map (kU qb V.bo)++l2.map (kU qb V.bo))) V.iC)) cP t p qb {X with a:=X.a.filter λd=>d.gL !=c.gL} V/\gI (λb=>b=V.bm) w (setBlock w V.bm (.map (ie (l1.map (kU qb V.bo)++l2.map (kU qb V.bo))) V.iC)):=by
 obtain⟨l1,l2,e,W,Y,Z⟩:=JJ h.r.a.gL T;have j:gI (λb=>b=V.bm) w (setBlock w V.bm (.map (ie (l1.map (kU qb V.bo)++l2.map (kU qb V.bo))) V.iC)):=kS _ _ _;have tb:=h.r.tb;have F:∀b,b<w.heap.size->cP b=cP b:=λ_ _=>rfl;have L:∀b,b<w.heap.size->b=V.bm->cP b≠t+3:=λb _ e=>qD e;have y:∀d,d∈X.a.filter (λd=>d.gL !=c.gL)->d∈X.a:=λd A=>(aU.1 A).1;have M:=h.r.bn;refine⟨l1,l2,e,W,Y,⟨(j.block p h.A λe=>by have:=h.tp;rw[e]at this;omega).H h.hp,h.tp,h.r.lay.only j L λ_ _ e=>e,h.r.e.only j L (λb _ e=>qD e) F,h.r.tb,?_,λd A=>h.r.bo d (y d A),?_,h.r.pr.only j L (λb _ e=>qD e) F,h.r.sl.only j L (λb _ e=>qD e) F,h.r.vt.only j L (λb _ e=>qD e) F,h.r.bg.only j (λb _ e=>qD e) F,h.r.b.only j L λ_ _ e=>e,λd A=>?_,?_,λd A=>h.r.a.lt d (y d A),?_,λd A=>h.r.a.A d (y d A)⟩,j⟩
 .show(setBlock w V.bm _).heap[V.bm]?=some (.map (ie ((X.a.filter λd=>d.gL !=c.gL).map (kU qb V.bo))) V.iC);rw[ou h.r.lb,Z,aZ]
 .show((X.a.filter λd=>d.gL !=c.gL).map λc=>V.bo c.gL).Nodup;exact M.sublist (List.Sublist.map _ cE)
 .obtain⟨dv,hk⟩:=h.r.f d (y d A);exact⟨dv,hk.only j (λb _ e=>qD e) F⟩
 .exact h.r.a.gL.sublist cE
 exact h.r.a.a.sublist cE
theorem Lw(h:jy w cP t p qb X V)(hc:c∈X.a)(r:Rz)(Y:Option Addr)(Z:Nat)(hs:Rd w cP (t+3) 5 (gK Y r.val.length Z) (r.val.map B8)):iU 96 #[O p,O (qb c.gL),.agg #[I r.wh,I r.ad,gK Y r.val.length Z]] w λen w'=>en=iF/\CS w cP t p qb (X.fin c r) w'/\gI (λb=>cP b=t+1\/cP b=t+2) w w':=by
 obtain⟨cv,hk⟩:=h.r.f c hc;have hl:=h.r.a.lt c hc;obtain⟨W,hW⟩:=gG (w.alloc (ig (Sx r Y Z) 43));have bW:=(Bl.refl w).alloc (ig (Sx r Y Z) 43);have hX:=ao w (ig (Sx r Y Z) 43);rw[hW]at bW hX;have y:=h.bl bW (fz:=cP) ib;have a0:=hs.bl bW (fz:=cP) λ_ _ e=>e;obtain⟨xs,A,h2,h3⟩:=y.r.e;obtain⟨g,cap,F⟩:∃g cap,V.rv=gK (G g) X.e.length cap:=by
  obtain⟨_,h0⟩|⟨g,cap,ai,e,_⟩:=A.2
  .omega
  exact⟨g,cap,e⟩
 have L:=y.r.e;rw[F]at L A h2;obtain⟨HR,a7⟩:=gO (L.set C rfl c.gL hl r _ a0) y;have ak:=(A.lt g rfl).2;have M:cP g=t+2:=h2 g rfl;have xl:xs.length=X.e.length*3:=A.1;have x0:W.cell? (U g (c.gL*3))=some xs[c.gL*3]:=by rw[A.cellAt _ C,ah]
 have x1:W.cell? (U g (c.gL*3+1))=some xs[c.gL*3+1]:=by rw[A.cellAt _ C,ah]
 have x2:W.cell? (U g (c.gL*3+2))=some xs[c.gL*3+2]:=by rw[A.cellAt _ C,ah]
 have f0:=A.frozenAt (c.gL*3);have f1:=A.frozenAt (c.gL*3+1);have f2:=A.frozenAt (c.gL*3+2);obtain⟨r0,r1,r2,lr⟩:=G8 hX;have d7:=y.cellAt 7 rfl;rw[F]at d7;obtain⟨al,j⟩:=y.r.f c hc;have e1:=j.cellAt 1 rfl;have lp:=y.A;have lq:=j.lt;have h8:=h.r.a.A c hc;have am:g≠p:=λe=>by have:=h.tp;rw[e,this]at M;omega
 have an:g≠qb c.gL:=λe=>by have:=hk.tq;rw[e,this]at M;omega
 generalize xs[c.gL*3]=y0 at*;generalize xs[c.gL*3+1]=y1 at*;generalize xs[c.gL*3+2]=y2 at*;have ap:g<w.heap.size:=by obtain⟨aq,a3,_⟩:=h.r.e;rw[F]at a3;exact(a3.lt g rfl).2
 have ar:g≠w.heap.size:=C;have au:(0:Int)<=(c.gL:Int):=C;have av:(c.gL:Int)<(X.e.length:Int):=C;obtain⟨a4,BW,a8,a9⟩:=kN hW bW F M;clear h hk j y a0 A h2 h3 hW bW hX hs L M F;generalize hq:qb c.gL=q at*;have Hq:=gN hq;clear hq;go_enter func96,ntmps96;go_upto_region 1 with fail;rw[a4.o];clear a4;go_cut[] λwx=>Hid (jy wx cP t p qb {X with e:=X.e.set c.gL r} V)/\Hid (gI (λb=>cP b=t+2) W wx)
 case first=>
  go_region;all_goals(go_wp2_with fail;go_meet)
  have ho:gI (λb=>b=g) W (((W.setCell (U g (c.gL*3)) (I r.wh)).setCell (U g (c.gL*3+1)) (I r.ad)).setCell (U g (c.gL*3+2)) (gK Y r.val.length Z)):=(((gI.refl (λb=>b=g) W).setCell (U g _) (.inl rfl) _).setCell (U g _) (.inl rfl) _).setCell (U g _) (.inl rfl) _;have a5:gI (λb=>cP b=t+2) W (((W.setCell (U g (c.gL*3)) (I r.wh)).setCell (U g (c.gL*3+1)) (I r.ad)).setCell (U g (c.gL*3+2)) (gK Y r.val.length Z)):=ho.L λb _ e=>jf e a9;exact⟨(a7.reR a5 (jf a8.o HR) bz).bl (jZ.drew) ib,a5.drew⟩
 case rest=>
  obtain⟨HC,HO⟩:=hcut;have j8:=HC.cellAt 8 rfl;obtain⟨aw,j⟩:=HC.r.f c hc;rw[Hq.o]at j;have j1:=j.cellAt 1 rfl;have aY:=HC.A;have b0:=j.lt;obtain⟨l1,l2,hp,a1,a2,K2,O2⟩:=(HC.bl ((Bl.refl wc).drew) (fz:=cP) ib).Ze (c:=c) hc;have a6:X.a=l1++c::l2:=hp;have T:=HC.r.mp;simp only[a6,aZ,bj]at T;have b1:∀x∈l1.map (kU qb V.bo),x.k≠(kU qb V.bo c).k:=λx hx=>by obtain⟨d,hd,rfl⟩:=aD.1 hx;have:=a1 d hd;show((d.gL:Nat):Int)≠(c.gL:Int);omega
  have b2:∀x∈l2.map (kU qb V.bo),x.k≠(kU qb V.bo c).k:=λx hx=>by obtain⟨d,hd,rfl⟩:=aD.1 hx;have:=a2 d hd;show((d.gL:Nat):Int)≠(c.gL:Int);omega
  have aa:=λty=>PA (w:=wc) ty T b1 b2;have ab:=λty=>PA (w:=wc.drew) ty T b1 b2;rw[show(kU qb V.bo c).k=((c.gL:Nat):Int)from rfl]at aa ab;obtain⟨ac,ad,ag⟩:=iI K2 O2 HC.r.tb;clear j T x0 x1 x2 f0 f1 f2 r0 r1 r2 d7 e1 K2 O2 b1 b2 a1 a2 hp a6;go_upto_region 2 with fail;go_region;go_wp2;go_end0;have Z1:gI (λb=>cP b=t+1\/cP b=t+2) w wc:=(gI.D BW).H (HO.L λb _ e=>.inr e);have Z2:=(Z1.H (gI.D ((Bl.refl wc).drew))).H (ad.L λb _ e=>by have:=ag.o;rw[e];exact .inl this);exact⟨rfl,⟨cP,λ_ _=>rfl,⟨V,ac⟩,Z2.L λb _ e=>by unfold Mc;omega⟩,Z2⟩
def DE(h:jy w cP t p qb X V)(j:c∈X.a)(r)(sa)(sc)(y:Rd w cP (t+3) 5 (gK sa r.val.length sc) (r.val.map B8)):iU 96 #[O p,O (qb c.gL),.agg #[I r.wh,I r.ad,gK sa r.val.length sc]] w λA w'=>A=iF/\CS w cP t p qb (X.fin c r) w':=
 (Lw h j r sa sc y).L λ_ _ e=>⟨e.1,e.2.1⟩
end
end Go.Proofs.YtbghhbpacijmmaaGreat
