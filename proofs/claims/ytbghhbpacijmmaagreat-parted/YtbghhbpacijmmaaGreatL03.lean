import Derived.Test.YtbghhbpacijmmaaGreatL02
open Go.Proofs.Tryz
namespace Go.Proofs.YtbghhbpacijmmaaGreat
set_option maxRecDepth 99999
set_option maxHeartbeats 0
set_option linter.defProp false
open Go.RowKit Go.Maps
attribute [local go_sem ↓] Go.wp_at_zero Go.wp_at_succ
open Go.ChangeMaps (setBlock)
variable {w W w' w2:World} {cP fz:Nat->Nat} {xs:List Value} {v iv ov:Value} {g tb gm iC p tg tn n i k sc:Nat} {ps:List (Int×List Int)} {a b c d ch cl ln:Int} {t:TypeId} {P T S:Nat->Prop} {ys ds:List Int} {sa xa ba:Option Addr} {s:VS} {es:Array MapEntry} {cs:Array Value} {m:Value->Value}
def GX{j y A F H L M:Value}(h:W.heap[g]?=some (ig #[j,y,A,F,H,L,M] t (0,0))):(W.cell? (U g 0)=some j/\W.cell? (U g 1)=some y/\W.cell? (U g 2)=some A/\W.cell? (U g 3)=some F/\W.cell? (U g 4)=some H/\W.cell? (U g 5)=some L/\W.cell? (U g 6)=some M)/\(W.frozen? (U g 0)=false/\W.frozen? (U g 1)=false/\W.frozen? (U g 2)=false/\W.frozen? (U g 3)=false/\W.frozen? (U g 4)=false/\W.frozen? (U g 5)=false/\W.frozen? (U g 6)=false)/\g<W.heap.size:=
 ⟨⟨ax W g 0 _ t (0,0) h,ax W g 1 _ t (0,0) h,ax W g 2 _ t (0,0) h,ax W g 3 _ t (0,0) h,ax W g 4 _ t (0,0) h,ax W g 5 _ t (0,0) h,ax W g 6 _ t (0,0) h⟩,⟨aP W g 0 _ t h,aP W g 1 _ t h,aP W g 2 _ t h,aP W g 3 _ t h,aP W g 4 _ t h,aP W g 5 _ t h,aP W g 6 _ t h⟩,(ae.1 h).1⟩
def Me{a b c d:Value}(h:w.heap[g]?=some (ig #[a,b,c,d] t (0,0)))(x0 x1 x2 x3):((((w.setCell (U g 0) x0).setCell (U g 1) x1).setCell (U g 2) x2).setCell (U g 3) x3).heap[g]?=some (ig #[x0,x1,x2,x3] t (0,0)):=
 fy _ g 3 _ t _ (fy _ g 2 _ t _ (fy _ g 1 _ t _ (fy _ g 0 _ t _ h)))
def xI:List (Int×Int×Int):=[(101,7,8)]
theorem Nc(w:World):pq (w.alloc (ig #[I 101,I 7,I 8] 322)) w.heap.size 0 xI:=by
 refine⟨bz,λj h=>?_⟩;have y:=ao w (ig #[I 101,I 7,I 8] 322);rw[ax _ _ _ _ _ _ y,ax _ _ _ _ _ _ y,ax _ _ _ _ _ _ y];have A:j<1:=h
 match j,A with
 |0,_=>exact⟨rfl,rfl,rfl⟩
theorem BN(v)(nr wh ep mk ck cl ca)(val)(w)(hv:sJ w v (j5 101 [nr,wh,ep,mk,ck,cl,ca] val))(ok:Rc.Ok xI ⟨101,[nr,wh,ep,mk,ck,cl,ca],val⟩):iU 213 #[v] w λe w'=>∃h j,e=gU (.tuple #[I nr,.agg #[I wh,I ep,I mk,I ck,I cl,I ca,gK h val.length j],.bool true])/\Bl w w'/\w'.ownsRow w.heap.size 5 1 (gK h val.length j) val.length (val.map B8):=by
 have bA:=(Bl.refl w).alloc Mo;have hX:=ao w Mo;have bB:=(Bl.refl (w.alloc Mo)).alloc (ig #[I 101,I 7,I 8] 322);have L:=bA.H bB;obtain⟨HW,a3,M⟩:=iI (xQ v ⟨101,[nr,wh,ep,mk,ck,cl,ca],val⟩ _ 0 1 xI _ (hv.bl L) (Nc _) bT ok) L ((bB.heap bz).H hX);have a4:Hid ((w.alloc Mo).heap.size=w.heap.size+1):=by unfold Hid;simp
 rw[a4.o]at HW;clear hv bA hX bB L ok;go_enter func213,ntmps213;go_wp2_with fail;refine HW.L ?_;rintro e w2⟨g,na,nc,h,j,rfl,Q,V,Y⟩;obtain⟨rfl,lg,n0,n1,n2,n3,n4,n5,n6⟩:=C8 V;have ng:¬w.heap.size=g:=by have:=(V.lt g rfl).1;simp at this;omega
 have a5:=gN (a3.H Q);have a0:=(Q.heap (ae.1 M).1).H M;have lx:=(ae.1 a0).1;have a6:=gN (iE (base':=w.heap.size) Y λb hb=>by have:=(Y.lt b hb).1;simp at this;omega);have ag:¬w.heap.size=w2.heap.size:=C;clear HW Q V Y M a3 a4;obtain⟨W3,a1⟩:=gG (w2.alloc (ig #[I 101,gK (G g) 7 nc,gK h val.length j] 320));have F:=(Bl.refl w2).alloc (ig #[I 101,gK (G g) 7 nc,gK h val.length j] 320);have hR:=ao w2 (ig #[I 101,gK (G g) 7 nc,gK h val.length j] 320);rw[a1]at F hR;have A:=gN ((F.heap lx).H a0);obtain⟨r0,r1,r2,lr⟩:=G8 hR;obtain⟨m0,m1,m2,m3⟩:=F.N lg n0 n1 n2 n3;obtain⟨m4,m5,m6⟩:=F.M lg n4 n5 n6;have a7:=af lg F.lt;obtain⟨ab,a8,a9⟩:=iI (a5.H F) ((jY F).jH a6 λ_ _ e=>e) a1;clear a0 a1 F a5 a6 n0 n1 n2 n3 n4 n5 n6 hR;go_upto_region 5 with fail;rw[a9.o];clear a9;generalize w2.heap.size=gr at*;go_cut[8]from 21 to 32 λx wx=>∃gc,x= O gc/\Hid (wx.heap[gc]?=some (ig (rH ck cl ca h val j) 91 (0,0))/\W3.heap.size<=gc)/\Hid (Bl W3 wx)
 case first=>
  go_region_held3(λW=>W.cell? (U g 4)=some (I ck)/\W.cell? (U g 5)=some (I cl)/\W.cell? (U g 6)=some (I ca)/\W.cell? (U gr 2)=some (mP h val j)) (go_keep) (fail);all_goals(go_wp2_with fail;go_meet)
  all_goals exact⟨_,rfl,⟨ao W3 _,jr⟩,by first|exact(jZ.alloc _).drewN _|exact(jZ.alloc _).drew|exact jZ.alloc _⟩
 case rest=>
  obtain⟨gc,rfl,HC,y⟩:=hcut;obtain⟨k0,k1,k2,k3,ai⟩:=sj HC.1;have a2:=(y.heap (ae.1 A).1).H A;obtain⟨⟨x0,x1,x2,x3,x4,x5,x6⟩,⟨f0,f1,f2,f3,f4,f5,f6⟩,lX⟩:=GX a2;obtain⟨p0,p1,p2,p3⟩:=y.N a7 m0 m1 m2 m3;have ak:=af a7 y.lt;have ac:=gN a2;have al:¬w.heap.size=gc:=by have:=HC.2;have:=(ae.1 A).1;omega
  obtain⟨aa,ad⟩:=gO ((jY y).jH a8 λ_ _ e=>e) (ab.H y);clear m0 m1 m2 m3 m4 m5 m6 r0 r1 r2 a2 a8 A;go_upto_region 6 with fail;go_region_held3(λW=>W.cell? (U g 0)=some (I nr)/\W.cell? (U g 1)=some (I wh)/\W.cell? (U g 2)=some (I ep)/\W.cell? (U g 3)=some (I mk)/\W.cell? (U gc 0)=some (I ck)/\W.cell? (U gc 1)=some (I cl)/\W.cell? (U gc 2)=some (I ca)/\W.cell? (U gc 3)=some (mP h val j)) (go_keep) (fail);all_goals
   go_wp2;have Z:=((((((((gI.refl (λb=>b=w.heap.size) wc).setCell (U w.heap.size 0) (.inl rfl) (I wh)).setCell (U w.heap.size 1) (.inl rfl) (I ep)).setCell (U w.heap.size 2) (.inl rfl) (I mk)).setCell (U w.heap.size 3) (.inl rfl) (I ck)).setCell (U w.heap.size 4) (.inl rfl) (I cl)).setCell (U w.heap.size 5) (.inl rfl) (I ca)).setCell (U w.heap.size 6) (.inl rfl) (mP h val j));have hB:=ad.A Z λn e=>C;have hV:=Z.jH aa λb hb e=>gW aa ac bT (kz hb e);exact aG (v:= .tuple #[I nr,.agg #[I wh,I ep,I mk,I ck,I cl,I ca,gK h val.length j],.bool true]) (by simp[results,results213,go_sem,x0,x1,x2,x3,x4,x5,x6]) rfl ⟨h,j,rfl,hB.drew,(jY jZ.drew).jH hV λ_ _ e=>e⟩
def lT(w:World)(p o:Nat):List Value->World
 |[]=>w
 |v::vs=>lT (w.setCell (U p o) v) p (o+1) vs
def zd(l:List Value)(o:Nat):List Value->List Value
 |[]=>l
 |v::vs=>zd (l.set o v) (o+1) vs
theorem lL:∀(j:List Value) (o:Nat) (w:World) (l:List Value),w.heap[p]?=some (ig l.toArray t (0,0))->(lT w p o j).heap[p]?=some (ig (zd l o j).toArray t (0,0))
 |[],_,_,_,h=>h
 |v::j,o,w,l,h=>lL j (o+1) _ _ (by
  have:=fy w p o l.toArray t v h
  rwa[List.setIfInBounds_toArray]at this)
def jO(o)(v)(w:World)(l:List Value)(h:w.heap[p]?=some (ig l.toArray t (0,0))):(w.setCell (U p o) v).heap[p]?=some (ig (l.set o v).toArray t (0,0)):=lL [v] o w l h
theorem AY(v:Value)(w:World)(hw:∀W b,Bl w W->pq W b 0 [(102,5,255)]->iU 246 #[v,gK (G b) ([(102,5,255)]:List (Int×Int×Int)).length 1] W λe w'=>e=gU (.tuple #[.agg #[I 0,OO,OO],.bool false])/\Bl W w'):iU 215 #[v] w λe w'=>e=gU (.tuple #[I 0,I 0,.agg #[I 0,I 0,I 0,OO],.bool false])/\Bl w w':=by
 have bA:=(Bl.refl w).alloc OJ;have M:=ao w OJ;have bB:=(Bl.refl (w.alloc OJ)).alloc (ig #[I 102,I 5,I 255] 322);have A:=bA.H bB;have Q:pq ((w.alloc OJ).alloc (ig #[I 102,I 5,I 255] 322)) (w.alloc OJ).heap.size 0 [(102,5,255)]:=by
  refine⟨bz,λj h=>?_⟩;have M:=ao (w.alloc OJ) (ig #[I 102,I 5,I 255] 322);rw[ax _ _ _ _ _ _ M,ax _ _ _ _ _ _ M,ax _ _ _ _ _ _ M];have h':j<1:=h
  match j,h' with
  |0,_=>exact⟨rfl,rfl,rfl⟩
 obtain⟨HW,V,F⟩:=iI (hw _ _ A Q) A ((bB.heap bz).H M);have Y:Hid ((w.alloc OJ).heap.size=w.heap.size+1):=by unfold Hid;simp
 rw[Y.o]at HW;clear hw bA M bB A Q Y;go_enter func215,ntmps215;go_wp2_with fail;refine gS HW λw2 L=>?_;have y:=(L.heap (ae.1 F).1).H F;obtain⟨x0,x1,x2,x3,lX⟩:=sj y;obtain⟨f0,f1,f2,f3⟩:=yM y 0 1 2 3;obtain⟨a1,a2⟩:=gO (V.H L) y;clear HW L y F V;go_wp2;have Z:=((((gI.refl (λb=>b=w.heap.size) w2).setCell (U w.heap.size 0) (.inl rfl) (I 0)).setCell (U w.heap.size 1) (.inl rfl) (I 0)).setCell (U w.heap.size 2) (.inl rfl) (I 0)).setCell (U w.heap.size 3) (.inl rfl) OO;have hB:=a1.A Z λn e=>C;have a0:=Me a2 (I 0) (I 0) (I 0) OO;have bD:=(Bl.refl ((((w2.setCell (U w.heap.size 0) (I 0)).setCell (U w.heap.size 1) (I 0)).setCell (U w.heap.size 2) (I 0)).setCell (U w.heap.size 3) OO)).alloc Br;obtain⟨y0,y1,y2,y3,_⟩:=sj ((bD.heap (ae.1 a0).1).H a0);exact aG (v:= .tuple #[I 0,I 0,.agg #[I 0,I 0,I 0,OO],.bool false]) (by simp only[results,results215];simp[go_sem,y0,y1,y2,y3]) rfl ⟨rfl,hB.H bD⟩
def Fj(v)(ds)(w)(y:sJ w v ds)(A:0<ds.length)(F:ds.length<=1100000000000)(j:∀d∈ds,0<=d/\d<=255)(H:ds.getD 0 0≠102):iU 215 #[v] w λe w'=>e=gU (.tuple #[I 0,I 0,.agg #[I 0,I 0,I 0,OO],.bool false])/\Bl w w':=by
 have h:(([(102,5,255)]:List (Int×Int×Int)).any λs=>rQ s.1 s.2.1 s.2.2 ds)=false:=by simp only[eM,List.any_nil,Bool.or_false,rQ];rw[show(ds.getD 0 0==102)=false from by simpa using H];rfl
 exact AY v w λW b L M=>E9 v ds b 0 1 _ W (y.bl L) A F j M bT h
theorem zb(v:Value)(w:World)(hw:∀W b,Bl w W->pq W b 0 [(101,7,8)]->iU 246 #[v,gK (G b) ([(101,7,8)]:List (Int×Int×Int)).length 1] W λe w'=>e=gU (.tuple #[.agg #[I 0,OO,OO],.bool false])/\Bl W w'):iU 213 #[v] w λe w'=>e=gU (.tuple #[I 0,.agg #[I 0,I 0,I 0,I 0,I 0,I 0,OO],.bool false])/\Bl w w':=by
 have bA:=(Bl.refl w).alloc Mo;have V:=ao w Mo;have bB:=(Bl.refl (w.alloc Mo)).alloc (ig #[I 101,I 7,I 8] 322);have y:=bA.H bB;have Y:pq ((w.alloc Mo).alloc (ig #[I 101,I 7,I 8] 322)) (w.alloc Mo).heap.size 0 [(101,7,8)]:=by
  refine⟨bz,λj h=>?_⟩;have V:=ao (w.alloc Mo) (ig #[I 101,I 7,I 8] 322);rw[ax _ _ _ _ _ _ V,ax _ _ _ _ _ _ V,ax _ _ _ _ _ _ V];have h':j<1:=h
  match j,h' with
  |0,_=>exact⟨rfl,rfl,rfl⟩
 obtain⟨HW,a0,A⟩:=iI (hw _ _ y Y) y ((bB.heap bz).H V);have a1:Hid ((w.alloc Mo).heap.size=w.heap.size+1):=by unfold Hid;simp
 rw[a1.o]at HW;clear hw bA V bB y Y a1;go_enter func213,ntmps213;go_wp2_with fail;refine gS HW λw2 F=>?_;have L:=(F.heap (ae.1 A).1).H A;obtain⟨⟨x0,x1,x2,x3,x4,x5,x6⟩,⟨f0,f1,f2,f3,f4,f5,f6⟩,lX⟩:=GX L;obtain⟨a3,a4⟩:=gO (a0.H F) L;clear HW F L A a0;go_wp2;have Z:=(((((((gI.refl (λb=>b=w.heap.size) w2).setCell (U w.heap.size 0) (.inl rfl) (I 0)).setCell (U w.heap.size 1) (.inl rfl) (I 0)).setCell (U w.heap.size 2) (.inl rfl) (I 0)).setCell (U w.heap.size 3) (.inl rfl) (I 0)).setCell (U w.heap.size 4) (.inl rfl) (I 0)).setCell (U w.heap.size 5) (.inl rfl) (I 0)).setCell (U w.heap.size 6) (.inl rfl) OO;have hB:=a3.A Z λn e=>C;have M:=lL [I 0,I 0,I 0,I 0,I 0,I 0,OO] 0 w2 [I 0,I 0,I 0,I 0,I 0,I 0,OO] a4;obtain⟨W5,Q⟩:=gG (lT w2 w.heap.size 0 [I 0,I 0,I 0,I 0,I 0,I 0,OO]);have a2:Bl w (lT w2 w.heap.size 0 [I 0,I 0,I 0,I 0,I 0,I 0,OO]):=hB;rw[Q]at M a2;simp only[lT,bP,Nat.reduceAdd]at Q;rw[Q];have bD:=(Bl.refl W5).alloc Br;obtain⟨⟨y0,y1,y2,y3,y4,y5,y6⟩,_,_⟩:=GX ((bD.heap (ae.1 M).1).H M);exact aG (v:= .tuple #[I 0,.agg #[I 0,I 0,I 0,I 0,I 0,I 0,OO],.bool false]) (by simp only[results,results213];simp[go_sem,y0,y1,y2,y3,y4,y5,y6]) rfl ⟨rfl,a2.H bD⟩
def Ew(v)(ds)(w)(y:sJ w v ds)(A:0<ds.length)(F:ds.length<=1100000000000)(j:∀d∈ds,0<=d/\d<=255)(H:ds.getD 0 0≠101):iU 213 #[v] w λe w'=>e=gU (.tuple #[I 0,.agg #[I 0,I 0,I 0,I 0,I 0,I 0,OO],.bool false])/\Bl w w':=by
 have h:(([(101,7,8)]:List (Int×Int×Int)).any λs=>rQ s.1 s.2.1 s.2.2 ds)=false:=by simp only[eM,List.any_nil,Bool.or_false,rQ];rw[show(ds.getD 0 0==101)=false from by simpa using H];rfl
 exact zb v w λW b L M=>E9 v ds b 0 1 _ W (y.bl L) A F j M bT h
def PN{base o c:Nat}{j y A F H:Int}(h:w.ownsRow base 3 1 (gK (some (U g o)) 5 c) 5 ([j,y,A,F,H].map I)):o=0/\g<w.heap.size/\w.cell? (U g 0)=some (I j)/\w.cell? (U g 1)=some (I y)/\w.cell? (U g 2)=some (I A)/\w.cell? (U g 3)=some (I F)/\w.cell? (U g 4)=some (I H):=by
 obtain⟨e,_⟩|⟨M,cap,L,e,_⟩:=h.2
 .simp at e
 simp only[bO,aJ,Z0]at e;obtain⟨⟨_,rfl,_⟩,_⟩:=e;exact⟨rfl,(h.lt g rfl).2,h.cellAt 0 C,h.cellAt 1 C,h.cellAt 2 C,h.cellAt 3 C,h.cellAt 4 C⟩
def xW:List (Int×Int×Int):=[(102,5,255)]
theorem MP(w:World):pq (w.alloc (ig #[I 102,I 5,I 255] 322)) w.heap.size 0 xW:=by
 refine⟨bz,λj h=>?_⟩;have y:=ao w (ig #[I 102,I 5,I 255] 322);rw[ax _ _ _ _ _ _ y,ax _ _ _ _ _ _ y,ax _ _ _ _ _ _ y];have A:j<1:=h
 match j,A with
 |0,_=>exact⟨rfl,rfl,rfl⟩
theorem Ea(v)(nr lt wh pr ba)(val)(w)(hv:sJ w v (j5 102 [nr,lt,wh,pr,ba] val))(ok:Rc.Ok xW ⟨102,[nr,lt,wh,pr,ba],val⟩):iU 215 #[v] w λe w'=>∃h j,e=gU (.tuple #[I nr,I lt,.agg #[I wh,I pr,I ba,gK h val.length j],.bool true])/\Bl w w'/\w'.ownsRow w.heap.size 5 1 (gK h val.length j) val.length (val.map B8):=by
 have bA:=(Bl.refl w).alloc OJ;have hX:=ao w OJ;have bB:=(Bl.refl (w.alloc OJ)).alloc (ig #[I 102,I 5,I 255] 322);have F:=bA.H bB;obtain⟨HW,a1,L⟩:=iI (xQ v ⟨102,[nr,lt,wh,pr,ba],val⟩ _ 0 1 xW _ (hv.bl F) (MP _) bT ok) F ((bB.heap bz).H hX);have a2:Hid ((w.alloc OJ).heap.size=w.heap.size+1):=by unfold Hid;simp
 rw[a2.o]at HW;clear hv bA hX bB F ok;go_enter func215,ntmps215;go_wp2_with fail;refine HW.L ?_;rintro e w2⟨g,na,nc,h,j,rfl,M,Q,V⟩;obtain⟨rfl,lg,n0,n1,n2,n3,n4⟩:=PN Q;have ng:¬w.heap.size=g:=by have:=(Q.lt g rfl).1;simp at this;omega
 have a3:=gN (a1.H M);have Y:=(M.heap (ae.1 L).1).H L;have lx:=(ae.1 Y).1;have a4:=gN (iE (base':=w.heap.size) V λb hb=>by have:=(V.lt b hb).1;simp at this;omega);have a9:¬w.heap.size=w2.heap.size:=C;clear HW M Q V L a1 a2;obtain⟨W3,a0⟩:=gG (w2.alloc (ig #[I 102,gK (G g) 5 nc,gK h val.length j] 320));have A:=(Bl.refl w2).alloc (ig #[I 102,gK (G g) 5 nc,gK h val.length j] 320);have hR:=ao w2 (ig #[I 102,gK (G g) 5 nc,gK h val.length j] 320);rw[a0]at A hR;have y:=(A.heap lx).H Y;obtain⟨r0,r1,r2,lr⟩:=G8 hR;obtain⟨x0,x1,x2,x3,lX⟩:=sj y;obtain⟨f0,f1,f2,f3⟩:=yM y 0 1 2 3;obtain⟨m0,m1,m2⟩:=A.M lg n0 n1 n2;obtain⟨m3,m4⟩:=A.D lg n3 n4;have aa:=af lg A.lt;obtain⟨a7,a5,a8,a6⟩:=kN (a3.H A) ((jY A).jH a4 λ_ _ e=>e) y a0;clear Y a0 A a3 a4 n0 n1 n2 n3 n4 hR y;go_upto_region 5 with fail;rw[a6.o];clear a6;generalize w2.heap.size=gr at*;go_region_held3(λW=>W.cell? (U g 0)=some (I nr)/\W.cell? (U g 1)=some (I lt)/\W.cell? (U g 2)=some (I wh)/\W.cell? (U g 3)=some (I pr)/\W.cell? (U g 4)=some (I ba)/\W.cell? (U gr 2)=some (mP h val j)) (go_keep) (fail);all_goals
  go_wp2;have Z:=((((gI.refl (λb=>b=w.heap.size) W3).setCell (U w.heap.size 0) (.inl rfl) (I wh)).setCell (U w.heap.size 1) (.inl rfl) (I pr)).setCell (U w.heap.size 2) (.inl rfl) (I ba)).setCell (U w.heap.size 3) (.inl rfl) (mP h val j);have hB:=a7.A Z λn e=>C;have hV:=Z.jH a5 λb hb e=>gW a5 a8 bT (kz hb e);exact aG (v:= .tuple #[I nr,I lt,.agg (rH wh pr ba h val j),.bool true]) (by simp[results,results215,go_sem,x0,x1,x2,x3]) rfl ⟨h,j,rfl,hB.drew,(jY jZ.drew).jH hV λ_ _ e=>e⟩
def Ez(w)(xs:List Int)(f)(g)(h:w.heap[g]?=some (ig (xs.map I).toArray 3 f)):Bs w (gK (G g) xs.length xs.length) (xs.map I):=by refine .inr ⟨(U g 0),xs.length,by rw[ay],λj u y=>?_⟩;rw[nW,bP,ax w g j _ 3 f h];simp_all
theorem xL(kd ln nr ep pl ck cl ca)(va)(vc)(val)(w)(h0:0<=kd)(h1:kd<=255)(L:Bs w (gK va val.length vc) (val.map B8))(M:∀b,(gK va val.length vc).ownBlock=some b->b<w.heap.size)(F:val.length<=255):iU 245 #[.agg #[I kd,I ln,I nr,I ep,I pl,I ck,I cl,I ca,gK va val.length vc]] w λe w'=>∃ba Q,e=gU (gK ba (j5 kd [ln,nr,ep,pl,ck,cl,ca] val).length Q)/\Bl w w'/\w'.ownsRow w.heap.size 5 1 (gK ba (j5 kd [ln,nr,ep,pl,ck,cl,ca] val).length Q) (j5 kd [ln,nr,ep,pl,ck,cl,ca] val).length ((j5 kd [ln,nr,ep,pl,ck,cl,ca] val).map B8):=by
 have h:=(((Bl.refl w).alloc (AZ kd ln nr ep pl ck cl ca va val vc)).alloc (ig (rH ck cl ca va val vc) 91)).alloc (ig #[I ln,I nr,I ep,I pl,I ck,I cl,I ca] 3);have H:(_:World).heap[_]?=_:=ao ((w.alloc (AZ kd ln nr ep pl ck cl ca va val vc)).alloc (ig (rH ck cl ca va val vc) 91)) (ig #[I ln,I nr,I ep,I pl,I ck,I cl,I ca] 3);have j:((w.alloc (AZ kd ln nr ep pl ck cl ca va val vc)).alloc (ig (rH ck cl ca va val vc) 91)).heap.size=w.heap.size+1+1:=bz;rw[j]at H;have V:=gN (oU w.heap.size OO 0 [] kd (gK (G (w.heap.size+1+1)) 7 7) (mP va val vc) [ln,nr,ep,pl,ck,cl,ca] val _ m7 h.lt C (Ez _ [ln,nr,ep,pl,ck,cl,ca] (0,0) _ H) (L.bl h) C C bz F (λg e=>pV e) (λg e=>pV e) (λg e=>by simp[Value.ownBlock]at e;simp;omega) λg e=>af (M g e) h.lt);have y:=gN h;clear L M h H j;go_enter func245,ntmps245;go_wp2_with fail;refine V.L ?_;rintro e w1⟨v',rfl,A⟩;rw[bP,dz]at A;obtain⟨ga,Y,rfl⟩:=A.D;obtain⟨Z,HO⟩:=gO (y.H (A.only.u9 λk _ e=>pV e)) A.ij;clear V A y;go_wp2;go_ret;exact⟨ga,Y,rfl,Z,HO⟩
theorem Ay(nr wh ep mk ck cl ca)(va)(vc)(val)(w)(L:Bs w (gK va val.length vc) (val.map B8))(M:∀b,(gK va val.length vc).ownBlock=some b->b<w.heap.size)(F:val.length<=255):iU 338 #[I nr,.agg #[I wh,I ep,I mk,I ck,I cl,I ca,gK va val.length vc]] w λe w'=>∃ba Q,e=gU (gK ba (j5 101 [nr,wh,ep,mk,ck,cl,ca] val).length Q)/\Bl w w'/\w'.ownsRow w.heap.size 5 1 (gK ba (j5 101 [nr,wh,ep,mk,ck,cl,ca] val).length Q) (j5 101 [nr,wh,ep,mk,ck,cl,ca] val).length ((j5 101 [nr,wh,ep,mk,ck,cl,ca] val).map B8):=by
 have h:=(((Bl.refl w).alloc (ig #[I wh,I ep,I mk,I ck,I cl,I ca,gK va val.length vc] 215)).alloc (ig (rH ck cl ca va val vc) 91)).alloc (ig #[I nr,I wh,I ep,I mk,I ck,I cl,I ca] 3);have H:(_:World).heap[_]?=_:=ao ((w.alloc (ig #[I wh,I ep,I mk,I ck,I cl,I ca,gK va val.length vc] 215)).alloc (ig (rH ck cl ca va val vc) 91)) (ig #[I nr,I wh,I ep,I mk,I ck,I cl,I ca] 3);have j:((w.alloc (ig #[I wh,I ep,I mk,I ck,I cl,I ca,gK va val.length vc] 215)).alloc (ig (rH ck cl ca va val vc) 91)).heap.size=w.heap.size+1+1:=bz;rw[j]at H;have V:=gN (oU w.heap.size OO 0 [] 101 (gK (G (w.heap.size+1+1)) 7 7) (mP va val vc) [nr,wh,ep,mk,ck,cl,ca] val _ m7 h.lt C (Ez _ [nr,wh,ep,mk,ck,cl,ca] (0,0) _ H) (L.bl h) C C bz F (λg e=>pV e) (λg e=>pV e) (λg e=>by simp[Value.ownBlock]at e;simp;omega) λg e=>af (M g e) h.lt);have y:=gN h;clear L M h H j;go_enter func338,ntmps338;go_wp2_with fail;refine V.L ?_;rintro e w1⟨v',rfl,A⟩;rw[bP,dz]at A;obtain⟨ga,Y,rfl⟩:=A.D;obtain⟨Z,HO⟩:=gO (y.H (A.only.u9 λk _ e=>pV e)) A.ij;clear V A y;go_wp2;go_ret;exact⟨ga,Y,rfl,Z,HO⟩
theorem BE(nr lt wh pr ba)(va)(vc)(val)(w)(L:Bs w (gK va val.length vc) (val.map B8))(M:∀b,(gK va val.length vc).ownBlock=some b->b<w.heap.size)(F:val.length<=255):iU 344 #[I nr,I lt,.agg #[I wh,I pr,I ba,gK va val.length vc]] w λe w'=>∃sa Q,e=gU (gK sa (j5 102 [nr,lt,wh,pr,ba] val).length Q)/\Bl w w'/\w'.ownsRow w.heap.size 5 1 (gK sa (j5 102 [nr,lt,wh,pr,ba] val).length Q) (j5 102 [nr,lt,wh,pr,ba] val).length ((j5 102 [nr,lt,wh,pr,ba] val).map B8):=by
 have h:=((Bl.refl w).alloc (ig (rH wh pr ba va val vc) 222)).alloc (ig #[I nr,I lt,I wh,I pr,I ba] 3);have H:(_:World).heap[_]?=_:=ao ((w.alloc (ig (rH wh pr ba va val vc) 222))) (ig #[I nr,I lt,I wh,I pr,I ba] 3);have j:((w.alloc (ig (rH wh pr ba va val vc) 222))).heap.size=w.heap.size+1:=bz;rw[j]at H;have V:=gN (oU w.heap.size OO 0 [] 102 (gK (G (w.heap.size+1)) 5 5) (mP va val vc) [nr,lt,wh,pr,ba] val _ m7 h.lt C (Ez _ [nr,lt,wh,pr,ba] (0,0) _ H) (L.bl h) C C bz F (λg e=>pV e) (λg e=>pV e) (λg e=>by simp[Value.ownBlock]at e;simp;omega) λg e=>af (M g e) h.lt);have y:=gN h;clear L M h H j;go_enter func344,ntmps344;go_wp2_with fail;refine V.L ?_;rintro e w1⟨v',rfl,A⟩;rw[bP,dz]at A;obtain⟨ga,Y,rfl⟩:=A.D;obtain⟨Z,HO⟩:=gO (y.H (A.only.u9 λk _ e=>pV e)) A.ij;clear V A y;go_wp2;go_ret;exact⟨ga,Y,rfl,Z,HO⟩
def LB{A B:Array Value}{u:TypeId}{o:Go.Obj}(h:W=((w.alloc (ig A t)).alloc (ig B u)).alloc o):Bl w W/\W.heap.size=w.heap.size+1+1+1/\W.heap[w.heap.size]?=some (ig A t (0,0))/\W.heap[w.heap.size+1]?=some (ig B u (0,0))/\W.heap[w.heap.size+1+1]?=some o:=by
 subst h;refine⟨((jZ.alloc _).alloc _).alloc _,bz,?_,?_,?_⟩
 .rw[fJ _ _ _ ik,fJ _ _ _ bz];exact ao w _
 .rw[fJ _ _ _ bz];simpa using ao (w.alloc (ig A t)) (ig B u)
 simpa using ao ((w.alloc (ig A t)).alloc (ig B u)) o
section
variable{L:Nat}{P:kC}
def Dj{A:World}{j t:Nat}(F:tg≠3)(y:Bl w W)(a0:W.heap.size=w.heap.size+1+1+1)(hX:w2.heap[w.heap.size+1+1]?=some (ig cs t (0,0)))(h5:5≠t)(H:w2.ownsRow W.heap.size 5 1 (gK xa ys.length j) ys.length (ys.map B8))(hT:Tl W w2 (ir cP w.heap.size 3) tg p a b c d L P (gK xa ys.length j))(Z:gI (λb=>b=w.heap.size+1+1) w2 A):∃M Q,(gU (m (gK xa ys.length j)):Ending)=gU (m (gK M ys.length Q))/\A.ownsRow w.heap.size 5 1 (gK M ys.length Q) ys.length (ys.map B8)/\Tl w A cP tg p a b c d L P (gK M ys.length Q):=by
 obtain⟨L',fz,t1,Y,l1,l2,hp,h⟩:=hT;have s2:=h.size;refine⟨xa,j,rfl,iE (Z.jH H λb hb e=>gW H hX h5 (kz hb e)) λg V=>?_,L',fz,t1,λg V=>by rw[Y g C];exact gV _ _ _ _ V,l1,l2,hp.only Z (λg _ e=>?_) λ_ _ e=>e,?_⟩
 .have h1:=(H.lt g V).1;omega
 .rw[e,Y _ C,jc _ _ _ _ C];exact Ne.symm F
 have s3:=Z.size;refine⟨Z.os.H (h.os.H y.os),Z.tape.H (h.tape.H y.tape),Z.output.H (h.output.H y.output),C,λi hi hn=>?_⟩;rw[Z.block i C C,h.block i C λe=>hn (by rwa[gV _ _ _ _ hi]at e),y.heap hi]
theorem DB(y:tg≠3)(kd ln nr e x Y cl ca:Int)(va:Option Addr)(vc:Nat)(ys:List Int)(R:An){F N:Nat}{A:Array Value}(hF:(F=334/\N=178/\A=#[.pointer (some ⟨p,0,none⟩),.int .i64 e])\/(F=335/\N=175/\A=#[.pointer (some ⟨p,0,none⟩),.int .i64 e,.int .i64 x,.agg #[.int .i64 Y,.int .i64 cl,.int .i64 ca,gK va ys.length vc]])\/(F=336/\N=171/\A=#[.pointer (some ⟨p,0,none⟩),.int .i64 e,.int .i64 x]))(hK:∀W,Bl w W->nQ N A W (ir cP w.heap.size 3) tg p a b c d L R.val R.ct.val P):nQ F #[.agg #[.pointer (some ⟨p,0,none⟩)],.agg #[.int .i64 kd,.int .i64 ln,.int .i64 nr,.int .i64 e,.int .i64 x,.int .i64 Y,.int .i64 cl,.int .i64 ca,gK va ys.length vc]] w cP tg p a b c d L R.val R.ct.val P:=by
 obtain⟨W,Q⟩:∃W,W=((w.alloc (ig #[.pointer (some ⟨p,0,none⟩)] 233)).alloc (Wv kd ln nr e x Y cl ca va ys vc)).alloc (ig oL 215):=⟨_,rfl⟩;obtain⟨b3,a0,_,_,hX⟩:=LB Q;have M:=gN (hK W b3);unfold nQ at M;obtain⟨HX,HB,HW⟩:=iI hX b3 Q;rw[Q]at M;clear hX b3 hK Q;unfold nQ;unfold oL at M;obtain⟨rfl,rfl,rfl⟩|⟨rfl,rfl,rfl⟩|⟨rfl,rfl,rfl⟩:=hF;all_goals
  first|go_enter func334,ntmps334|go_enter func335,ntmps335|go_enter func336,ntmps336
  go_wp2_with fail;refine M.L ?_;rintro en w2⟨xa,xc,rfl,ho,V⟩;have h:=HW.o;unfold oL at h;rw[<-h]at ho V;have j:w2.heap[w.heap.size+1+1]?=some (ig #[.int .i64 0,.int .i64 0,.int .i64 0,.int .i64 0,.int .i64 0,.int .i64 0,gK none 0 0] 215 (0,0)):=(V.o.block _ C (by rw[jc _ _ _ _ C];exact Ne.symm y)).H HX;obtain⟨⟨n0,n1,n2,n3,n4,n5,n6⟩,⟨f0,f1,f2,f3,f4,f5,f6⟩,lN⟩:=GX j;obtain⟨HP,a1⟩:=gO (And.intro ho V) j;clear M ho V j h;unfold An.val lC;go_wp2;have Z:=((((((((gI.refl (λb=>b=w.heap.size+1+1) w2).setCell ⟨w.heap.size+1+1,0,none⟩ (.inl rfl) (.int .i64 R.wh)).setCell ⟨w.heap.size+1+1,1,none⟩ (.inl rfl) (.int .i64 R.ep)).setCell ⟨w.heap.size+1+1,2,none⟩ (.inl rfl) (.int .i64 R.mark)).setCell ⟨w.heap.size+1+1,3,none⟩ (.inl rfl) (.int .i64 R.ct.kd)).setCell ⟨w.heap.size+1+1,4,none⟩ (.inl rfl) (.int .i64 R.ct.cl)).setCell ⟨w.heap.size+1+1,5,none⟩ (.inl rfl) (.int .i64 R.ct.ca)).setCell ⟨w.heap.size+1+1,6,none⟩ (.inl rfl) (gK xa R.ct.val.length xc));exact aG (v:= .agg #[.int .i64 R.wh,.int .i64 R.ep,.int .i64 R.mark,.int .i64 R.ct.kd,.int .i64 R.ct.cl,.int .i64 R.ct.ca,gK xa R.ct.val.length xc]) (by simp[results,results334,results335,results336,go_sem,n0,n1,n2,n3,n4,n5,n6]) rfl (Dj (m:=R.val) y HB a0 a1 bT HP.1 HP.2 Z)
def uA(a b c d ch:Int)(s:St)(kd e x ck cl ca:Int)(ys:List Int):An×St:=
 if kd=1 then rb s e else if kd=2 then oP a b c d ch s e x ck cl ca ys else qn a b c d ch s e x
def Rl{s:St}(h:ml w cP tg p a b c d L (.unit ch s))(A:tg≠3)(kd ln Q e x j cl y:Int)(V:kd=1\/kd=2\/kd=3)(F:Option Addr)(H:Nat)(ys:List Int)(hv:Bs w (gK F ys.length H) (ys.map B8))(M:∀g,(gK F ys.length H).ownBlock=some g->g<w.heap.size/\cP g≠tg)(hc:kd=2->tE j ys.length=true)(Y:L<=1000000000000):nQ (333+kd.toNat) #[.agg #[O p],.agg #[I kd,I ln,I Q,I e,I x,I j,I cl,I y,gK F ys.length H]] w cP tg p a b c d L (uA a b c d ch s kd e x j cl y ys).1.val (uA a b c d ch s kd e x j cl y ys).1.ct.val (.unit ch (uA a b c d ch s kd e x j cl y ys).2):=by
 have Z:∀W,Bl w W->ml W (ir cP w.heap.size 3) tg p a b c d L (.unit ch s):=λW b=>h.bl b λ_ h=>gV _ _ _ _ h;obtain rfl|rfl|rfl:=V
 .exact DB A _ ln Q e x j cl y F H ys _ (.inl ⟨rfl,rfl,rfl⟩) λW b=>Uc (Z W b) e Y
 .exact DB A _ ln Q e x j cl y F H ys _ (.inr (.inl ⟨rfl,rfl,rfl⟩)) λW b=>Pj (Z W b) e x j cl y F H ys Y (hv.bl b) (λg hg=>⟨af (M g hg).1 b.lt,by rw[gV _ _ _ _ (M g hg).1];exact(M g hg).2⟩) (hc rfl)
 exact DB A _ ln Q e x j cl y F H ys _ (.inr (.inr ⟨rfl,rfl,rfl⟩)) λW b=>Tz (Z W b) e x Y
end
section
variable{L:Nat}{P:kC}
theorem Bf(y:tg≠3)(kd ln nr e x ck cl ca:Int)(Y:Option Addr)(vc:Nat)(ys:List Int)(R:Vo){F N:Nat}{A:Array Value}(hF:(F=341/\N=180/\A=#[.pointer (some ⟨p,0,none⟩),.int .i64 e,.int .i64 x])\/(F=342/\N=182/\A=#[.pointer (some ⟨p,0,none⟩),.int .i64 e,.int .i64 x,gK Y ys.length vc])\/(F=343/\N=345/\A=#[.pointer (some ⟨p,0,none⟩),.int .i64 e]))(hK:∀W,Bl w W->nQ N A W (ir cP w.heap.size 3) tg p a b c d L R.r R.val P):nQ F #[.agg #[.pointer (some ⟨p,0,none⟩)],Mr kd ln nr e x ck cl ca (gK Y ys.length vc)] w cP tg p a b c d L R.r R.val P:=by
 obtain⟨W,Q⟩:∃W,W=(((w.alloc (ig #[.pointer (some ⟨p,0,none⟩)] 238)).alloc (Wv kd ln nr e x ck cl ca Y ys vc)).alloc (ig lF 222)):=⟨_,rfl⟩;obtain⟨b3,a0,_,_,hX⟩:=LB Q;have M:=gN (hK W b3);unfold nQ at M;obtain⟨HX,HB,HW⟩:=iI hX b3 Q;rw[Q]at M;clear hX b3 hK Q;unfold nQ;unfold lF at M;obtain⟨rfl,rfl,rfl⟩|⟨rfl,rfl,rfl⟩|⟨rfl,rfl,rfl⟩:=hF;all_goals
  first|go_enter func341,ntmps341|go_enter func342,ntmps342|go_enter func343,ntmps343
  go_wp2_with fail;refine M.L ?_;rintro en w2⟨xa,xc,rfl,ho,V⟩;have j:=HW.o;unfold lF at j;rw[<-j]at ho V;have h:w2.heap[w.heap.size+1+1]?=some (ig #[.int .i64 0,.int .i64 0,.int .i64 0,gK none 0 0] 222 (0,0)):=(V.o.block _ C (by rw[jc _ _ _ _ C];exact Ne.symm y)).H HX;obtain⟨n0,n1,n2,n3,lN⟩:=sj h;obtain⟨f0,f1,f2,f3⟩:=yM h 0 1 2 3;have HP:=nJ ho V h;clear ho V h j M;unfold Vo.r nE;go_wp2;have Z:=((((gI.refl (λb=>b=w.heap.size+1+1) w2).setCell ⟨w.heap.size+1+1,0,none⟩ (.inl rfl) (.int .i64 R.wh)).setCell ⟨w.heap.size+1+1,1,none⟩ (.inl rfl) (.int .i64 R.pr)).setCell ⟨w.heap.size+1+1,2,none⟩ (.inl rfl) (.int .i64 R.ba)).setCell ⟨w.heap.size+1+1,3,none⟩ (.inl rfl) (gK xa R.val.length xc);exact aG (v:=R.r (gK xa R.val.length xc)) (by simp[results,results341,results342,results343,go_sem,Vo.r,nE,n0,n1,n2,n3]) rfl (Dj (m:=R.r) y HB a0 HP.2.2 bT HP.1 HP.2.1 Z)
def MX(h:ml w cP tg p a b c d L (.voter s))(j:tg≠3)(kd ln M e x Q cl V:Int)(Y:kd=5\/kd=6\/kd=7)(y:Option Addr)(A:Nat)(ys:List Int)(F:(Lit.int .i64 e).wf=true)(hl:L<=1000000000000)(hv:Bs w (gK y ys.length A) (ys.map B8))(H:∀g,(gK y ys.length A).ownBlock=some g->g<w.heap.size/\cP g≠tg)(Z:ys.length<=255)(a0:nX ys):nQ (336+kd.toNat) #[.agg #[O p],Mr kd ln M e x Q cl V (gK y ys.length A)] w cP tg p a b c d L (vA s kd e x ys).1.r (vA s kd e x ys).1.val (.voter (vA s kd e x ys).2):=by
 have hh:∀W,Bl w W->ml W (ir cP w.heap.size 3) tg p a b c d L (.voter s):=λW b=>h.bl b λ_ h=>gV _ _ _ _ h;obtain rfl|rfl|rfl:=Y
 .exact Bf j _ ln M e x Q cl V y A ys _ (.inl ⟨rfl,rfl,rfl⟩) λW b=>Tf (hh W b) e x ys F hl
 .exact Bf j _ ln M e x Q cl V y A ys _ (.inr (.inl ⟨rfl,rfl,rfl⟩)) λW b=>VX (hh W b) e x y A ys F hl (hv.bl b) (λg hg=>⟨af (H g hg).1 b.lt,by rw[gV _ _ _ _ (H g hg).1];exact(H g hg).2⟩) Z a0
 exact Bf j _ ln M e x Q cl V y A ys _ (.inr (.inr ⟨rfl,rfl,rfl⟩)) λW b=>M9 (hh W b) e x ys F
end
def U4(w):(Instr.makeMap 400 none).run prog w=.ok (.map (some w.heap.size)) (w.alloc (.map #[] 0)):=rfl
def Oc(W:World)(o o'):({(W.alloc o)with heap:=(W.alloc o).heap.setIfInBounds W.heap.size o'}:World)=W.alloc o':=by
 show({(W.alloc o)with heap:=(W.heap.push o).setIfInBounds W.heap.size o'}:World)=W.alloc o';have:(W.heap.push o).setIfInBounds W.heap.size o'=W.heap.push o':=by
  apply Array.ext
  .simp
  intro i j y;by_cases h:i=W.heap.size
  .simp_all
  simp at j;rw[Array.getElem_setIfInBounds_ne (je j) (Ne.symm h),gv C,gv C]
 rw[this];rfl
def IH(j:t=400\/t=405)(W:World)(g:Nat)(es:Array MapEntry)(n:Nat)(k:Int)(f:Value)(y:g=W.heap.size)(A:Instr.findNow (.int .i64) (.int .i64 k) es.toList 0=some none):(Instr.mapUpdate t (.map (some g)) (.int .i64 k) f).run prog (W.alloc (.map es n))=.ok () (W.alloc (.map (es.push ⟨.int .i64 k,f,n⟩) (n+1))):=by
 subst y;have h:(W.alloc (.map es n)).heap[W.heap.size]?=some (.map es n):=ao W _;have F:=eW (P:=prog) (w:=W.alloc (.map es n)) (k:= .int .i64 k) underlying3 vN false 9999;obtain rfl|rfl:=j;all_goals
  simp only[Instr.mapUpdate,Sem.run_bind,Z4 underlying400,Z4 underlying405,Result.andThen,aI h,F,(fa (w:=W.alloc (.map es n)) underlying3 A)];rw[Z7 _ h,Oc]
def Y4:Array MapEntry:=#[⟨I 1,(Value.func (Fn.func 334) #[] #[]),0⟩,⟨I 2,(Value.func (Fn.func 335) #[] #[]),1⟩,⟨I 3,(Value.func (Fn.func 336) #[] #[]),2⟩,⟨I 4,(Value.func (Fn.func 337) #[] #[]),3⟩]
def CI(h:t=400\/t=405){k:Int}(i:Nat){f:Value}(j:w.heap[g]?=some (.map es n))(y:Instr.findNow (.int .i64) (.int .i64 k) es.toList 0=some (some (i,f))):(Instr.lookup t (.map (some g)) (.int .i64 k) true).run prog w=.ok (.tuple #[f,.bool true]) w:=by
 have A:=fa (w:=w) underlying3 y;have F:=eW (P:=prog) (w:=w) (k:= .int .i64 k) underlying3 vN es.isEmpty 9999;obtain rfl|rfl:=h<;>simp[Instr.lookup,Sem.run_bind,aI j,F,A]
def Du{base:Nat}{u:Value}(h:w.ownsRow base 5 1 u n (ys.map B8)):Bs w u (ys.map B8):=by
 have F:=h.1;obtain⟨y,L⟩|⟨g,cap,H,y,_⟩:=h.2
 .exact .inl ⟨y,aW.1 C⟩
 subst y;exact .inr ⟨(U g 0),cap,by congr 1;simpa using F.symm,λj u A=>by rw[nW,bP,h.cellAt j (gM ((aj.1 A).1))];exact A⟩
section
variable{L:Nat}{P:kC}
def Lb{M:World}{Q:Nat}(F:Bl w W)(Z:Tl W w2 (ir cP w.heap.size 3) tg p a b c d L P v)(A:Bl w2 M)(V:M.ownsRow w2.heap.size 5 1 (gK ba ds.length Q) ds.length (ds.map B8)):∃h j,(gU (.tuple #[gK ba ds.length Q,.bool true]):Ending)=gU (.tuple #[gK h ds.length j,.bool true])/\M.ownsRow w.heap.size 5 1 (gK h ds.length j) ds.length (ds.map B8)/\Tl w M cP tg p a b c d L P (gK h ds.length j):=by
 obtain⟨L',fz,t1,t2,l1,l2,hp,H⟩:=Z;have s1:=F.lt;have s2:=H.size;have s3:=A.lt;refine⟨ba,Q,rfl,iE V λg y=>?_,L',ir fz w2.heap.size 1,λg y=>jc _ _ _ _ (V.lt g y).1,λg y=>by rw[gV _ _ _ _ C,t2 g C,gV _ _ _ _ y],l1,l2,hp.bl A λg y=>gV _ _ _ _ y,?_⟩
 .have h1:=(V.lt g y).1;omega
 refine⟨A.os.H (H.os.H F.os),A.tape.H (H.tape.H F.tape),A.output.H (H.output.H F.output),C,λi Y hn=>?_⟩;rw[A.heap C,H.block i C λe=>hn (by rwa[gV _ _ _ _ Y]at e),F.heap Y]
abbrev ZJ(v:Value):Value:= .tuple #[v,.bool true]
theorem IV{s:St}(h:ml w cP tg p a b c d L (.unit ch s))(htg:tg≠3)(kd ln nr e x ck cl ca:Int)(hkd:kd=1\/kd=2\/kd=3)(va:Option Addr)(vc:Nat)(ys:List Int)(hv:Bs w (gK va ys.length vc) (ys.map B8))(hvb:∀g,(gK va ys.length vc).ownBlock=some g->g<w.heap.size/\cP g≠tg)(hc:kd=2->tE ck ys.length=true)(hl:L<=1000000000000)(R:An×St)(hR:R=uA a b c d ch s kd e x ck cl ca ys)(hRl:R.1.ct.val.length<=255):nQ 333 #[.agg #[O p],.agg #[I kd,I ln,I nr,I e,I x,I ck,I cl,I ca,gK va ys.length vc]] w cP tg p a b c d L ZJ (j5 101 [nr,R.1.wh,R.1.ep,R.1.mark,R.1.ct.kd,R.1.ct.cl,R.1.ct.ca] R.1.ct.val) (.unit ch R.2):=by
 have hmk:=U4;have q1:=IH (.inl rfl) ((w.alloc (ig #[O p] 233)).alloc (AZ kd ln nr e x ck cl ca va ys vc)) (w.heap.size+1+1) #[] 0 1 (Value.func (Fn.func 334) #[] #[]) bz rfl;have q2:=IH (.inl rfl) ((w.alloc (ig #[O p] 233)).alloc (AZ kd ln nr e x ck cl ca va ys vc)) (w.heap.size+1+1) #[⟨I 1,(Value.func (Fn.func 334) #[] #[]),0⟩] 1 2 (Value.func (Fn.func 335) #[] #[]) bz rfl;have q3:=IH (.inl rfl) ((w.alloc (ig #[O p] 233)).alloc (AZ kd ln nr e x ck cl ca va ys vc)) (w.heap.size+1+1) #[⟨I 1,(Value.func (Fn.func 334) #[] #[]),0⟩,⟨I 2,(Value.func (Fn.func 335) #[] #[]),1⟩] 2 3 (Value.func (Fn.func 336) #[] #[]) bz rfl;have q4:=IH (.inl rfl) ((w.alloc (ig #[O p] 233)).alloc (AZ kd ln nr e x ck cl ca va ys vc)) (w.heap.size+1+1) #[⟨I 1,(Value.func (Fn.func 334) #[] #[]),0⟩,⟨I 2,(Value.func (Fn.func 335) #[] #[]),1⟩,⟨I 3,(Value.func (Fn.func 336) #[] #[]),2⟩] 3 4 (Value.func (Fn.func 337) #[] #[]) bz rfl;simp only[List.push_toArray,dV,dz,Nat.reduceAdd]at q1 q2 q3 q4;obtain⟨W,hW⟩:∃W,W=((w.alloc (ig #[O p] 233)).alloc (AZ kd ln nr e x ck cl ca va ys vc)).alloc (.map Y4 4):=⟨_,rfl⟩;obtain⟨b3,hs3,hu0,hq,hm3⟩:=LB hW;have u0:W.cell? (U w.heap.size 0)=some (O p):=ax W _ 0 _ 233 (0,0) hu0;obtain⟨g0,g1,g2,g3⟩:=pD hq 0 1 2 3 rfl;obtain⟨g4,g5,g6⟩:=sy hq 4 5 6 rfl;obtain⟨g7,g8⟩:=vg hq 7 8 rfl;have lu:w.heap.size<W.heap.size:=C;have lq:w.heap.size+1<W.heap.size:=C;have HU:Hid (∀W',Bl W W'->nQ (333+kd.toNat) #[.agg #[O p],.agg #[I kd,I ln,I nr,I e,I x,I ck,I cl,I ca,gK va ys.length vc]] W' (ir cP w.heap.size 3) tg p a b c d L R.1.val R.1.ct.val (.unit ch R.2)):=λW' hW'=>by have hbb:=b3.H hW';rw[hR];exact Rl (h.bl hbb λg hg=>gV _ _ _ _ hg) htg kd ln nr e x ck cl ca hkd va vc ys (hv.bl hbb) (λg hg=>⟨af (hvb g hg).1 hbb.lt,by rw[gV _ _ _ _ (hvb g hg).1];exact(hvb g hg).2⟩) hc hl
 have ql:(Instr.lookup 400 (.map (some (w.heap.size+1+1))) (I kd) true).run prog W=.ok (.tuple #[.func (Fn.func (333+kd.toNat)) #[] #[],.bool true]) W:=by
  obtain rfl|rfl|rfl:=hkd
  .exact CI (.inl rfl) 0 hm3 rfl
  .exact CI (.inl rfl) 1 hm3 rfl
  exact CI (.inl rfl) 2 hm3 rfl
 have HW:=gN hW;unfold Y4 at HW;obtain⟨HB,HQ⟩:=gO b3 (And.intro hu0 hq);have hWt:=HW.o;clear hW hR b3 h hv hvb hc hm3 hu0 hq;rw[hWt]at ql;clear hWt;unfold nQ at HU|-;obtain⟨F,hF⟩:=gG (333+kd.toNat);rw[hF]at HU ql;have hFF:Hid (F=334\/F=335\/F=336):=nC;clear hF hkd;have hWk:=HW.o;go_enter func333,ntmps333;go_upto_region 5 with fail;rw[<-hWk];clear hWk ql q1 q2 q3 q4 hmk;obtain rfl|rfl|rfl:=hFF.o;all_goals
  go_region_held3(λW=>W.cell? (U w.heap.size 0)=some (O p)/\W.cell? (U (w.heap.size+1) 0)=some (I kd)/\W.cell? (U (w.heap.size+1) 1)=some (I ln)/\W.cell? (U (w.heap.size+1) 2)=some (I nr)/\W.cell? (U (w.heap.size+1) 3)=some (I e)/\W.cell? (U (w.heap.size+1) 4)=some (I x)/\W.cell? (U (w.heap.size+1) 5)=some (I ck)/\W.cell? (U (w.heap.size+1) 6)=some (I cl)/\W.cell? (U (w.heap.size+1) 7)=some (I ca)/\W.cell? (U (w.heap.size+1) 8)=some (mP va ys vc)) (go_keep)
   (first|((first|go_at_call 334|go_at_call 335|go_at_call 336);refine(HU _ ?hb).L ?_;(case hb=>exact jU);rintro en w2⟨xa,xc,rfl,ho,hT⟩;have oQ:=hT.o;have e1:=(oQ.block w.heap.size lu (by rw[jc _ _ _ _ jr];exact Ne.symm htg)).H HQ.1;have e2:=(oQ.block (w.heap.size+1) lq (by rw[jc _ _ _ _ rE];exact Ne.symm htg)).H HQ.2;have l1:=(ae.1 e1).1;have l2:=(ae.1 e2).1;have zu:=ax w2 _ 0 _ 233 (0,0) e1;simp at zu;have z0:=ax w2 _ 0 _ 100 (0,0) e2;simp at z0;have z1:=ax w2 _ 1 _ 100 (0,0) e2;simp at z1;have z2:=ax w2 _ 2 _ 100 (0,0) e2;simp at z2;have z3:=ax w2 _ 3 _ 100 (0,0) e2;simp at z3;have z4:=ax w2 _ 4 _ 100 (0,0) e2;simp at z4;have z5:=ax w2 _ 5 _ 100 (0,0) e2;simp at z5;have z6:=ax w2 _ 6 _ 100 (0,0) e2;simp at z6;have z7:=ax w2 _ 7 _ 100 (0,0) e2;simp at z7;have z8:=ax w2 _ 8 _ 100 (0,0) e2;simp at z8;have HRB:Hid (∀W2,Bl w2 W2->_):=λW2 h2=>Ay nr R.1.wh R.1.ep R.1.mark R.1.ct.kd R.1.ct.cl R.1.ct.ca xa xc R.1.ct.val W2 ((Du ho).bl h2) (λg hg=>af (ho.lt g hg).2 h2.lt) hRl;have HP:=gN hT;clear ho hT oQ e1 e2;unfold An.val lC)|(go_at_call 338;refine(HRB _ ?hb).L ?_;(case hb=>exact jU);rintro en w3⟨ba,bc,rfl,hb3,ho3⟩;have hB3:Bl w2 w3:=Bl.H jU hb3;have yu:=(hB3.cell l1).H zu;obtain⟨y0,y1,y2,y3⟩:=hB3.N l2 z0 z1 z2 z3;obtain⟨y4,y5,y6⟩:=hB3.M l2 z4 z5 z6;obtain⟨y7,y8⟩:=hB3.D l2 z7 z8;have HQ3:=nI hB3 ho3;clear hb3 hB3 ho3))
  all_goals
   go_wp2;go_ret2;exact Lb (HB.H jU) HP HQ3.1 HQ3.2
end
def T6(w):(Instr.makeMap 405 none).run prog w=.ok (.map (some w.heap.size)) (w.alloc (.map #[] 0)):=rfl
def YH:Array MapEntry:=#[⟨I 5,(Value.func (Fn.func 341) #[] #[]),0⟩,⟨I 6,(Value.func (Fn.func 342) #[] #[]),1⟩,⟨I 7,(Value.func (Fn.func 343) #[] #[]),2⟩]
section
variable{L:Nat}
theorem E7(h:ml w cP tg p a b c d L (.voter s))(htg:tg≠3)(kd ln nr e x ck cl ca:Int)(hkd:kd=5\/kd=6\/kd=7)(va:Option Addr)(vc:Nat)(ys:List Int)(hwf:(Lit.int .i64 e).wf=true)(hl:L<=1000000000000)(hv:Bs w (gK va ys.length vc) (ys.map B8))(hvb:∀g,(gK va ys.length vc).ownBlock=some g->g<w.heap.size/\cP g≠tg)(hy5:ys.length<=255)(hys:nX ys)(R:Vo×VS)(hR:R=vA s kd e x ys)(hRl:R.1.val.length<=255):nQ 340 #[.agg #[.pointer (some ⟨p,0,none⟩)],Mr kd ln nr e x ck cl ca (gK va ys.length vc)] w cP tg p a b c d L ZJ (j5 102 [nr,R.2.lt,R.1.wh,R.1.pr,R.1.ba] R.1.val) (.voter R.2):=by
 have hmk:=T6;have hz2:((w.alloc (ig #[.pointer (some ⟨p,0,none⟩)] 238)).alloc (Wv kd ln nr e x ck cl ca va ys vc)).heap.size=w.heap.size+1+1:=bz;have q1:=IH (.inr rfl) ((w.alloc (ig #[.pointer (some ⟨p,0,none⟩)] 238)).alloc (Wv kd ln nr e x ck cl ca va ys vc)) (w.heap.size+1+1) #[] 0 5 (Value.func (Fn.func 341) #[] #[]) hz2.symm rfl;have q2:=IH (.inr rfl) ((w.alloc (ig #[.pointer (some ⟨p,0,none⟩)] 238)).alloc (Wv kd ln nr e x ck cl ca va ys vc)) (w.heap.size+1+1) #[⟨.int .i64 5,(Value.func (Fn.func 341) #[] #[]),0⟩] 1 6 (Value.func (Fn.func 342) #[] #[]) hz2.symm rfl;have q3:=IH (.inr rfl) ((w.alloc (ig #[.pointer (some ⟨p,0,none⟩)] 238)).alloc (Wv kd ln nr e x ck cl ca va ys vc)) (w.heap.size+1+1) #[⟨.int .i64 5,(Value.func (Fn.func 341) #[] #[]),0⟩,⟨.int .i64 6,(Value.func (Fn.func 342) #[] #[]),1⟩] 2 7 (Value.func (Fn.func 343) #[] #[]) hz2.symm rfl;simp only[List.push_toArray,dV,dz,Nat.reduceAdd]at q1 q2 q3;obtain⟨W,hW⟩:∃W,W=((w.alloc (ig #[.pointer (some ⟨p,0,none⟩)] 238)).alloc (Wv kd ln nr e x ck cl ca va ys vc)).alloc (.map YH 3):=⟨_,rfl⟩;obtain⟨b3,hs3,hu0,hq,hm3⟩:=LB hW;have u0:W.cell? ⟨w.heap.size,0,none⟩=some (.pointer (some ⟨p,0,none⟩)):=ax W _ 0 _ 238 (0,0) hu0;obtain⟨g0,g1,g2,g3⟩:=pD hq 0 1 2 3 rfl;obtain⟨g4,g5,g6⟩:=sy hq 4 5 6 rfl;obtain⟨g7,g8⟩:=vg hq 7 8 rfl;have lu:w.heap.size<W.heap.size:=C;have lq:w.heap.size+1<W.heap.size:=C;have HU:Hid (nQ (336+kd.toNat) #[.agg #[.pointer (some ⟨p,0,none⟩)],Mr kd ln nr e x ck cl ca (mP va ys vc)] W (ir cP w.heap.size 3) tg p a b c d L R.1.r R.1.val (.voter R.2)):=by rw[hR];exact MX (h.bl b3 λg hg=>gV _ _ _ _ hg) htg kd ln nr e x ck cl ca hkd va vc ys hwf hl (hv.bl b3) (λg hg=>⟨af (hvb g hg).1 b3.lt,by rw[gV _ _ _ _ (hvb g hg).1];exact(hvb g hg).2⟩) hy5 hys
 have ql:(Instr.lookup 405 (.map (some (w.heap.size+1+1))) (.int .i64 kd) true).run prog W=.ok (.tuple #[.func (Fn.func (336+kd.toNat)) #[] #[],.bool true]) W:=by
  obtain rfl|rfl|rfl:=hkd
  .exact CI (.inr rfl) 0 hm3 rfl
  .exact CI (.inr rfl) 1 hm3 rfl
  exact CI (.inr rfl) 2 hm3 rfl
 have HW:=gN hW;unfold YH at HW;obtain⟨HB,HQ⟩:=gO b3 (And.intro hu0 hq);have hWt:=HW.o;clear hW hR b3 h hv hvb hys hm3 hu0 hq hz2;rw[hWt]at ql;clear hWt;unfold nQ at HU|-;obtain rfl|rfl|rfl:=hkd;all_goals
  have hWk:=HW.o;go_enter func340,ntmps340;go_upto_region 5 with fail;rw[<-hWk];clear hWk ql q1 q2 q3 hmk;go_wp2_with fail;refine HU.L ?_;rintro en w2⟨xa,xc,rfl,ho,hT⟩;have oQ:=hT.o;have e1:=(oQ.block w.heap.size lu (by rw[jc _ _ _ _ jr];exact Ne.symm htg)).H HQ.1;have e2:=(oQ.block (w.heap.size+1) lq (by rw[jc _ _ _ _ rE];exact Ne.symm htg)).H HQ.2;obtain⟨V,hV⟩:=gG (w2.alloc (ig #[.int .i64 R.1.wh,.int .i64 R.1.pr,.int .i64 R.1.ba,gK xa R.1.val.length xc] 222));have bV:Bl w2 V:=by rw[<-hV];exact jZ.alloc _
  obtain⟨v0,v1,v2,v3,lv⟩:=sj (show V.heap[w2.heap.size]?=some (ig #[.int .i64 R.1.wh,.int .i64 R.1.pr,.int .i64 R.1.ba,gK xa R.1.val.length xc] 222 (0,0)) by rw[<-hV];exact ao w2 _);have l1:=(ae.1 e1).1;have l2:=(ae.1 e2).1;have zu:=(bV.cell l1).H (ax w2 _ 0 _ 238 (0,0) e1);have z2:=(bV.cell l2).H (ax w2 _ 2 _ 100 (0,0) e2);simp at zu z2;have l1V:=af l1 bV.lt;have l2V:=af l2 bV.lt;have HLt:Hid (∀W',Bl V W'->iU 339 #[.pointer (some ⟨p,0,none⟩)] W' λen w'=>en=gU (.int .i64 R.2.lt)/\Bl W' w'):=λW' hW'=>by obtain⟨_,fz,_,_,_,_,hvt,_⟩:=hT;exact J3 (hvt.bl (fz:=fz) (bV.H hW') λ_ _=>rfl)
  have HVB:Hid (∀W',Bl V W'->_):=λW' hW'=>BE nr R.2.lt R.1.wh R.1.pr R.1.ba xa xc R.1.val W' ((Du ho).bl (bV.H hW')) (λb hb=>af (ho.lt b hb).2 (bV.H hW').lt) hRl;obtain⟨HV,HBV,HP⟩:=iI hV bV hT;clear ho hT oQ e1 e2 hV bV HU HW u0 g0 g1 g2 g3 g4 g5 g6 g7 g8;unfold Vo.r nE;go_upto_region 6 with fail;rw[HV.o];clear HV;go_region_held3(λW'=>W'.cell? ⟨w.heap.size,0,none⟩=some (.pointer (some ⟨p,0,none⟩))/\W'.cell? ⟨w.heap.size+1,2,none⟩=some (.int .i64 nr)/\W'.cell? ⟨w2.heap.size,0,none⟩=some (.int .i64 R.1.wh)/\W'.cell? ⟨w2.heap.size,1,none⟩=some (.int .i64 R.1.pr)/\W'.cell? ⟨w2.heap.size,2,none⟩=some (.int .i64 R.1.ba)/\W'.cell? ⟨w2.heap.size,3,none⟩=some (gK xa R.1.val.length xc)) (go_keep) (first|(go_at_call 339;refine(HLt _ ?hb).L ?_;(case hb=>exact jU);rintro en w3⟨rfl,hb3⟩;have hB3:Bl V w3:=Bl.H jU hb3;have yu:=(hB3.cell l1V).H zu;have y2:=(hB3.cell l2V).H z2;obtain⟨x0,x1,x2,x3⟩:=hB3.N lv v0 v1 v2 v3;have HB3:=gN hB3;clear hb3 hB3)|(go_at_call 344;refine(HVB _ ?hb).L ?_;(case hb=>first|exact HB3.o|exact HB3.drew|exact HB3.drewN _);rintro en w4⟨ba,bc,rfl,hb4,ho4⟩;have hB4:Bl V w4:=Bl.H (by first|exact HB3.o|exact HB3.drew|exact HB3.drewN _) hb4;have tu:=(hB4.cell l1V).H zu;have t2:=(hB4.cell l2V).H z2;obtain⟨t4,t5,t6,t7⟩:=hB4.N lv v0 v1 v2 v3;have HQ4:=nI hB4 ho4;clear hb4 hB4 ho4));all_goals
   go_wp2;go_ret2;exact Lb HB HP (HBV.H HQ4.1) (iE HQ4.2 λg hg=>by have:=(HQ4.2.lt g hg).1;have:=HBV.lt;have:=HB3.lt;first|omega|(simp at*;omega))
end
abbrev ak(a b:Int):Value:= .agg #[I a,I b]
def Vg(w)(d)(a c):(Op.equalIn (d+1) 3 (I a) (I c)).run prog w=.ok (a==c) w:=rfl
def YF(w)(a b):(part 3 #[I a,I b] 0).run prog w=.ok (I a) w:=rfl
def Yw(w)(a b):(part 3 #[I a,I b] 1).run prog w=.ok (I b) w:=rfl
def um(w)(em)(a b):(Instr.checkKey em 10000 294 (ak a b)).run prog w=.ok () w:=rfl
def XU(w)(a b c d):(Op.equal 294 (ak a b) (ak c d)).run prog w=.ok (a==c&&b==d) w:=by
 have h:=Vg w 9998 a c;have j:=Vg w 9998 b d;show(Op.equalIn (9998+1+1) 294 (ak a b) (ak c d)).run prog w=_;unfold Op.equalIn;simp only[Nat.reduceAdd]at h j
 cases y:(a==c)<;>cases A:(b==d)<;>rw[y]at h<;>rw[A]at j<;>simp[Sem.run_bind,Z4 underlying294,Result.andThen,YF,Yw,h,j]
structure Qv where
 cl:Int
 ln:Int
 v:Value
 bo:Nat
def Qv.A(e:Qv):MapEntry:=⟨ak e.cl e.ln,e.v,e.bo⟩
def lI(l:List Qv):Array MapEntry:=(l.map Qv.A).toArray
def xT(a b:Int):List Qv->Nat->Option (Nat×Value)
 |[],_=>none
 |e::es,i=>if a=e.cl/\b=e.ln then some (i,e.v)else xT a b es (i+1)
theorem Lg(w)(a b):∀(l:List Qv) (i:Nat),(Instr.findAsking 294 (ak a b) (l.map Qv.A) i).run prog w=.ok (xT a b l i) w
 |[],i=>by simp[Instr.findAsking,xT]
 |e::es,i=>by
  have h:=Lg w a b es (i+1);have y:=XU w a b e.cl e.ln;simp only[bj,Instr.findAsking,Sem.run_bind,xT];simp only[Qv.A]at y|-;rw[y];by_cases j:a=e.cl/\b=e.ln
  .simp[Result.andThen,j]
  have A:(a==e.cl&&b==e.ln)=false:=by simpa using j
  rw[A,az j];exact h
theorem wO(w)(a b)(l):(Instr.findKey 294 (ak a b) (lI l).toList).run prog w=.ok (xT a b l 0) w:=by
 unfold Instr.findKey
 cases l with
 |nil=>simp[lI,Instr.findNow,xT]
 |cons e es=>have h:=Lg w a b (e::es) 0;simp;exact h
theorem xM:∀{l:List Qv} {i:Nat},(∀e∈l,¬(a=e.cl/\b=e.ln))->xT a b l i=none
 |[],_,_=>rfl
 |e::es,i,h=>by unfold xT;rw[az (h e aN)];exact xM λx j=>h x (aX _ j)
theorem uH:∀{l1 l2:List Qv} {e:Qv} {i:Nat},(∀x∈l1,¬(a=x.cl/\b=x.ln))->a=e.cl->b=e.ln->xT a b (l1++e::l2) i=some (i+l1.length,e.v)
 |[],l2,e,i,_,j,A=>by show xT a b (e::l2) i=_;unfold xT;rw[aE ⟨j,A⟩];rfl
 |x::xs,l2,e,i,h,j,A=>by show xT a b (x::(xs++e::l2)) i=_;unfold xT;rw[az (h x aN),uH (λy F=>h y (aX _ F)) j A];simp;omega
section
variable{l l1 l2:List Qv}{e:Qv}
def D8(y:w.heap[gm]?=some (.map (lI l) iC))(h:∀e∈l,¬(a=e.cl/\b=e.ln)):(Instr.lookup 120 (.map (some gm)) (ak a b) true).run prog w=.ok (.tuple #[.agg #[I 0,OO],.bool false]) w:=by have j:=wO w a b l;rw[xM h]at j;simp[Instr.lookup,aI y,um,j]
def sM(y:w.heap[gm]?=some (.map (lI (l1++e::l2)) iC))(h:∀x∈l1,¬(a=x.cl/\b=x.ln))(A:a=e.cl)(F:b=e.ln)(ok):(Instr.lookup 120 (.map (some gm)) (ak a b) ok).run prog w=.ok (if ok then .tuple #[e.v,.bool true]else e.v) w:=by
 have j:=wO w a b (l1++e::l2);rw[uH h A F]at j
 cases ok<;>simp[Instr.lookup,aI y,um,j]
def Jc(j:w.heap[gm]?=some (.map (lI l) iC))(h:∀e∈l,¬(a=e.cl/\b=e.ln)):(Instr.mapUpdate 120 (.map (some gm)) (ak a b) v).run prog w=.ok () (setBlock w gm (.map (lI (l++[⟨a,b,v,iC⟩])) (iC+1))):=by
 have y:=wO w a b l;rw[xM h]at y;have A:(lI l).push ⟨ak a b,v,iC⟩=lI (l++[⟨a,b,v,iC⟩]):=by simp[lI,Qv.A]
 simp[Instr.mapUpdate,aI j,um,y,Z7 _ j,A,setBlock]
end
theorem LR{α:Type}(f):∀(l1:List α) (x:α) (l2:List α),(l1++x::l2).modify l1.length f=l1++f x::l2
 |[],x,l2=>rfl
 |y::l1,x,l2=>by show y::(l1++x::l2).modify l1.length f=_;rw[LR f l1 x l2];rfl
def PR(a b)(w):(Instr.keyThatStays (ak a b) (ak a b)).run prog w=.ok (ak a b) w:=by
 have h:Instr.sameBits 10000 (ak a b) (ak a b)=true:=by simp[Instr.sameBits]
 unfold Instr.keyThatStays;simp_all
section
variable{l l1 l2:List Qv}{e:Qv}
def JR(j:w.heap[gm]?=some (.map (lI (l1++e::l2)) iC))(h:∀x∈l1,¬(e.cl=x.cl/\e.ln=x.ln)):(Instr.mapUpdate 120 (.map (some gm)) (ak e.cl e.ln) v).run prog w=.ok () (setBlock w gm (.map (lI (l1++{e with v:=v}::l2)) iC)):=by
 have y:=wO w e.cl e.ln (l1++e::l2);rw[uH h rfl rfl,bP]at y;have A:((lI (l1++e::l2))[l1.length]?).map (·.key)=some (ak e.cl e.ln):=by simp[lI,Qv.A]
 have F:(lI (l1++e::l2)).modify l1.length (λx=>{x with key:=ak e.cl e.ln,val:=v})=lI (l1++{e with v:=v}::l2):=by unfold lI;rw[List.modify_toArray,aZ,bj,aZ,bj];have:=LR (λx:MapEntry=>{x with key:=ak e.cl e.ln,val:=v}) (l1.map Qv.A) e.A (l2.map Qv.A);rw[ay]at this;rw[this];rfl
 simp only[Instr.mapUpdate,Sem.run_bind,Z4 underlying120,Result.andThen,aI j,um,y];rw[A];simp only[eN,PR,Z7 _ j,F];rfl
def G5(ty)(j:w.heap[gm]?=some (.map (lI (e::l2)) iC)):(Builtin.delete_ #[120,294] ty #[.map (some gm),ak e.cl e.ln]).run prog w=.ok (.tuple #[]) (setBlock w gm (.map (lI l2) iC)):=by
 have h:=wO w e.cl e.ln ([]++e::l2);rw[uH bz rfl rfl]at h;simp at h;have y:(lI (e::l2)).eraseIdxIfInBounds 0=lI l2:=by simp[lI,Array.eraseIdxIfInBounds]
 simp[Builtin.delete_,Sem.run_bind,Z4 underlying120,Result.andThen,aI j,um,h,Z7 _ j,y,setBlock]
end
structure Qz where
 cl:Int
 ln:Int
 nr:Int
 data:List Int
def wu(w:World)(cP:Nat->Nat)(tb:Nat)(e:Qv)(z:Qz):Prop:=
 e.cl=z.cl/\e.ln=z.ln/\∃a c,e.v=.agg #[I z.nr,.slice a z.data.length c]/\w.ownsRow 0 5 1 (.slice a z.data.length c) z.data.length (z.data.map B8)/\∀b,(Value.slice a z.data.length c).ownBlock=some b->cP b=tb
def Qv.M(e:Qv):Option Nat:=match e.v with
 | .agg a=>(a[1]?).bind Value.ownBlock
 |_=>none
def wS(l:List Qv):List Value:=l.flatMap λe=>[I e.cl,I e.ln]
structure Qm(w:World)(cP:Nat->Nat)(tn tb g gm iC:Nat)(iv ov:Value)(l:List Qv)(q:List Qz):Prop where
 hp:w.heap[g]?=some (.cells #[iv,.map (some gm),ov] 127 (0,0))
 tg:cP g=tn
 mp:w.heap[gm]?=some (.map (lI l) iC)
 tm:cP gm=tn
 ij:w.ownsRow 0 294 2 ov l.length (wS l)
 tw:∀b,ov.ownBlock=some b->cP b=tn
 len:l.length=q.length
 vs:∀(i:Nat) e z,l[i]?=some e->q[i]?=some z->wu w cP tb e z
 ap:l.Pairwise λe f=>∀b,e.M=some b->f.M≠some b
 ky:l.Pairwise λa b=>¬(a.cl=b.cl/\a.ln=b.ln)
def PZ{j y:Value}(h:W.heap[g]?=some (ig #[j,y] t (0,0))):W.cell? (U g 0)=some j/\W.cell? (U g 1)=some y/\g<W.heap.size:=
 ⟨ax W g 0 _ t _ h,ax W g 1 _ t (0,0) h,(ae.1 h).1⟩
def wu.M{e:Qv}{z:Qz}(h:wu w cP tb e z){b:Nat}(j:e.M=some b):b<w.heap.size/\cP b=tb:=by obtain⟨_,_,a,c,y,A,F⟩:=h;unfold Qv.M at j;rw[y]at j;exact⟨(A.lt b j).2,F b j⟩
def wu.only{e:Qv}{z:Qz}(h:wu w cP tb e z)(F:gI S w w')(H:∀b,b<w.heap.size->S b->cP b≠tb)(L:∀b,b<w.heap.size->fz b=cP b):wu w' fz tb e z:=by obtain⟨M,Q,a,c,V,y,A⟩:=h;exact⟨M,Q,a,c,V,F.jH y λb j e=>H b (y.lt b j).2 e (A b j),λb j=>by rw[L b (y.lt b j).2];exact A b j⟩
section
variable{wx:World}{l l1 l2:List Qv}{e:Qv}{q q1 q2:List Qz}{z z':Qz}
def Qm.lg(h:Qm w cP tn tb g gm iC iv ov l q):g<w.heap.size:=(ae.1 h.hp).1
def Qm.lm(h:Qm w cP tn tb g gm iC iv ov l q):gm<w.heap.size:=(ae.1 h.mp).1
def Qm.S9(h:Qm w cP tn tb g gm iC iv ov l q):g≠gm:=λe=>by have:=h.hp;rw[e,h.mp]at this;simp at this
def Qm.only(h:Qm w cP tn tb g gm iC iv ov l q)(y:gI S w w')(A:∀b,b<w.heap.size->S b->cP b≠tn/\cP b≠tb)(F:∀b,b<w.heap.size->fz b=cP b):Qm w' fz tn tb g gm iC iv ov l q:=
 ⟨(y.block g h.lg λe=>(A g h.lg e).1 h.tg).H h.hp,(F g h.lg).H h.tg,(y.block gm h.lm λe=>(A gm h.lm e).1 h.tm).H h.mp,(F gm h.lm).H h.tm,y.jH h.ij λb j e=>(A b (h.ij.lt b j).2 e).1 (h.tw b j),λb j=>(F b (h.ij.lt b j).2).H (h.tw b j),h.len,λi e z L M=>(h.vs i e z L M).only y (λb j e=>(A b j e).2) F,h.ap,h.ky⟩
def Qm.bl(h:Qm w cP tn tb g gm iC iv ov l q)(j:Bl w w')(y:∀b,b<w.heap.size->fz b=cP b):Qm w' fz tn tb g gm iC iv ov l q:=h.only (jY j) (λ_ _ e=>e.elim) y
def kS(w)(r)(o):gI (λk=>k=r) w (setBlock w r o):=
 ⟨rfl,rfl,rfl,by simp[setBlock],λk _ h=>by simp[setBlock,Ne.symm h]⟩
def ou{r:Nat}(h:r<w.heap.size)(o):(setBlock w r o).heap[r]?=some o:=by simp[setBlock,h]
def oD{b:Nat}(j:∃es k,w.heap[b]?=some (.map es k)){base:Nat}{e:TypeId}{size:Nat}{l:Nat}(h:w.ownsRow base e size v l xs):v.ownBlock≠some b:=by intro e';obtain⟨cc,y⟩:=qf h b e';simp_all
def Qm.vX(h:Qm w cP tn tb g gm iC iv ov (l1++e::l2) (q1++z::q2))(hl:l1.length=q1.length)(hz:wu w cP tb ⟨e.cl,e.ln,v,e.bo⟩ z')(L:∀x∈l1++e::l2,∀b,x.M=some b->(Qv.mk e.cl e.ln v e.bo).M≠some b):Qm (setBlock w gm (.map (lI (l1++{e with v:=v}::l2)) iC)) cP tn tb g gm iC iv ov (l1++{e with v:=v}::l2) (q1++z'::q2):=by
 have Y:=kS w gm (.map (lI (l1++{e with v:=v}::l2)) iC);have hv:∀{x:Qv} {y:Qz},wu w cP tb x y->wu (setBlock w gm (.map (lI (l1++{e with v:=v}::l2)) iC)) cP tb x y:=fun{x y} k=>by obtain⟨k1,k2,a,c,k3,k4,k5⟩:=k;exact⟨k1,k2,a,c,k3,Y.jH k4 λb F e=>oD ⟨_,_,h.mp⟩ k4 (kz F e),k5⟩
 refine⟨(Y.block g h.lg h.S9).H h.hp,h.tg,ou h.lm _,h.tm,?_,h.tw,by have:=h.len;simp at this|-;omega,λi x y A hy=>?_,?_,?_⟩
 .have:=Y.jH h.ij λb F e=>oD ⟨_,_,h.mp⟩ h.ij (kz F e);simpa [wS]using this
 .by_cases hi:i=l1.length
  .subst hi;rw[aC jr]at A;rw[hl,aC jr]at hy;simp at A hy;subst A;subst hy;exact hv hz
  refine hv (h.vs i x y ?_ ?_)
  .rw[<-A];by_cases Q:i<l1.length
   .rw[aB Q,aB Q]
   rw[aC C,aC C];obtain⟨j,Z⟩:∃j,i-l1.length=j+1:=⟨i-l1.length-1,C⟩;rw[Z];rfl
  rw[<-hy];by_cases Q:i<q1.length
  .rw[aB Q,aB Q]
  rw[aC C,aC C];obtain⟨j,Z⟩:∃j,i-q1.length=j+1:=⟨i-q1.length-1,C⟩;rw[Z];rfl
 .have:=h.ap;rw[cu,cI]at this|-;obtain⟨a1,⟨a2,a3⟩,V⟩:=this;refine⟨a1,⟨λy hy b F a0=>L y (mZ hy) b a0 F,a3⟩,λx A y hy=>?_⟩;obtain rfl|hy:=bh.1 hy
  .exact λb F=>L x (mZ A) b F
  exact V x A y (aX _ hy)
 have:=h.ky;rw[cu,cI]at this|-;obtain⟨a1,⟨a2,a3⟩,V⟩:=this;refine⟨a1,⟨a2,a3⟩,λx A y hy=>?_⟩;obtain rfl|hy:=bh.1 hy
 .exact V x A e aN
 exact V x A y (aX _ hy)
def Qm.push(h:Qm w cP tn tb g gm iC iv ov l q){w6:World}(bW:Bl w W){gg cap:Nat}(Y:W.grownBy w6 ov.ownBlock)(V:w6.ownsRow 0 294 2 (gK (G gg) (l.length+1) cap) (l.length+1) (wS l++[I cl,I ln]))(a2:ov.ownBlock=some gg\/w.heap.size<=gg)(hz:wu w cP tb ⟨cl,ln,v,iC⟩ z)(a3:∀x∈l,∀b,x.M=some b->(Qv.mk cl ln v iC).M≠some b)(a4:∀x∈l,¬(x.cl=cl/\x.ln=ln))(a5:tb≠tn):Qm (setBlock (w6.setCell (U g 2) (gK (G gg) (l.length+1) cap)).drew gm (.map (lI (l++[⟨cl,ln,v,iC⟩])) (iC+1))) (ir cP w.heap.size tn) tn tb g gm (iC+1) iv (gK (G gg) (l.length+1) cap) (l++[⟨cl,ln,v,iC⟩]) (q++[z])
 /\gI (λb=>cP b=tn) w (setBlock (w6.setCell (U g 2) (gK (G gg) (l.length+1) cap)).drew gm (.map (lI (l++[⟨cl,ln,v,iC⟩])) (iC+1))):=by
 have o6:gI (λb=>ov.ownBlock=some b) w w6:=(gI.D bW).H ((gI.A Y).L λx _ e=>e.symm);have a6:ov.ownBlock≠some g:=gW h.ij h.hp bT;have a7:ov.ownBlock≠some gm:=oD ⟨_,_,h.mp⟩ h.ij;have Z:w6.heap[g]?=some (ig [iv,.map (some gm),ov].toArray 127 (0,0)):=(o6.block g h.lg a6).H h.hp;have a8:=(o6.block gm h.lm a7).H h.mp;have a0:=jO 2 (gK (G gg) (l.length+1) cap) w6 _ Z;obtain⟨w7,a1⟩:=gG (w6.setCell (U g 2) (gK (G gg) (l.length+1) cap));have o7:gI (λb=>b=g) w6 w7:=by rw[<-a1];exact(gI.refl (λb=>b=g) w6).setCell (U g 2) (.inl rfl) _
 rw[a1]at a0|-;have o8:=kS w7.drew gm (.map (lI (l++[⟨cl,ln,v,iC⟩])) (iC+1));have s6:=o6.size;have s7:=o7.size;have a9:gm<w7.drew.heap.size:=by have:=h.lm;simp;omega
 have aa:g<w7.drew.heap.size:=by have:=h.lg;simp;omega
 have ab:w7.drew.heap[gm]?=some (.map (lI l) iC):=(o7.block gm (gM h.lm) λe=>h.S9 e.symm).H a8;have oA:gI (λb=>ov.ownBlock=some b\/b=g\/b=gm) w (setBlock w7.drew gm (.map (lI (l++[⟨cl,ln,v,iC⟩])) (iC+1))):=
  ((o6.L λ_ _ e=>.inl e).H (o7.L λ_ _ e=>.inr (.inl e))).H ((gI.D ((Bl.refl w7).drew)).H (o8.L λ_ _ e=>.inr (.inr e)))
 have j:gI (λb=>cP b=tn) w (setBlock w7.drew gm (.map (lI (l++[⟨cl,ln,v,iC⟩])) (iC+1))):=oA.L λb _ e=>by
  obtain e|e|e:=e
  .exact h.tw b e
  .rw[e];exact h.tg
  rw[e];exact h.tm
 have hv:∀{x:Qv} {y:Qz},wu w cP tb x y->wu (setBlock w7.drew gm (.map (lI (l++[⟨cl,ln,v,iC⟩])) (iC+1))) (ir cP w.heap.size tn) tb x y:=fun{x y} k=>k.only j (λb _ e=>by rw[e];exact Ne.symm a5) λb F=>gV _ _ _ _ F;refine⟨⟨(o8.block g aa h.S9).H a0,(gV _ _ _ _ h.lg).H h.tg,ou a9 _,(gV _ _ _ _ h.lm).H h.tm,?_,λb F=>?_,by simp[h.len],λi x y Q A=>?_,?_,?_⟩,j⟩
 .have k7:w7.ownsRow 0 294 2 (gK (G gg) (l.length+1) cap) (l.length+1) (wS l++[I cl,I ln]):=o7.jH V λb F e=>gW V Z bT (kz F e);have k8:=o8.jH (k7.drew) λb F e=>oD ⟨_,_,ab⟩ k7.drew (kz F e);simpa [wS]using k8
 .simp[Value.ownBlock]at F;subst F;obtain e|e:=a2
  .have:=(h.ij.lt _ e).2;rw[gV _ _ _ _ this];exact h.tw _ e
  exact jc _ _ _ _ e
 .by_cases hi:i<l.length
  .rw[aB hi]at Q;rw[aB (by rw[<-h.len];exact hi)]at A;exact hv (h.vs i x y Q A)
  have ac:=(aj.1 Q).1;simp at ac;have:i=l.length:=C;subst this;rw[aC jr]at Q;rw[h.len,aC jr]at A;simp at Q A;subst Q;subst A;exact hv hz
 .rw[cu];exact⟨h.ap,bz,λx Q y A=>by
   simp at A;subst A
   exact λb F=>a3 x Q b F⟩
 rw[cu];exact⟨h.ky,bz,λx Q y A=>by
  simp at A;subst A
  exact a4 x Q⟩
end
def Tryz.LF:(prog.info? 294).map (λi=>(i.zero,i.size,i.bytes))=some (some (.agg #[I 0,I 0]),2,16):=rfl
section
variable{l l1 l2:List Qv}{e:Qv}{q q1 q2:List Qz}{z z':Qz}
def OT{h:Int}{s:Value}(j:(w.alloc (ig #[I cl,I ln] 294)).alloc (ig #[I h,s] 296)=W):Bl w W/\W.cell? (U w.heap.size 0)=some (I cl)/\W.cell? (U w.heap.size 1)=some (I ln)/\W.cell? (U (w.heap.size+1) 0)=some (I h)/\W.cell? (U (w.heap.size+1) 1)=some s/\w.heap.size+1<W.heap.size:=by subst j;exact⟨(jZ.alloc _).alloc _,bz,bz,bz,bz,bz⟩
theorem Uq(h:Qm w cP tn tb g gm iC iv ov (l1++e::l2) q)(hk:∀x∈l1,¬(e.cl=x.cl/\e.ln=x.ln))(nr r9)(sa oa)(sn sc on oc)(hv:e.v=.agg #[I r9,gK oa on oc])(hn:nr<=r9):iU 212 #[.pointer (some (U g 1)),ak e.cl e.ln,.agg #[I nr,gK sa sn sc]] w λen w'=>en=iF/\Bl w w':=by
 have c1:w.cell? (U g 1)=some (.map (some gm)):=ax w g 1 _ 127 (0,0) h.hp;have V:=h.lg;have L:Hid (∀W,Bl w W->(Instr.lookup 120 (.map (some gm)) (ak e.cl e.ln) true).run prog W=.ok (.tuple #[.agg #[I r9,gK oa on oc],.bool true]) W):=λW A=>by have:=sM ((A.heap (ae.1 h.mp).1).H h.mp) hk rfl rfl true;rw[this,hv];rfl
 obtain⟨W,A⟩:=gG ((w.alloc (ig #[I e.cl,I e.ln] 294)).alloc (ig #[I nr,gK sa sn sc] 296));obtain⟨j,k0,k1,n0,n1,F⟩:=OT A;have d1:=(j.cell V).H c1;have a1:=af V j.lt;have lh:w.heap.size<W.heap.size:=C;have HB:=gN j;have Y:=L W.drew j.drew;have Z:=L (W.alloc (ig #[I 0,OO] 296)).drew (j.alloc _).drew;have a0:=L (W.drew.alloc (ig #[I 0,OO] 296)) (j.drew.alloc _);have HW:=gN A;clear j A h L;go_enter func212,ntmps212;go_upto_region 1 with fail;rw[HW.o];clear HW;go_cut[6,7] λx y wx=>∃Q,x= O Q/\y=.bool true/\Hid (wx.heap[Q]?=some (ig #[I r9,gK oa on oc] 296 (0,0))/\Bl W wx)
 case first=>
  go_region;all_goals(go_wp2_with fail;go_meet)
  all_goals first|exact⟨_,rfl,rfl,ao W _,(jZ.alloc _).drew⟩|exact⟨_,rfl,rfl,ao W.drew _,(jZ.drew).alloc _⟩
 case rest=>obtain⟨Q,rfl,rfl,M⟩:=hcut;obtain⟨y0,y1,ly⟩:=PZ M.1;have z0:=(M.2.cell F).H n0;have lz:=af F M.2.lt;go_wp2;exact aG (v:= .tuple #[]) (by simp[results,results212,go_sem]) rfl ⟨rfl,HB.H M.2⟩
theorem Xm(h:Qm w cP tn tb g gm iC iv ov (l1++e::l2) q)(hk:∀x∈l1,¬(e.cl=x.cl/\e.ln=x.ln))(nr r9)(sa oa)(sn sc on oc)(hv:e.v=.agg #[I r9,gK oa on oc])(hn:r9<nr):iU 212 #[.pointer (some (U g 1)),ak e.cl e.ln,.agg #[I nr,gK sa sn sc]] w λen w'=>en=iF/\∃L,Bl w L/\w'=setBlock L gm (.map (lI (l1++{e with v:= .agg #[I nr,gK sa sn sc]}::l2)) iC):=by
 have c1:w.cell? (U g 1)=some (.map (some gm)):=ax w g 1 _ 127 (0,0) h.hp;have lg:=h.lg;have HL:Hid (∀W,Bl w W->(Instr.lookup 120 (.map (some gm)) (ak e.cl e.ln) true).run prog W=.ok (.tuple #[.agg #[I r9,gK oa on oc],.bool true]) W):=λW A=>by have:=sM ((A.heap (ae.1 h.mp).1).H h.mp) hk rfl rfl true;rw[this,hv];rfl
 have HU:Hid (∀W,Bl w W->(Instr.mapUpdate 120 (.map (some gm)) (ak e.cl e.ln) (.agg #[I nr,gK sa sn sc])).run prog W=.ok () (setBlock W gm (.map (lI (l1++{e with v:= .agg #[I nr,gK sa sn sc]}::l2)) iC))):=λW A=>JR ((A.heap (ae.1 h.mp).1).H h.mp) hk;obtain⟨W,A⟩:=gG ((w.alloc (ig #[I e.cl,I e.ln] 294)).alloc (ig #[I nr,gK sa sn sc] 296));obtain⟨F,k0,k1,n0,n1,M⟩:=OT A;have d1:=(F.cell lg).H c1;have Q:=af lg F.lt;have lh:w.heap.size<W.heap.size:=C;have HB:=gN F;have V:=HL W.drew F.drew;have Y:=HL (W.alloc (ig #[I 0,OO] 296)).drew (F.alloc _).drew;have Z:=HL (W.drew.alloc (ig #[I 0,OO] 296)) (F.drew.alloc _);have HW:=gN A;have a0:¬nr<=r9:=C;clear F A h HL;go_enter func212,ntmps212;go_upto_region 1 with fail;rw[HW.o];clear HW;go_cut[6,7] λx y L=>∃gx,x= O gx/\y=.bool true/\Hid (L.heap[gx]?=some (ig #[I r9,gK oa on oc] 296 (0,0))/\Bl W L)
 case first=>
  go_region;all_goals(go_wp2_with fail;go_meet)
  all_goals first|exact⟨_,rfl,rfl,ao W _,(jZ.alloc _).drew⟩|exact⟨_,rfl,rfl,ao W.drew _,(jZ.drew).alloc _⟩
 case rest=>
  obtain⟨gx,rfl,rfl,j⟩:=hcut;obtain⟨y0,y1,ly⟩:=PZ j.1;obtain⟨z0,z1⟩:=j.2.D M n0 n1;obtain⟨u0,u1⟩:=j.2.D lh k0 k1;have ud:=(j.2.cell Q).H d1;have lz:=af M j.2.lt;have a1:=af Q j.2.lt;have a2:=HU wc.drew (HB.H j.2).drew;clear k0 k1 n0 n1 d1 V Y Z HU;go_upto_region 5 with fail;go_region;all_goals
   go_wp2;go_end0;exact⟨rfl,_,(HB.H j.2).drew,rfl⟩
theorem WX(h:Qm w cP tn tb g gm iC iv ov l q)(hk:∀x∈l,¬(cl=x.cl/\ln=x.ln))(b0:l.length<=1000)(nr)(sa)(sn sc):iU 212 #[.pointer (some (U g 1)),ak cl ln,.agg #[I nr,gK sa sn sc]] w λen w'=>en=iF/\∃W A gg cap,Bl w W/\W.grownBy A ov.ownBlock/\A.ownsRow 0 294 2 (gK (G gg) (l.length+1) cap) (l.length+1) (wS l++[I cl,I ln])/\(ov.ownBlock=some gg\/w.heap.size<=gg)/\w'=setBlock (A.setCell (U g 2) (gK (G gg) (l.length+1) cap)).drew gm (.map (lI (l++[⟨cl,ln,.agg #[I nr,gK sa sn sc],iC⟩])) (iC+1)):=by
 obtain⟨c1,c2⟩:=vg h.hp 1 2 rfl;have lg:=h.lg;have HL:Hid (∀W,Bl w W->(Instr.lookup 120 (.map (some gm)) (ak cl ln) true).run prog W=.ok (.tuple #[.agg #[I 0,OO],.bool false]) W):=λW hW=>D8 ((hW.heap h.lm).H h.mp) hk;obtain⟨W,hW⟩:=gG ((w.alloc (ig #[I cl,I ln] 294)).alloc (ig #[I nr,gK sa sn sc] 296));obtain⟨bW,k0,k1,n0,n1,a4⟩:=OT hW;obtain⟨d1,d2⟩:=bW.D lg c1 c2;have a5:=af lg bW.lt;have lh:w.heap.size<W.heap.size:=C;have HB:=gN bW;have a6:=HL W.drew bW.drew;have a7:=HL (W.alloc (ig #[I 0,OO] 296)).drew (bW.alloc _).drew;have a8:=HL (W.drew.alloc (ig #[I 0,OO] 296)) (bW.drew.alloc _);obtain⟨HW,Z⟩:=gO hW h;have a1:Hid (ov.ownBlock≠some g):=gW h.ij h.hp bT;obtain⟨Y,oc,ai⟩:∃Y oc,ov=gK Y l.length oc:=by
  obtain⟨e,e'⟩|⟨g,cap,b1,e,_⟩:=h.ij.2
  .exact⟨_,_,kz e e'⟩
  exact⟨_,_,e⟩
 subst ai;have al:Hid (∀b,(mP Y l oc).ownBlock=some b->b<w.heap.size):=λb hb=>(h.ij.lt b hb).2;obtain⟨a9,aa,t0,t1,t2⟩:=fx Tryz.LF;clear bW hW h HL c1 c2;go_enter func212,ntmps212;go_upto_region 1 with fail;rw[HW.o];clear HW;go_cut[6,7] λx y wx=>∃gx,x= O gx/\y=.bool false/\Hid (wx.heap[gx]?=some (ig #[I 0,OO] 296 (0,0))/\Bl W wx)
 case first=>
  go_region;all_goals(go_wp2_with fail;go_meet)
  all_goals first|exact⟨_,rfl,rfl,ao W _,(jZ.alloc _).drew⟩|exact⟨_,rfl,rfl,ao W.drew _,(jZ.drew).alloc _⟩
 case rest=>
  obtain⟨gx,rfl,rfl,HX⟩:=hcut;obtain⟨V,rfl⟩:∃V,V=wc:=⟨_,rfl⟩;obtain⟨y0,y1,ly⟩:=PZ HX.1;obtain⟨z0,z1⟩:=HX.2.D a4 n0 n1;obtain⟨u0,u1⟩:=HX.2.D lh k0 k1;obtain⟨ud,ue⟩:=HX.2.D a5 d1 d2;have lz:=af a4 HX.2.lt;have ab:=af lh HX.2.lt;have a2:=af a5 HX.2.lt;have bc:=HB.H HX.2;have a3:=(bc.heap lg).H Z.hp;have am:=aP V g 2 _ 127 a3;have HO:=gN ((jY bc).jH Z.ij λ_ _ e=>e);have an:Hid (l.length+1<=maxLen):=nZ;have ap:Hid ((l.length+1)*16<=140737488355328):=nC;have ac:=gN bc;have aq:Hid (V.heap[g]?=some (ig [iv,.map (some gm),gK Y l.length oc].toArray 127 (0,0))):=a3;have b2:w.heap.size<=V.heap.size:=bc.lt;have ad:Hid (∀W' A nv,Bl w W'->W'.grownBy A (mP Y l oc).ownBlock->(Instr.mapUpdate 120 (.map (some gm)) (ak cl ln) (.agg #[I nr,gK sa sn sc])).run prog (A.setCell (U g 2) nv).drew=.ok () (setBlock (A.setCell (U g 2) nv).drew gm (.map (lI (l++[⟨cl,ln,.agg #[I nr,gK sa sn sc],iC⟩])) (iC+1)))):=λW' A nv M hg=>by have o6:=(gI.D (S:=λb=>some b=(mP Y l oc).ownBlock) M).H (gI.A hg);have ar:=(o6.block gm Z.lm λe=>oD ⟨_,_,Z.mp⟩ Z.ij e.symm).H Z.mp;have o7:gI (λb=>b=g) A (A.setCell (U g 2) nv):=(gI.refl (λb=>b=g) A).setCell (U g 2) (.inl rfl) _;exact Jc (w:=(A.setCell (U g 2) nv).drew) ((o7.block gm (by have:=o6.size;have:=Z.lm;omega) λe=>Z.S9 e.symm).H ar) hk
  clear k0 k1 n0 n1 d1 d2 a6 a7 a8 bc a3 Z;go_upto_region 4 with fail;go_cut[] λwx=>∃A gg cap,Hid (wx=A.setCell (U g 2) (gK (G gg) (l.length+1) cap))/\Hid (∃W',Bl V W'/\W'.grownBy A (mP Y l oc).ownBlock)/\Hid (A.ownsRow 0 294 2 (gK (G gg) (l.length+1) cap) (l.length+1) (wS l++[I cl,I ln]))/\Hid ((mP Y l oc).ownBlock=some gg\/w.heap.size<=gg)
  case first=>
   go_region_law
    ((refine step_append_lies _ ko _ _ _ ko 0 294 a9 _ 2 16 underlying121 aa t0 t1 t2 rfl C _ l.length (wS l) ko ((HO.alloc _).drew) (U V.heap.size 0) 1 1 [I cl,I ln] ko ko (fW (cs:=#[I cl,I ln]) (t:=294) (fr:=(0,0)) (ao V _)) tx C an ap bz (V.heap.size+1) bz ?_;intro gg cp A F j L Q;have b3:=(C4 (((Bl.refl V).alloc _).drew) j (o:=2) a2 a1).1.H ue;have b4:=(C4 (((Bl.refl V).alloc _).drew) j (o:=2) a2 a1).2.H am;have b5:g<A.heap.size:=(by have:=j.size;simp at this;omega);have au:=oH F j L Q;clear F j L Q))
   all_goals(go_wp2_with fail;go_meet)
   all_goals
    obtain⟨F,j,L,Q⟩:=au.o;exact⟨A,gg,cp,rfl,⟨_,(jZ.alloc _).drew,j⟩,F,L.imp (λe=>e) λe=>C⟩
  case rest=>
   obtain⟨A,gg,cap,HE,HG,av,aw⟩:=hcut;obtain⟨W',M,a0⟩:=HG.o;have b6:=ad W' A (gK (G gg) (l.length+1) cap) (ac.H M) a0;have o6:=(gI.D (S:=λb=>some b=(mP Y l oc).ownBlock) M).H (gI.A a0);have o7:gI (λb=>b=g) A (A.setCell (U g 2) (gK (G gg) (l.length+1) cap)):=(gI.refl (λb=>b=g) A).setCell (U g 2) (.inl rfl) _;have nb:∀b,w.heap.size<=b->¬some b=(mP Y l oc).ownBlock:=λb hb e=>by have:=al b e.symm;omega
   have s6:=o6.size;have ce:∀b i v,w.heap.size<=b->b<V.heap.size->V.cell? (U b i)=some v->(A.setCell (U g 2) (gK (G gg) (l.length+1) cap)).cell? (U b i)=some v:=λb i v h1 h2 h3=>by rw[o7.cell (by show b<_;omega) (by show¬b=g;omega),o6.cell h2 (nb b h1)];exact h3
   have e0:=ce _ _ _ jr ab u0;have e1:=ce _ _ _ jr ab u1;have e2:=ce _ _ _ C lz z0;have e3:=ce _ _ _ C lz z1;have e4:(A.setCell (U g 2) (gK (G gg) (l.length+1) cap)).cell? (U g 1)=some (.map (some gm)):=by exact ax _ g 1 _ 127 (0,0) (jO 2 _ A _ ((o6.block g a2 λe=>a1.o e.symm).H aq))
   have l6:g<(A.setCell (U g 2) (gK (G gg) (l.length+1) cap)).heap.size:=by have:=o7.size;omega
   have l7:w.heap.size+1<(A.setCell (U g 2) (gK (G gg) (l.length+1) cap)).heap.size:=by have:=o7.size;omega
   have HF:=nI (ac.H M) a0;rw[HE.o];clear M a0 o6 o7 nb s6 ce HE HG ad u0 u1 z0 z1 ud ue y0 y1;generalize ag:A.setCell (U g 2) (gK (G gg) (l.length+1) cap)=w7 at*;have aY:=gN ag;clear ag;go_upto_region 5 with fail;go_region;all_goals
    go_wp2;go_end0;refine⟨rfl,W',A,gg,cap,HF.1,HF.2,av,aw,?_⟩;rw[aY.o]
end
def Qz.is(z:Qz)(cl ln:Int):Bool:=z.cl==cl&&z.ln==ln
def By(q:List Qz)(a:Qz):List Qz:=match q.find? λb=>b.is a.cl a.ln with
 |none=>q++[a]
 |some b=>if a.nr<=b.nr then q else q.map λb=>if b.is a.cl a.ln then a else b
def Q0(w:World)(cP:Nat->Nat)(tn tb g:Nat)(iv:Value)(q:List Qz):Prop:=∃gm iC ov l,Qm w cP tn tb g gm iC iv ov l q
section
variable{l:List Qv}{q:List Qz}
def Qm.key(h:Qm w cP tn tb g gm iC iv ov l q){e:Qv}{z:Qz}(j:l[i]?=some e)(y:q[i]?=some z):e.cl=z.cl/\e.ln=z.ln:=⟨(h.vs i e z j y).1,(h.vs i e z j y).2.1⟩
def Rx{α:Type}{l:List α}{e:α}(h:l[i]?=some e):l=l.take i++e::l.drop (i+1)/\(l.take i).length=i:=by obtain⟨j,rfl⟩:=aj.1 h;exact⟨by rw[fX,dK],ik⟩
def RC{h q2:List Qz}{b a:Qz}(y:∀x∈h,x.is a.cl a.ln=false)(A:b.is a.cl a.ln=true)(F:∀x∈q2,x.is a.cl a.ln=false):By (h++b::q2) a=if a.nr<=b.nr then h++b::q2 else h++a::q2:=by
 unfold By;have H:(h++b::q2).find? (λb=>b.is a.cl a.ln)=some b:=by rw[List.find?_append,bU.2 (λx j=>by rw[y x j];simp)];simp[A]
 rw[H];simp only;split
 .rfl
 rw[aZ,bj,aE A];congr 1
 .conv=>rhs;rw[<-eI h]
  exact bf λx j=>by simp[y x j]
 congr 1
 conv=>rhs;rw[<-eI q2]
 exact bf λx j=>by simp[F x j]
def Jy{z:Qz}:z.is cl ln=true↔z.cl=cl/\z.ln=ln:=by simp[Qz.is]
theorem Uh(h:Qm w cP tn tb g gm iC iv ov l q)(z)(sa)(sc)(ac:q.length<=1000)(ad:tb≠tn)(hs:w.ownsRow 0 5 1 (gK sa z.data.length sc) z.data.length (z.data.map B8))(ht:∀b,(gK sa z.data.length sc).ownBlock=some b->cP b=tb)(a0:∀x∈l,∀b,x.M=some b->(gK sa z.data.length sc).ownBlock≠some b):iU 212 #[.pointer (some (U g 1)),ak z.cl z.ln,.agg #[I z.nr,gK sa z.data.length sc]] w λen w'=>en=iF/\∃fz,(∀b,b<w.heap.size->fz b=cP b)/\Q0 w' fz tn tb g iv (By q z)/\gI (λb=>cP b=tn) w w':=by
 have hz:∀bo,wu w cP tb ⟨z.cl,z.ln,.agg #[I z.nr,gK sa z.data.length sc],bo⟩ z:=λbo=>⟨rfl,rfl,sa,sc,rfl,hs,ht⟩;have a1:∀bo,(Qv.mk z.cl z.ln (.agg #[I z.nr,gK sa z.data.length sc]) bo).M=(gK sa z.data.length sc).ownBlock:=λbo=>by simp[Qv.M]
 cases hf:q.find? λb=>b.is z.cl z.ln with
 |none=>
  have a2:∀x∈l,¬(z.cl=x.cl/\z.ln=x.ln):=λx y e=>by
   obtain⟨i,hi,rfl⟩:=aV.1 y;have a3:i<q.length:=by rw[<-h.len];exact hi
   have hk:=h.key (ah hi) (ah a3);have:=bU.1 hf q[i] (aL a3);exact this (Jy.2 ⟨hk.1.symm.H e.1.symm,hk.2.symm.H e.2.symm⟩)
  refine(WX h a2 (by rw[h.len];exact ac) z.nr sa z.data.length sc).L ?_;rintro en w'⟨rfl,W,w6,gg,cap,bW,hg,a4,ag,rfl⟩;obtain⟨k1,k2⟩:=h.push bW hg a4 ag (hz iC) (λx y b Y=>by rw[a1];exact a0 x y b Y) (λx y e=>a2 x y ⟨e.1.symm,e.2.symm⟩) ad;refine⟨rfl,ir cP w.heap.size tn,λb Y=>gV _ _ _ _ Y,?_,k2⟩;have:By q z=q++[z]:=by unfold By;rw[hf]
  rw[this];exact⟨_,_,_,_,k1⟩
 |some b=>
  obtain⟨Y,A,q2,rfl,h1⟩:=List.find?_eq_some_iff_append.1 hf;have hi:A.length<l.length:=by have:=h.len;simp at this;omega
  obtain⟨hl,a5⟩:=Rx (ah hi);have a6:(A++b::q2)[A.length]?=some b:=bz;obtain⟨a7,a8⟩:=h.key (ah hi) a6;obtain⟨b1,b2⟩:=Jy.1 Y;obtain⟨_,_,oa,oc,hv,_,_⟩:=h.vs A.length _ _ (ah hi) a6;generalize l[A.length]=e at*;generalize l.take A.length=l1 at*;generalize l.drop (A.length+1)=l2 at*;subst hl;have a9:=h.ky;rw[cu,cI]at a9;obtain⟨_,⟨ai,_⟩,al⟩:=a9;have hk:∀x∈l1,¬(e.cl=x.cl/\e.ln=x.ln):=λx y e'=>al x y e aN ⟨e'.1.symm,e'.2.symm⟩;have h2:∀x∈q2,x.is z.cl z.ln=false:=λx y=>by
   cases am:x.is z.cl z.ln with
   |false=>rfl
   |true=>
    exfalso;obtain⟨j,hj,rfl⟩:=aV.1 y;have aa:=h.len;simp at aa;have ab:j<l2.length:=C;have e1:(l1++e::l2)[l1.length+(j+1)]?=some l2[j]:=by rw[aC C];simp[ab]
    have e2:(A++b::q2)[l1.length+(j+1)]?=some q2[j]:=by rw[aC C,a5];simp[hj]
    obtain⟨m1,m2⟩:=h.key e1 e2;obtain⟨x1,x2⟩:=Jy.1 am;exact ai _ (aL ab) ⟨by rw[m1,x1,a7,b1],by rw[m2,x2,a8,b2]⟩
  have an:∀x∈A,x.is z.cl z.ln=false:=λx y=>by simpa using h1 x y
  have ez:=RC an Y h2;rw[ez];have F:z.cl=e.cl:=kz a7 b1;have Q:z.ln=e.ln:=kz a8 b2;by_cases hn:z.nr<=b.nr
  .rw[aE hn];rw[show ak z.cl z.ln=ak e.cl e.ln from by rw[F,Q]];have:=Uq h hk z.nr b.nr sa oa z.data.length sc b.data.length oc hv hn;refine gS this λw' V=>?_;exact⟨rfl,cP,λ_ _=>rfl,⟨_,_,_,_,h.bl V ib⟩,gI.D V⟩
  rw[az hn];rw[show ak z.cl z.ln=ak e.cl e.ln from by rw[F,Q]];have:=Xm h hk z.nr b.nr sa oa z.data.length sc b.data.length oc hv C;refine this.L ?_;rintro en w'⟨rfl,wx,Z,rfl⟩;have y:=h.bl Z (fz:=cP) ib;have ap:wu wx cP tb ⟨e.cl,e.ln,.agg #[I z.nr,gK sa z.data.length sc],e.bo⟩ z:=by have:=(hz e.bo).only (fz:=cP) (jY Z) (λ_ _ e=>e.elim) ib;rwa[F,Q]at this
  refine⟨rfl,cP,λ_ _=>rfl,⟨_,_,_,_,y.vX a5 ap ?_⟩,(gI.D Z).H ((kS _ _ _).L λb Y e=>?_)⟩
  .intro x aq b' V e';have:=a1 e.bo;rw[F,Q]at this;rw[this]at e';exact a0 x aq b' V e'
  rw[e];exact h.tm
end
theorem tR(g):∀(A:List Value) (o:Nat) (w:World) (y:Array Value) (t:TypeId),w.heap[g]?=some (ig y t (0,0))->∃j,(w.setCells g o A).heap[g]?=some (ig j t (0,0))/\j.size=y.size/\gI (λb=>b=g) w (w.setCells g o A)
 |[],_,w,y,_,h=>⟨y,h,rfl,vO⟩
 |v::r,o,w,y,t,h=>by have F:=fy w g o _ t v h;obtain⟨j,L,M,Q⟩:=tR g r _ _ _ t F;exact⟨j,L,om M,((gI.refl (λb=>b=g) w).setCell (U g o) (.inl rfl) v).H Q⟩
def Ra(w)(g n c)(ty)(cur)(F:w.heap[g]?=some (ig cur 294 (0,0)))(hn:0<n)(hs:n*2<=cur.size):∃w',(Builtin.clear_ #[121] ty #[gK (G g) n c]).run prog w=.ok (.tuple #[]) w'/\gI (λb=>b=g) w w'/\∃h,w'.heap[g]?=some (ig h 294 (0,0))/\h.size=cur.size:=by
 obtain⟨L,H⟩:∃L,L=(Builtin.zeroCells (Value.agg #[I 0,I 0]).cells n).toList:=⟨_,rfl⟩;have Q:L.length=n*2:=by rw[H];simp[Builtin.zeroCells,Value.cells]
 have y:∀v∈L,v.oneCell'=true:=by
  intro v M;rw[H]at M;simp only[Builtin.zeroCells,Value.cells,Array.toList_map,aD]at M;obtain⟨i,_,rfl⟩:=M;have h2:i%2=0\/i%2=1:=C;obtain h2|h2:=h2
  .simp[h2,Value.oneCell']
  simp[h2,Value.oneCell']
 have A:=run_storeCells_cells (P:=prog) g 0 L 0 w (λj hj=>by rw[ax w g (0+0+j) _ 294 (0,0) F,dW C];rfl) (λj _=>aP w g (0+0+j) _ 294 F) y
 simp only[fj]at A;obtain⟨h,V,Y,Z⟩:=tR g L 0 w cur 294 F;obtain⟨m,rfl⟩:∃m,n=m+1:=⟨n-1,C⟩;refine⟨w.setCells g 0 L,?_,Z,h,V,Y⟩;simp[Builtin.clear_,Z4 underlying121,<-H,A]
theorem vm(w)(n:Nat)(v)(xs)(h:w.ownsRow 0 294 2 v n xs)(hn:n<=1000000):iU 244 #[v,I 0,I n] w λen w'=>∃Z,en=gU Z/\w'.ownsRow 0 294 2 Z 0 []/\(∀b,Z.ownBlock=some b->v.ownBlock=some b)/\gI (λb=>v.ownBlock=some b) w w':=by
 obtain⟨rfl,rfl⟩|⟨g,cap,y,rfl,hb,V,hc,Y,j,F⟩:=h.2
 .have H:=gN h;clear h;go_enter func244,ntmps244;go_wp2;go_ret;exact⟨_,rfl,m7,λb e=>e,vO⟩
 by_cases hz:n=0
 .subst hz;have a0:(cap:Int)<=9223372036854775807:=by unfold maxLen at Y;omega
  have HE:Hid (w.ownsRow 0 294 2 (gK (G g) 0 cap) 0 []):=⟨rfl,.inr ⟨g,cap,y,rfl,jR,V,jR,Y,j,bz⟩⟩;clear h V j F;go_enter func244,ntmps244;go_wp2;go_ret;exact⟨_,rfl,HE,λb e=>e,vO⟩
 have a0:(cap:Int)<=9223372036854775807:=by unfold maxLen at Y;omega
 obtain⟨L,M,t0,t1,t2⟩:=fx Tryz.LF;obtain⟨A,hA⟩:∃A:Addr,(if cap=n then some ((U g 0):Addr)else some (U g (n*2)))=some A:=by
  by_cases e:cap=n
  .exact⟨_,by simp[e];rfl⟩
  exact⟨_,by simp[e];rfl⟩
 have a2:(n:Int)<=(cap:Int):=C;obtain⟨w',k1,k2,Q,k3,k4⟩:=Ra w.drew g n cap 0 y V C (by rw[j];exact gy 2 hc);have a1:=gN j;clear h V j F;go_enter func244,ntmps244;go_wp2;go_region_law(refine step_append_room rfl (.tmp 22) (.tmp 25) 121 rfl 294 L 2 underlying121 M t1 g 0 0 cap (by simp[Act.eval,Act.put]) A 0 (cap-n) [] (by simp[Act.eval,Act.put]) rfl bz bz C bz ?_);have e0:w.drew.setCells g 0 []=w.drew:=rfl;rw[e0];have K1:=gN k1;have HE:Hid (w'.ownsRow 0 294 2 (gK (G g) 0 cap) 0 []):=⟨rfl,.inr ⟨g,cap,Q,rfl,jR,k3,jR,Y,jf k4 a1,bz⟩⟩;have HO:Hid (gI (λb=>(gK (some ((U g 0):Addr)) n cap).ownBlock=some b) w w'):=(gI.D (Bl.refl w).drew).H (k2.L λk _ e=>by simp[Value.ownBlock,e]);clear k1 k2 k3 k4;go_wp2;rw[K1.o];go_wp2;go_ret;exact⟨_,rfl,HE,λb e=>e,HO⟩
def Tryz.DA:(prog.info? 179).map (λi=>(i.zero,i.size,i.bytes))=some (some (.agg #[I 0,OO]),2,32):=rfl
structure xH(w:World)(P:Nat->Prop)(v:Value)(ps:List (Int×List Int))(xs:List Value):Prop where
 ij:w.ownsRow 0 179 2 v ps.length xs
 ob:∀b,v.ownBlock=some b->P b
 kY:∀i z,ps[i]?=some z->xs[2*i]?=some (I z.1)/\∃a c,xs[2*i+1]?=some (.slice a z.2.length c)/\w.ownsRow 0 5 1 (.slice a z.2.length c) z.2.length (z.2.map B8)/\∀b,(Value.slice a z.2.length c).ownBlock=some b->P b
 ap:∀i j u v b,i<j->xs[2*i+1]?=some u->xs[2*j+1]?=some v->u.ownBlock=some b->v.ownBlock≠some b
def xH.nil(w)(P):xH w P OO [] []:=⟨m7,λb h=>pV h,λi z h=>mR h,λi j u v b _ h=>mR h⟩
def xH.only(h:xH w P v ps xs)(y:gI T w w')(A:∀b,b<w.heap.size->P b->¬T b):xH w' P v ps xs:=
 ⟨y.jH h.ij λb j=>A b (h.ij.lt b j).2 (h.ob b j),h.ob,λi z L=>by
  obtain⟨M,a,c,Q,F,H⟩:=h.kY i z L
  exact⟨M,a,c,Q,y.jH F λb j=>A b (F.lt b j).2 (H b j),H⟩,h.ap⟩
def xH.bl(h:xH w P v ps xs)(j:Bl w w'):xH w' P v ps xs:=h.only (gI.D j) λ_ _ _ e=>e
def xH.Zr(h:xH w P v ps xs):xs.length=2*ps.length:=by rw[h.ij.1];omega
def xH.push{w1:World}{tt:Int}{a:Option Addr}{c cap:Nat}(h:xH w P v ps xs)(y:Bl w w1)(A:w1.grownBy w2 v.ownBlock)(Q:w2.ownsRow 0 179 2 (gK (G g) (ps.length+1) cap) (ps.length+1) (xs++[I tt,gK a ds.length c]))(hg:P g)(Y:w.ownsRow 0 5 1 (gK a ds.length c) ds.length (ds.map B8))(hP:∀b,(gK a ds.length c).ownBlock=some b->P b)(a0:∀(i:Nat) u b,xs[2*i+1]?=some u->u.ownBlock=some b->(gK a ds.length c).ownBlock≠some b):xH w2 P (gK (G g) (ps.length+1) cap) (ps++[(tt,ds)]) (xs++[I tt,gK a ds.length c]):=by
 have ho:gI (λb=>v.ownBlock=some b) w w2:=(gI.D y).H ((gI.A A).L λx _ e=>e.symm);have hx:=h.Zr;have V:∀{u:Value} {n:Nat} {zs:List Value},w.ownsRow 0 5 1 u n zs->∀b,u.ownBlock=some b->v.ownBlock≠some b:=fun{u n zs} Y b y e=>by obtain⟨cc,hc⟩:=qf h.ij b e;exact gW Y hc bT y
 refine⟨je Q,λb y=>by simp[Value.ownBlock]at y;rw[<-y];exact hg,λi z F=>?_,λi j u u' b a1 Z M y=>?_⟩
 .by_cases hi:i<ps.length
  .rw[aB hi]at F;obtain⟨k1,a',c',k2,k3,k4⟩:=h.kY i z F;refine⟨by rw[aB C];exact k1,a',c',by rw[aB C];exact k2,ho.jH k3 (V k3),k4⟩
  have a2:=(aj.1 F).1;simp at a2;have:i=ps.length:=C;subst this;rw[aC jr]at F;simp at F;subst F;refine⟨by rw[<-hx,aC jr];simp,a,c,by rw[<-hx,aC C];simp,ho.jH Y (V Y),hP⟩
 have hj:=(aj.1 M).1;simp at hj;by_cases a3:j<ps.length
 .rw[aB C]at Z M;exact h.ap i j u u' b a1 Z M y
 have:j=ps.length:=C;subst this;rw[aB C]at Z;rw[<-hx,aC C]at M;simp at M;subst M;exact a0 i u b Z y
def O9(a)(x)(n c)(w):(Instr.field 296 (.agg #[I a,gK x n c]) 1).run prog w=.ok (gK x n c) w:=rfl
def gI.andThen{a b c:World}(h:gI S a b)(k:gI T b c)(A:∀n,n<a.heap.size->T n->S n):gI S a c:=
 ⟨k.os.H h.os,k.tape.H h.tape,k.output.H h.output,aF h.size k.size,λi j y=>(k.block i (af j h.size) λe=>y (A i j e)).H (h.block i j y)⟩
def qB(q:List Qz):List (Int×List Int):=q.map λz=>(z.cl,z.data)
section
variable{l:List Qv}{q:List Qz}
def SA(l:List Qv)(xs:List Value)(k:Nat):Prop:=xs.length=2*k/\∀i u,xs[2*i+1]?=some u->∃e,l[i]?=some e/\e.M=u.ownBlock
theorem Lo:∀(l:List Qv) (k:Nat) (e:Qv),l[k]?=some e->(wS l)[2*k]?=some (I e.cl)/\(wS l)[2*k+1]?=some (I e.ln)
 |[],k,e,h=>mR h
 |x::l,0,e,h=>by simp at h;subst h;simp[wS]
 |x::l,k+1,e,h=>by have:=Lo l k e (je h);have j:wS (x::l)=I x.cl::I x.ln::wS l:=rfl;rw[show 2*_=2*k+1+1 from by omega];simp_all
def Gx(h:Qm w cP tn tb g gm iC iv ov l q){wr j:World}{A:Value}(M:gI (λb=>b=gm) w wr)(hm:wr.heap[gm]?=some (.map (lI []) iC))(L:gI (λb=>ov.ownBlock=some b) wr j)(y:j.ownsRow 0 294 2 A 0 [])(hv:∀b,A.ownBlock=some b->ov.ownBlock=some b):Q0 (j.setCell (U g 2) A) (ir cP w.heap.size tb) tn tb g iv []/\gI (λb=>cP b=tn) w (j.setCell (U g 2) A):=by
 have Q:ov.ownBlock≠some g:=gW h.ij h.hp bT;have V:ov.ownBlock≠some gm:=oD ⟨_,_,h.mp⟩ h.ij;have s1:=M.size;have s2:=L.size;have Y:=(M.block g h.lg h.S9).H h.hp;have F:j.heap[g]?=some (ig [iv,.map (some gm),ov].toArray 127 (0,0)):=(L.block g (gM h.lg) Q).H Y;have Z:=(L.block gm (gM h.lm) V).H hm;have o9:gI (λb=>b=g) j (j.setCell (U g 2) A):=(gI.refl (λb=>b=g) j).setCell (U g 2) (.inl rfl) _;refine⟨⟨gm,iC,A,[],jO 2 A j _ F,(gV _ _ _ _ h.lg).H h.tg,(o9.block gm (gM h.lm) λe=>h.S9 e.symm).H Z,(gV _ _ _ _ h.lm).H h.tm,?_,λb hb=>?_,rfl,λi e z he=>mR he,List.Pairwise.nil,List.Pairwise.nil⟩,?_⟩
 .exact o9.jH y λb hb e=>gW y F bT (kz hb e)
 .have:=hv b hb;rw[gV _ _ _ _ (h.ij.lt b this).2];exact h.tw b this
 refine((M.L λb _ e=>?_).H (L.L λb _ e=>?_)).H (o9.L λb _ e=>?_)
 .rw[e];exact h.tm
 .exact h.tw b e
 rw[e];exact h.tg
theorem Md(h:Qm w cP tn tb g gm iC iv ov [] []):iU 208 #[.pointer (some (U g 1)),I 200] w λZ w'=>∃v xs fz,Z=gU v/\(∀b,b<w.heap.size->fz b=cP b)/\xH w' (λb=>fz b=tb) v (qB []) xs/\Q0 w' fz tn tb g iv []/\gI (λb=>cP b=tn) w w':=by
 have c2:w.cell? (U g 2)=some ov:=ax w g 2 _ 127 (0,0) h.hp;have F:=h.lg;have HE:Hid (∀L M,gI (λb=>ov.ownBlock=some b) w L->L.ownsRow 0 294 2 M 0 []->(∀b,M.ownBlock=some b->ov.ownBlock=some b)->_):=λL M a b c=>Gx h (gI.refl _ w) h.mp a b c;obtain⟨HO,HP⟩:=gO h.ij h.hp;have j:Hid (ov.ownBlock≠some g):=gW h.ij h.hp bT;obtain⟨oa,A,Q,a1⟩:∃oa A,ov=gK oa 0 A/\A<=9223372036854775807:=by
  obtain⟨e,e'⟩|⟨g,cap,a2,e,_,_,_,hm,_⟩:=h.ij.2
  .exact⟨_,_,e,C⟩
  exact⟨_,_,e,by unfold maxLen at hm;omega⟩
 subst Q;have HD:=gN (vm w 0 _ [] HO C);have a0:(A:Int)<=9223372036854775807:=C;clear h;go_enter func208,ntmps208;go_wp2;refine Z6 1 ?_;rw[ZZ];go_wp2_with(go_at_call 244;refine HD.L ?_;rintro Z w2⟨v2,rfl,V,h3,y⟩;obtain⟨va,vc,rfl⟩:=jk V;have z2:=(y.cell F j).H c2;have f2:=aP w2 g 2 _ 127 ((y.block g F j).H HP);have a3:=af F y.size;have Y:=nJ y V h3;clear V h3 y);go_ret;obtain⟨k1,k2⟩:=HE _ _ Y.1 Y.2.1 Y.2.2;exact⟨_,[],_,rfl,λb hb=>gV _ _ _ _ hb,xH.nil _ _,k1,k2⟩
def Ub{e:Qv}{z:Qz}(j:l[k]?=some e)(y:e.v=.agg #[I z.nr,gK sa z.data.length sc])(A:SA l xs k):SA l (xs++[I c,gK sa z.data.length sc]) (k+1):=by
 obtain⟨F,H⟩:=A;refine⟨ik,λi u h=>?_⟩;by_cases L:2*i+1<xs.length
 .rw[aB L]at h;exact H i u h
 have M:=(aj.1 h).1;simp at M;have:i=k:=C;subst this;rw[aC C,F]at h;simp at h;exact⟨e,j,by unfold Qv.M;rw[y,<-h];simp⟩
def Nt(h:Qm w cP tn tb g gm iC iv ov l q)(H:tb≠tn){e:Qv}{z:Qz}{L:Option Addr}{M gg cp:Nat}{wr W' Q:World}(he:l[k]?=some e)(hz:q[k]?=some z)(hv:e.v=.agg #[I z.nr,gK sa z.data.length sc])(V:w.ownsRow 0 5 1 (gK sa z.data.length sc) z.data.length (z.data.map B8))(Y:∀b,(gK sa z.data.length sc).ownBlock=some b->cP b=tb)(hO:gI (λb=>b=gm) w wr)(hB:Bl wr W)(hP:xH wr (λb=>ir cP w.heap.size tb b=tb) (gK L k M) ((qB q).take k) xs)(hX:SA l xs k)(y:Q.ownsRow 0 179 2 (gK (G gg) (k+1) cp) (k+1) (xs++[I e.cl,gK sa z.data.length sc]))(Z:Bl W W')(hg:W'.grownBy Q (gK L k M).ownBlock)(a0:(gK L k M).ownBlock=some gg\/W.heap.size<=gg)(hk:k<q.length):xH (setBlock Q.drew gm (.map (lI (l.drop (k+1))) iC)) (λb=>ir cP w.heap.size tb b=tb) (gK (G gg) (k+1) cp) ((qB q).take (k+1)) (xs++[I e.cl,gK sa z.data.length sc]):=by
 have A:((qB q).take k).length=k:=by simp[qB];omega
 have a1:(qB q).take (k+1)=(qB q).take k++[(e.cl,z.data)]:=by rw[aM (by simpa [qB]using hk)];obtain⟨_,rfl⟩:=aj.1 hz;simp[qB,(h.key he hz).1]
 have F:e.M=(gK sa z.data.length sc).ownBlock:=by unfold Qv.M;rw[hv];simp
 rw[a1];have:=xH.push (tt:=e.cl) (ds:=z.data) (a:=sa) (c:=sc) (g:=gg) (cap:=cp) hP (hB.H Z) hg (jf A y) ?_ (hO.jH V λb j e=>oD ⟨_,_,h.mp⟩ V (kz j e)) (λb j=>by rw[gV _ _ _ _ (V.lt b j).2];exact Y b j) λi u b hu j e'=>?_
 .rw[A]at this;refine(this.bl jZ.drew).only (kS _ _ _) λb _ j e'=>?_;rw[e',gV _ _ _ _ h.lm,h.tm]at j;exact H j.symm
 .obtain h1|h1:=a0
  .exact hP.ob gg h1
  exact jc _ _ _ _ (by have:=hO.size;have:=hB.lt;omega)
 obtain⟨x,a2,a3⟩:=hX.2 i u hu;have hi:=(aj.1 hu).1;have a4:=hX.1;obtain⟨l1,rfl⟩:=aj.1 a2;obtain⟨l2,rfl⟩:=aj.1 he;exact(dE.1 h.ap i k l1 l2 C) b (a3.H j) (F.H e')
theorem Nb(h:Qm w cP tn tb g gm iC iv ov l q)(hq:q.length<=200)(bn:0<q.length)(Z:tb≠tn):iU 208 #[.pointer (some (U g 1)),I 200] w λen w'=>∃v xs fz,en=gU v/\(∀b,b<w.heap.size->fz b=cP b)/\xH w' (λb=>fz b=tb) v (qB q) xs/\Q0 w' fz tn tb g iv []/\gI (λb=>cP b=tn) w w':=by
 obtain⟨c1,c2⟩:=vg h.hp 1 2 rfl;have lg:=h.lg;have lm:=h.lm;have j:=gN h.len;obtain⟨og,cap,rfl,bo,bp⟩:∃og cap,ov=gK (G og) l.length cap/\l.length<=cap/\cap<=9223372036854775807:=by
  obtain⟨e,e'⟩|⟨g,cap,bq,e,_,_,hc,hm,_⟩:=h.ij.2
  .have:=j.o;omega
  exact⟨_,_,e,hc,by unfold maxLen at hm;omega⟩
 have lo:og<w.heap.size:=(h.ij.lt og rfl).2;have b2:og≠g:=λe=>gW h.ij h.hp bT (by rw[e];rfl);have a6:og≠gm:=λe=>oD ⟨_,_,h.mp⟩ h.ij (by rw[e];rfl);have a4:Hid (∀k e,l[k]?=some e->w.cell? (U og (k*2))=some (I e.cl)/\w.cell? (U og (k*2+1))=some (I e.ln)):=λk e he=>by have hk:=(aj.1 he).1;obtain⟨k1,k2⟩:=Lo l k e he;have hx:(wS l).length=l.length*2:=h.ij.1;rw[cN k 2];exact⟨(h.ij.cellAt _ C).H k1,(h.ij.cellAt _ C).H k2⟩
 obtain⟨Y,HM⟩:=gO h h.mp;have b3:(l.length:Int)<=200:=gM j.o;have bs:(0:Int)<(l.length:Int):=gM j.o;have bg:(l.length:Int)<=(cap:Int):=C;have bi:(cap:Int)<=9223372036854775807:=C;have bv:¬cap=0:=C;have bl:min (l.length:Int) 200=l.length:=C;obtain⟨ad,ag,t0,t1,t2⟩:=fx Tryz.DA;clear h;go_enter func208,ntmps208;go_wp2;go_loopw[6,23](λd i wr=>∃k:Nat,k<=l.length/\i=I k/\Hid (gI (λb=>b=gm) w wr)/\Hid (wr.heap[gm]?=some (.map (lI (l.drop k)) iC))/\∃xs,Hid (xH wr (λb=>ir cP w.heap.size tb b=tb) d ((qB q).take k) xs)/\Hid (SA l xs k)/\Hid (∀b,d.ownBlock=some b->w.heap.size<=b)) λ_ i _=>l.length-(Go.RowKit.intOf i).toNat
 case atStart=>exact⟨0,jR,rfl,vO,HM,[],xH.nil _ _,⟨rfl,λi u hu=>mR hu⟩,λb F=>pV F⟩
 obtain⟨k,hk,rfl,V,Hm,xs,HP,HX,HN⟩:=hrel;have d1:=(V.cell lg Y.S9).H c1;have d2:=(V.cell lg Y.S9).H c2;have a0:=af lg V.size;have bw:=af lo V.size;have ai:=af lm V.size;by_cases jt:k<l.length
 .have bm:(k:Int)<(l.length:Int):=C;obtain⟨e,he⟩:=nS jt;obtain⟨z,hz⟩:∃z,q[k]?=some z:=⟨_,ah (j9 j.o jt)⟩;obtain⟨x0,x1⟩:=a4 k e he;have x0:=(V.cell lo a6).H x0;have x1:=(V.cell lo a6).H x1;obtain⟨e1,e2,sa,sc,e3,e4,e5⟩:=Y.vs k e z he hz;have a7:l.drop k=e::l.drop (k+1):=by obtain⟨hi,rfl⟩:=aj.1 he;rw[fX]
  obtain⟨Hz,He,bx⟩:=iI hz he a7;obtain⟨HE,bA,al⟩:=iI (And.intro e4 e5) e1 e3;obtain⟨ua,uc,a1⟩:=jk HP.ij;have M:((qB q).take k).length=k:=by simp[qB];have:=j.o;omega
  have HT:=gN M;rw[M]at a1;subst a1;have a8:=gN HP.ij;rw[M]at a8;have b4:Hid (k+1<=maxLen):=nZ;have b5:Hid ((k+1)*32<=140737488355328):=nC;obtain⟨W,hW⟩:=gG (wr.alloc (ig #[I e.cl,I e.ln] 294));have bW:Bl wr W:=by rw[<-hW];exact jZ.alloc _
  obtain⟨y0,y1,ly⟩:=PZ (show W.heap[wr.heap.size]?=some (ig #[I e.cl,I e.ln] 294 (0,0)) by rw[<-hW];exact ao wr _);obtain⟨f1,f2⟩:=bW.D a0 d1 d2;have a9:=af a0 bW.lt;have a5:=(bW.heap ai).H Hm;rw[a7]at a5;have am:(Instr.lookup 120 (.map (some gm)) (ak e.cl e.ln) false).run prog W.drew=.ok e.v W.drew:=sM (w:=W.drew) (l1:=[]) a5 bz rfl rfl false;rw[e3]at am;have b6:=O9 z.nr sa z.data.length sc;obtain⟨b7,HW,HB⟩:=iI a5 hW bW;have an:Hid ((gK ua k uc).ownBlock≠some g):=λe=>by have h1:=HP.ob g e;rw[gV _ _ _ _ lg,Y.tg]at h1;exact Z h1.symm
  clear he hz a7 e1 e2 e3 e4 e5 M bW hW a5 d1 d2;go_upto_region 6 with fail;rw[HW.o];clear HW;go_cut[6] λd wx=>∃gg cp,d=gK (G gg) (k+1) cp/\Hid (wx.ownsRow 0 179 2 (gK (G gg) (k+1) cp) (k+1) (xs++[I e.cl,gK sa z.data.length sc]))/\Hid (∃W',Bl W W'/\W'.grownBy wx (gK ua k uc).ownBlock)/\Hid ((gK ua k uc).ownBlock=some gg\/W.heap.size<=gg)
  case first=>
   go_region_law
    ((refine step_append_lies _ ko _ _ _ ko 0 179 ad _ 2 32 underlying176 ag t0 t1 t2 rfl C _ k xs ko (((jY HB).jH a8 λ_ _ e=>e).alloc _).drew (U W.heap.size 0) 1 1 [I e.cl,gK sa z.data.length sc] ko ko (fW (cs:=#[I e.cl,gK sa z.data.length sc]) (t:=179) (fr:=(0,0)) (ao W _)) tx C b4 b5 bz (W.heap.size+1) bz ?_;intro gg cp w6 A y Q a2;have b8:=oH A y Q a2;clear A y Q a2))
   all_goals(go_wp2_with fail;go_meet)
   all_goals
    obtain⟨A,y,Q,a2⟩:=b8.o;exact⟨gg,cp,rfl,A,⟨_,(jZ.alloc _).drew,y⟩,Q.imp (λe=>e) λe=>C⟩
  case rest=>
   obtain⟨gg,cp,rfl,b9,bb,ap⟩:=hcut;obtain⟨w6,rfl⟩:∃w6,w6=wc:=⟨_,rfl⟩;obtain⟨W',aa,ab⟩:=bb.o;have o6:gI (λb=>(gK ua k uc).ownBlock=some b) W w6:=(gI.D aa).H ((gI.A ab).L λx _ e=>e.symm);have nb:∀b,wr.heap.size<=b->(gK ua k uc).ownBlock≠some b:=λb F e=>by have:=(a8.lt b e).2;omega
   have aq:(gK ua k uc).ownBlock≠some gm:=λe=>by have h1:=HP.ob gm e;rw[gV _ _ _ _ lm,Y.tm]at h1;exact Z h1.symm
   have v0:=(o6.cell ly (nb _ jr)).H y0;have v1:=(o6.cell ly (nb _ jr)).H y1;have vd:=(o6.cell a9 an).H f1;have vf:=(o6.cell a9 an).H f2;have bc:=af ai HB.lt;have ac:=(o6.block gm bc aq).H b7;have bB:=af a9 o6.size;have bC:=af ly o6.size;have bD:=λty=>G5 (w:=w6.drew) ty ac;obtain⟨bd,H6,ar⟩:=iI ac o6 (And.intro aa ab);clear ac o6 nb aq aa ab y0 y1 f1 f2 am b6;go_upto_region 7 with fail;go_region;all_goals
    go_wp2;refine⟨⟨k+1,C,iq,?_,ou (w:=w6.drew) (ae.1 bd).1 _,_,Nt Y Z He Hz al HE.1 HE.2 V HB HP HX b9 ar.1 ar.2 ap (by rwa[j.o]at jt),Ub He al HX,λb F=>?_⟩,iD⟩
    .exact((V.H (gI.D HB)).andThen H6 λb F e=>by have:=HN b e;omega).H ((gI.D (Bl.refl w6).drew).H (kS _ _ _))
    obtain h1|h1:=ap.o
    .simp[Value.ownBlock]at F;rw[<-F];exact HN gg h1
    simp[Value.ownBlock]at F;rw[<-F];have:=V.size;have:=HB.lt;omega
 have au:k=l.length:=C;have bE:¬((k:Int)<(l.length:Int)):=C;have a3:=V.jH Y.ij λb F e=>a6 (by simp[Value.ownBlock]at F;omega);have HD:=gN (vm wr l.length _ _ a3 C);have av:Hid ((gK (some ((U og 0):Addr)) l.length cap).ownBlock≠some g):=λe=>by simp[Value.ownBlock]at e;exact b2 e
 have aw:=(V.block g lg Y.S9).H Y.hp;obtain⟨be,aY⟩:=gO aw au;obtain⟨ua,uc,a1⟩:=jk HP.ij;have M:((qB q).take k).length=k:=by simp[qB];have:=j.o;omega
 rw[M]at a1;subst a1;clear a3 aw au M;go_wp2_with(go_at_call 244;refine HD.L ?_;rintro en w2⟨v2,rfl,h2,h3,h4⟩;obtain⟨va,vc,rfl⟩:=jk h2;have z2:=(h4.cell a0 av).H d2;have f2:=aP w2 g 2 _ 127 ((h4.block g a0 av).H be);have bR:=af a0 h4.size;have H2:=nJ h4 h2 h3;clear h2 h3 h4);go_ret;have b0:=Hm.o;rw[aY.o,eQ]at b0;obtain⟨k1,k2⟩:=Gx Y V b0 H2.1 H2.2.1 H2.2.2;refine⟨_,xs,_,rfl,λb F=>gV _ _ _ _ F,?_,k1,k2⟩;have b1:=HP.o;rw[bI (by simp[qB];have:=j.o;have:=aY.o;omega)]at b1;refine(b1.only H2.1 λb _ F e=>?_).only ((gI.refl (λb=>b=g) w2).setCell (U g 2) (.inl rfl) _) λb _ F e=>?_
 .simp[Value.ownBlock]at e;rw[<-e,gV _ _ _ _ lo,Y.tw og rfl]at F;exact Z F.symm
 rw[e,gV _ _ _ _ lg,Y.tg]at F;exact Z F.symm
def Rj(h:Qm w cP tn tb g gm iC iv ov l q)(y:q.length<=200)(j:tb≠tn):iU 208 #[.pointer (some (U g 1)),I 200] w λA w'=>∃v xs fz,A=gU v/\(∀b,b<w.heap.size->fz b=cP b)/\xH w' (λb=>fz b=tb) v (qB q) xs/\Q0 w' fz tn tb g iv []/\gI (λb=>cP b=tn) w w':=by
 by_cases F:0<q.length
 .exact Nb h y F j
 have e:q=[]:=aW.1 C;subst e;have e:l=[]:=aW.1 (by rw[h.len];rfl);subst e;exact Md h
end
structure Rq where
 kd:Int
 ln:Int
 nr:Int
 ep:Int
 pl:Int
 ct:Ct
abbrev VJ(t p:Nat):Value:= .iface t (.agg #[O p])
def kC.ty:kC->Nat
 | .unit ..=>233
 | .voter _=>238
def Nd(w:World)(cP:Nat->Nat)(tg tn tb g:Nat)(a b c d:Int)(L:Nat)(P:kC)(q:List Qz):Prop:=∃p,ml w cP tg p a b c d L P/\Q0 w cP tn tb g (VJ P.ty p) q
section
variable{L:Nat}{P:kC}{q:List Qz}
def Q0.only(h:Q0 w cP tn tb g iv q)(j:gI T w w')(y:∀b,b<w.heap.size->T b->cP b≠tn/\cP b≠tb)(A:∀b,b<w.heap.size->fz b=cP b):Q0 w' fz tn tb g iv q:=by obtain⟨gm,iC,ov,l,h⟩:=h;exact⟨gm,iC,ov,l,h.only j y A⟩
def Nd.only(h:Nd w cP tg tn tb g a b c d L P q)(y:gI T w w')(A:∀b,b<w.heap.size->T b->cP b≠tg/\cP b≠tn/\cP b≠tb)(F:∀b,b<w.heap.size->fz b=cP b):Nd w' fz tg tn tb g a b c d L P q:=by obtain⟨p,M,Q⟩:=h;exact⟨p,M.only y (λb j e=>(A b j e).1) λb h e=>(F b h).H e,Q.only y (λb j e=>(A b j e).2) F⟩
def Nd.lt(h:Nd w cP tg tn tb g a b c d L P q):g<w.heap.size/\cP g=tn:=by obtain⟨p,_,gm,iC,ov,l,h⟩:=h;exact⟨h.lg,h.tg⟩
end
structure UU(r:Rq)(P:kC):Prop where
 ln:0<=r.ln/\r.ln<10
 kd:match P with
  | .unit ..=>(r.kd=1\/r.kd=2\/r.kd=3)/\(r.kd=2->tE r.ct.kd r.ct.val.length=true)
  | .voter _=>r.kd=5\/r.kd=6\/r.kd=7
 ok:Rc.Ok pG ⟨r.kd,[r.ln,r.nr,r.ep,r.pl,r.ct.kd,r.ct.cl,r.ct.ca],r.ct.val⟩
 a:nX r.ct.val
def WN{s:St}(h:∀i,i<16->(s.ct i).val.length<=255)(kd e x j cl y:Int)(ys:List Int):(uA a b c d ch s kd e x j cl y ys).1.ct.val.length<=255:=by
 have A:(tB a b c d ch s x).ct.val.length<=255:=by
  unfold tB mw;split
  .simp
  split
  .simp
  split
  .simp
  have F:(rC a b c d x).2.2=0:=C;obtain⟨i,H,e⟩:=Aw F;have M:(rC a b c d x).2.1.toNat=i:=om e;rw[M];exact h i H
 unfold uA rb oP qn;repeat' split
 all_goals first|exact A|simp[an]
def Wu(h:VI s)(kd e b:Int)(ys:List Int):(vA s kd e b ys).1.val.length<=255:=by
 have j:=(h.1 e).1.1;unfold vA pM;dsimp only;repeat' split
 all_goals first|exact j|simp
end Go.Proofs.YtbghhbpacijmmaaGreat
