import Derived.Deep.CutBlock
import Derived.Test.YtbghhbpacijmmaaGreatL13
open Go.Proofs.Tryz
namespace Go.Proofs.YtbghhbpacijmmaaGreat
set_option maxRecDepth 99999
set_option maxHeartbeats 0
set_option linter.defProp false
open Go.RowKit Go.Maps
attribute [local go_sem ↓] Go.wp_at_zero Go.wp_at_succ
variable {W:Wd} {n m v ce a i g p:Nat} {D:Nat->Ct} {mk ak' nr:Int} {res res':List Rz} {c:jf} {pb:Qn An} {T T':Nat->St} {aY qb:Nat->Nat} {w:World} {A:Ac} {dd pend':List jf} {ns:List Int} {r:Rq} {V:WV} {ca:Option Addr}
def Us (n:Nat) (D:Nat→Ct) (mk:Int) (ch:Nat):St:=⟨0,mk,fun i=>D (i*n+ch)⟩
def nT (D:Nat→Ct) (a:Nat) (t:Ct):Nat→Ct:=fun b=>if b=a then t else D b
def rW (D:Nat→Ct) (mk:Int) (a:Nat):An:=if(a:Int)<mk then⟨4,0,mk,{D a with val:=[]}⟩ else if(D a).kd=0 then⟨3,0,0,⟨0,0,0,[]⟩⟩ else⟨2,0,0,D a⟩
theorem Nt (hf:mI n m v ce=true) (ha:a<n*ce):n9 n m v ce a=(((a%n:Nat):Int),((a/n:Nat):Int),0):=by
 unfold n9
 rw[if_pos hf,if_neg (by have:((n*ce:Nat):Int)=(n:Int)*ce:=by simp
                         omega)]
 simp
theorem Eu (hf:mI n m v ce=true) (ha:a<n*ce):tN n m v ce ((a%n:Nat):Int) (Us n D mk (a%n)) a=rW D mk a:=by
 have hl:=Nt (m:=m) (v:=v) hf ha
 have hD:D (a/n*n+a%n)=D a:=by rw[Nat.div_add_mod']
 unfold tN jQ rW Us
 simp only[hl,ne_eq,not_true_eq_false,or_self,if_false,Int.toNat_natCast,hD]
 split
 ·rfl
 ·split<;>rfl
theorem RM (hf:mI n m v ce=true) (ha:a<n*ce) {r:Rq} (hk:r.kd=3) (he:r.ep=0) (hp:r.pl=a):my n m v ce ((a%n:Nat):Int) (Us n D mk (a%n)) r=(rW D mk a,Us n D mk (a%n)):=by
 unfold my uM xq
 rw[hk,he,hp,if_neg (by decide),if_neg (by decide),if_pos rfl,if_neg (by simp[Us]),Eu hf ha]
 rfl
theorem zo (hf:mI n m v ce=true) (ha:a<n*ce) {r:Rq} (hk:r.kd=2) (he:r.ep=0) (hp:r.pl=a) (hc:qd r.ct.kd r.ct.val.length=true):my n m v ce ((a%n:Nat):Int) (Us n D mk (a%n)) r=if(rW D mk a).wh=3 then(an 1 0 0,Us n (nT D a r.ct) mk (a%n)) else(rW D mk a,Us n D mk (a%n)):=by
 have hl:=Eu (m:=m) (v:=v) (D:=D) (mk:=mk) hf ha
 have hw:(jQ n m v ce ((a%n:Nat):Int) (Us n D mk (a%n)).mark (Us n D mk (a%n)).ct a).1=(rW D mk a).wh:=by rw[←hl];rfl
 have hcel:Ux n m v ce a=a/n:=by unfold Ux;rw[Nt hf ha];exact Int.toNat_natCast _
 unfold my uM r9
 rw[hk,he,hp,if_neg (by decide),if_pos rfl,if_neg (by simp[Us]),if_neg (by rw[hc];decide),hw,hl,hcel]
 split
 ·congr 1
  unfold Us nT
  congr 1
  funext j
  have hn:0<n:=by
   rcases Nat.eq_zero_or_pos n with e|e
   ·subst e;simp at ha
   ·exact e
  by_cases e:j=a/n
  ·rw[if_pos e,e,Nat.div_add_mod',if_pos rfl]
  ·rw[if_neg e,if_neg fun e'=>e ?_]
   have hm:=Nat.mod_lt a hn
   rw[←e',Nat.add_comm,Nat.add_mul_div_right _ _ hn,Nat.div_eq_of_lt hm,Nat.zero_add]
 ·rfl
theorem PZ {n m v ce:Nat} {D:Nat→Ct} {mk:Int} {ch:Nat} {r:Rq} (hk:r.kd=4) (he:r.ep=0):my n m v ce (ch:Int) (Us n D mk ch) r=(an 1 0 (max mk r.pl),Us n D (max mk r.pl) ch):=by
 unfold my uM tK
 rw[hk,he,if_neg (by decide),if_neg (by decide),if_neg (by decide),if_neg (by simp[Us])]
 have:(if(Us n D mk ch).mark<r.pl then r.pl else(Us n D mk ch).mark)=max mk r.pl:=by
  show(if mk<r.pl then r.pl else mk)=_
  split<;>omega
 rw[this]
 rfl
theorem yH {n m v ce:Nat} {res:List Rz} {dd:List jf} {ak:Int} {pb:Qn An} (hn:1≤n∧n≤3) (a:Nat):(sx n m v ce res dd ak pb).chain a=(List.range m).map fun(i:Nat)=>((a%n*m+i:Nat):Int):=by
 have iV:=Nat.mod_lt a (show 0<n by omega)
 show(jC n m).getD (((a:Int)%(n:Int)).toNat) []=_
 have:(((a:Int)%(n:Int)).toNat)=a%n:=by omega
 rw[this]
 unfold jC
 rw[List.getD_eq_getElem?_getD,List.getElem?_map,List.getElem?_range iV]
 rfl
section
variable{d:jf}{ak:Int}{fr:Int}{A:An}
theorem ub (h:d.gH=c.gH):(sx n m v ce res [d] ak pb).put c=sx n m v ce res [c] ak pb:=by
 unfold Cx.put sx
 simp[h]
theorem vX (h:d.gH=c.gH) (R:Rz):(sx n m v ce res [d] ak pb).fin c R=sx n m v ce (res.set c.gH R) [] ak pb:=by
 unfold Cx.fin sx
 simp[h]
theorem wG (h:d.gH=c.gH) (ns:List Int) (kd pl:Int) (t:Ct):(sx n m v ce res [d] ak pb).qF c ns kd pl t=sx n m v ce res [{c with q:=Qn.new ns ⟨kd,c.im,ak+1,0,pl,t⟩}] (ak+1) pb:=
 ub (ak:=ak+1) (c:={c with q:=Qn.new ns ⟨kd,c.im,ak+1,0,pl,t⟩}) h
theorem ym (h1:c.q.a.nr=nr) (h2:fr∈c.q.nodes) (h3:∀z∈c.q.B,z.1≠fr):(sx n m v ce res [c] ak pb).qg fr nr A=(sx n m v ce res [{c with q:=c.q.add fr A}] ak pb).ld {c with q:=c.q.add fr A} A:=by
 unfold Cx.qg
 have:[c].find? (fun c=>c.q.E nr fr)=some c:=by
  rw[List.find?_cons_of_pos (by exact Qn.pW.2 ⟨h1,h2,h3⟩)]
 show(match [c].find? (fun c=>c.q.E nr fr) with
  |none=>_
  |some c=>((sx n m v ce res [_] ak pb).put {c with q:=c.q.add fr A}).ld {c with q:=c.q.add fr A} A)=_
 rw[this]
 dsimp only
 rw[ub (d:=c) (c:={c with q:=c.q.add fr A}) rfl]
theorem PD (h:c.q.a.nr≠nr):(sx n m v ce res [c] ak pb).qg fr nr A=sx n m v ce res [c] ak pb:=by
 unfold Cx.qg
 have:[c].find? (fun c=>c.q.E nr fr)=none:=by
  rw[List.find?_cons_of_neg (by simp[Qn.E,h])]
  rfl
 show(match [c].find? (fun c=>c.q.E nr fr) with
  |none=>_
  |some c=>((sx n m v ce res [_] ak pb).put {c with q:=c.q.add fr A}).ld {c with q:=c.q.add fr A} A)=_
 rw[this]
theorem collect {r:Rq} {ns:List Int} {Z:Cx} (hr:r.nr=nr) (js:List Nat) (hjs:ns=js.map fun(j:Nat)=>(j:Int)) (hn:js.Nodup)
 (hput:∀l,l.length<ns.length→(sx n m v ce res [{c with q:=⟨r,ns,false,l⟩}] ak pb).ld {c with q:=⟨r,ns,false,l⟩} A=sx n m v ce res [{c with q:=⟨r,ns,false,l⟩}] ak pb)
 (hfin:∀l,l=(js.map fun(j:Nat)=>((j:Int),A))→(sx n m v ce res [{c with q:=⟨r,ns,false,l⟩}] ak pb).ld {c with q:=⟨r,ns,false,l⟩} A=Z):
 ∀(done rest:List Nat),js=done++rest→rest≠[]→rest.foldl (fun(Y:Cx) (j:Nat)=>Y.qg j nr A) (sx n m v ce res [{c with q:=⟨r,ns,false,done.map fun(j:Nat)=>((j:Int),A)⟩}] ak pb)=Z
 |done,[],_,h=>absurd rfl h
 |done,j::rest,e,_=>by
  have hnd:j∉done:=fun hj=>by
   rw[e] at hn
   exact(List.nodup_append.1 hn).2.2 j hj j (List.mem_cons_self ..) rfl
  have e2:js=(done++[j])++rest:=by rw[e];simp
  rw[List.foldl_cons,ym (c:={c with q:=⟨r,ns,false,done.map fun(j:Nat)=>((j:Int),A)⟩}) hr (by show(j:Int)∈ns;rw[hjs,e];simp) (fun z hz=>by
   obtain⟨k,hk,rfl⟩:=List.mem_map.1 (show z∈done.map fun(j:Nat)=>((j:Int),A) from hz)
   intro e
   have e:(k:Int)=j:=e
   exact hnd (by have:k=j:=by omega
                 rw[←this];exact hk))]
  have e3:(Qn.add (⟨r,ns,false,done.map fun(j:Nat)=>((j:Int),A)⟩:Qn An) j A)=⟨r,ns,false,(done++[j]).map fun(j:Nat)=>((j:Int),A)⟩:=by simp[Qn.add]
  show rest.foldl _ ((sx n m v ce res [{c with q:=Qn.add ⟨r,ns,false,done.map fun(j:Nat)=>((j:Int),A)⟩ j A}] ak pb).ld {c with q:=Qn.add ⟨r,ns,false,done.map fun(j:Nat)=>((j:Int),A)⟩ j A} A)=Z
  rw[e3]
  match rest,e2 with
  |[],e2=>
   rw[List.foldl_nil]
   exact hfin _ (by rw[e2,List.append_nil])
  |k::rest,e2=>
   rw[hput _ (by rw[hjs,e2];simp)]
   exact collect hr js hjs hn hput hfin (done++[j]) (k::rest) e2 (by simp)
theorem IK (h:c.q.a.nr≠nr) (f:Nat→An):∀js:List Nat,js.foldl (fun(Y:Cx) (j:Nat)=>Y.qg j nr (f j)) (sx n m v ce res [c] ak pb)=sx n m v ce res [c] ak pb
 |[]=>rfl
 |j::js=>by rw[List.foldl_cons,PD h];exact IK h f js
end
theorem Ur (k:Nat):∀N,k<N→((List.range N).filter fun(j:Nat)=>decide ((j:Int)∈[(k:Int)]))=[k]
 |N+1,h=>by
  rw[List.range_succ,List.filter_append]
  by_cases e:k<N
  ·rw[Ur k N e,List.filter_cons_of_neg (by simp;omega)]
   rfl
  ·have:((List.range N).filter fun(j:Nat)=>decide ((j:Int)∈[(k:Int)]))=[]:=by
    rw[List.filter_eq_nil_iff]
    intro j hj
    have:=List.mem_range.1 hj
    simp
    omega
   rw[this,List.filter_cons_of_pos (by simp;omega)]
   have:N=k:=by omega
   rw[this]
   rfl
theorem Td (n m:Nat):((List.range (n*m)).filter fun(j:Nat)=>decide ((j:Int)∈us n m))=List.range (n*m):=by
 rw[List.filter_eq_self]
 intro j hj
 exact decide_eq_true (wA (List.mem_range.1 hj))
def ur (m ch:Nat):List Nat:=(List.range m).map fun i=>ch*m+i
theorem Tm {n m ch:Nat} (hn:1≤n∧n≤3) (hm:1≤m∧m≤3) (hc:ch<n):((List.range (n*m)).filter fun(j:Nat)=>decide ((j:Int)∈(ur m ch).map fun(j:Nat)=>(j:Int)))=ur m ch:=by
 obtain rfl|rfl|rfl:n=1∨n=2∨n=3:=by omega
 all_goals
  obtain rfl|rfl|rfl:ch=0∨ch=1∨ch=2:=by omega
  all_goals first
   |(exfalso;omega)
   |(obtain rfl|rfl|rfl:m=1∨m=2∨m=3:=by omega
     all_goals decide)
theorem vO (m ch:Nat):(ur m ch).Nodup:=by
 unfold ur List.Nodup
 rw[List.pairwise_map]
 exact List.nodup_range.imp fun h e=>h (by omega)
theorem Jh {m ch j:Nat} (hj:j∈ur m ch):j/m=ch∧0<m:=by
 obtain⟨i,hi,rfl⟩:=List.mem_map.1 hj
 have hi:=List.mem_range.1 hi
 have hm:0<m:=by omega
 exact⟨by rw[Nat.add_comm,Nat.add_mul_div_right _ _ hm,Nat.div_eq_of_lt hi,Nat.zero_add],hm⟩
def Tryz.SO:(prog.info? 60).map (λi=>(i.zero,i.size,i.bytes))=some (some (.agg #[I 0,I 0,I 0,I 0,.string {data:=#[]},OO,I 0,I 0,I 0,I 0,OO]),11,128):=rfl
def uj(ys):(ik ys).size=ys.length:=by have:=Z5 List.length (mE ys);simp_all
def sM(ys):(ik ys).data.size=ys.length:=uj ys
def EY(w:World)(ys)(F:∀d∈ys,0<=d/\d<=255)(cap)(f):Bs (w.alloc (gO (bytesRow (ik ys) cap) 5 f)) (dk (G w.heap.size) ys.length cap) (ys.map B8):=by
 refine .inr ⟨(U w.heap.size 0),cap,aq,λj u H=>?_⟩;rw[mU,bP,ax _ _ j _ 5 f (ao w _)];obtain⟨y,rfl⟩:=aj.1 H;rw[ay]at y;rw[bytesRow_at _ _ _ (by rw[sM];exact y)];have L:(ik ys).data[j]'(by rw[sM];exact y)=UInt8.ofNat (ys[j]).toNat:=by
  have:=mE ys;have M:(ik ys).data.toList[j]?=(ys.map λn=>UInt8.ofNat n.toNat)[j]?:=by rw[this]
  rw[aK,ah y,gw,dW (by rw[sM];exact y)]at M;simp_all
 have P:=F ys[j] (aL y);rw[L,dC];simp only[B8,UInt8.toNat_ofNat',aJ,Value.int.injEq,ZU];omega
def FM(w:World)(ys)(y:∀d∈ys,0<=d/\d<=255)(cap)(f)(F:ys.length<=cap)(H:cap<=maxLen):rI (w.alloc (gO (bytesRow (ik ys) cap) 5 f)) (dk (G w.heap.size) ys.length cap) ys:=by
 refine⟨w.heap.size,0,cap,rfl,aq,F,by unfold maxLen at H;omega,λj d L=>?_⟩;obtain⟨e,_⟩|⟨Q,c,e,M⟩:=EY w ys y cap f
 .simp_all
 simp at e;obtain⟨P,_⟩:=e;have:=M j _ (by rw[aK,L];rfl);rw[<-P,mU]at this;omega
theorem Ke(w)(n:Nat):ib 40 #[I n] w λd w'=>d=gG (.string (ik (je n)))/\Bl w w':=by
 have F:IntKind.u8.wrap (n:Int)=(n:Int)%256:=IntKind.wrap_u8 _;have H:IntKind.u8.wrap ((n:Int)/256)=(n:Int)/256%256:=IntKind.wrap_u8 _;have L:=lC (dk (G w.heap.size) 5 5) (je n) (w.alloc (gO #[.int .u8 ((n:Int)%256),.int .u8 ((n:Int)/256%256),.int .u8 ((n:Int)/65536%256),.int .u8 ((n:Int)/16777216%256),.int .u8 118] 5)) (by
  refine Bs.sl (.inr ⟨(U w.heap.size 0),5,by simp[je],λj u y=>?_⟩)
  rw[mU,bP,ax _ _ j _ 5 (0,0) (ao w _)]
  simpa [je,B8]using y)
 go_enter func40,ntmps40;go_wp2;go_ret;exact⟨rfl,jo.alloc _⟩
def Dn(X:Cx)(kind pos:Int)(val:List Int)(rn er:Int)(X2:Cx):Prop:=(X.dd.length=8/\rn=0/\er=7/\X2=X)\/(X.dd.length<8/\rn=X.res.length/\er=0/\X2=X.Z kind pos val)
def Wk.cx(h:Wk W)(d:W.ac[i]?=some A):A.X.n=W.n/\A.X.m=W.m/\A.X.ce=W.ce:=by obtain⟨⟨c1,c2⟩,_,j,_⟩:=(h.ac i A d).x.cf;exact⟨c1,c2,j⟩
def xR(hW:Wk W)(hS:Sw W)(hA:W.ac[i]?=some A)(kind b)(f:Nat)(hk:(kind=2/\f=19)\/(kind=3/\f=20)\/(kind=4/\f=21)\/(kind=5/\f=22))(hC:Cl w aY (100+32*i) p qb A.X):∃rn er X2,Dn A.X kind (W.jG kind b) [] rn er X2/\ib f #[O p,I (W.jG kind b)] w λF w'=>F=gG (.tuple #[I rn,I er])/\∃y d,jq (Mc (100+32*i)) w aY w' y/\Cl w' y (100+32*i) p d X2:=by
 obtain⟨VC,H⟩:=hC;have hx:=(hW.ac i A hA).x;have Q:=hS.sm i;have j:=hx.OJ Q;have hr:=hx.JT Q;obtain⟨c1,c2,c3⟩:=hW.cx hA;obtain⟨M,p2,S,p4,p5⟩:=EC hW kind b C;rw[<-c1,<-c3]at S p4;rw[<-c1,<-c2]at p5;obtain⟨pos,Y⟩:=dS (W.jG kind b);rw[Y]at M p2 S p4 p5|-;have h8:=hx.pl;by_cases Z:A.X.dd.length=8
 .refine⟨0,7,A.X,.inl ⟨Z,rfl,rfl,rfl⟩,?_⟩;have fin:∀w',Bl w w'->∃y d,jq (Mc (100+32*i)) w aY w' y/\Cl w' y (100+32*i) p d A.X:=λw' hb=>⟨aY,qb,jq.B hb λ_ _=>rfl,Cl.bl ⟨VC,H⟩ hb λ_ _=>rfl⟩;obtain⟨rfl,rfl⟩|⟨rfl,rfl⟩|⟨rfl,rfl⟩|⟨rfl,rfl⟩:=hk
  .exact(AJ _ _ _ _ (Lx H j Z pos ⟨M,S (.inl rfl)⟩)).L λF w' e=>⟨e.1,fin w' e.2⟩
  .exact(Bc _ _ _ _ (JG H j Z pos ⟨M,S (.inr rfl)⟩)).L λF w' e=>⟨e.1,fin w' e.2⟩
  .exact(Bn _ _ _ _ (Jx H j Z pos M (p4 rfl))).L λF w' e=>⟨e.1,fin w' e.2⟩
  exact(Ay _ _ _ _ (Em H j Z C pos ⟨M,p5 rfl⟩)).L λF w' e=>⟨e.1,fin w' e.2⟩
 refine⟨A.X.res.length,0,A.X.Z kind pos [],.inr ⟨C,rfl,rfl,rfl⟩,?_⟩;have fin:∀w' X' d,CS w aY (100+32*i) p d X' w'->∃y d,jq (Mc (100+32*i)) w aY w' y/\Cl w' y (100+32*i) p d X':=λw' X' d P=>by obtain⟨y,k,hc⟩:=P.B;exact⟨y,d,k,hc⟩
 obtain⟨rfl,rfl⟩|⟨rfl,rfl⟩|⟨rfl,rfl⟩|⟨rfl,rfl⟩:=hk
 .exact(AJ _ _ _ _ (Pz H C j C C pos ⟨M,S (.inl rfl)⟩)).L λF w'⟨e,q,_,P⟩=>⟨e,fin w' _ _ P⟩
 .exact(Bc _ _ _ _ (Q8 H C j C C pos ⟨M,S (.inr rfl)⟩)).L λF w'⟨e,q,_,P⟩=>⟨e,fin w' _ _ P⟩
 .exact(Bn _ _ _ _ (Pa H C j C C pos M (p4 rfl))).L λF w'⟨e,q,_,P⟩=>⟨e,fin w' _ _ P⟩
 exact(Ay _ _ _ _ (Kk H C j (hx.xn Q) C C pos ⟨M,p5 rfl⟩)).L λF w'⟨e,q,_,P⟩=>⟨e,fin w' _ _ P⟩
def OG(Y:Wk W)(Z:Sw W)(hA:W.ac[i]?=some A)(pos)(a)(cap)(val)(h0:val.length=5)(hv:rI w (dk a 5 cap) val)(j:∀b,(dk a 5 cap).ownBlock=some b->¬Mc (100+32*i) (aY b))(hC:Cl w aY (100+32*i) p qb A.X):∃M P X2,Dn A.X 1 pos val M P X2/\ib 18 #[O p,dk a 5 cap] w λy w'=>y=gG (.tuple #[I M,I P])/\∃d F,jq (Mc (100+32*i)) w aY w' d/\Cl w' d (100+32*i) p F X2:=by
 obtain⟨VC,H⟩:=hC;have Q:=(Y.ac i A hA).x;have hr:=Q.JT (Z.sm i);have h8:=Q.pl;by_cases S:A.X.dd.length=8
 .refine⟨0,7,A.X,.inl ⟨S,rfl,rfl,rfl⟩,?_⟩;exact(za _ _ _ _ ⟨_,_,_,rfl⟩ (Er H S a 5 cap C C)).L λy w' e=>⟨e.1,aY,qb,jq.B e.2 λ_ _=>rfl,Cl.bl ⟨VC,H⟩ e.2 λ_ _=>rfl⟩
 refine⟨A.X.res.length,0,A.X.Z 1 pos val,.inr ⟨C,rfl,rfl,rfl⟩,?_⟩;refine(za _ _ _ _ ⟨_,_,_,rfl⟩ (K4 H C C _ val C C hv j)).L λy w'⟨e,q,_,hs⟩=>⟨e,?_⟩;obtain⟨d,k,hc⟩:=hs.B;exact⟨d,_,k,hc⟩
def FN(h:Wk W)(Q:W.ac[i]?=some A)(hu:A.up=true):W.iY.th i=A.X.dd.length:=by
 have H:=h.ac i A Q;have hn:=h.nw;have j:∀c∈W.bx,c.a=i->((c.E (W.a+1) W.ac[c.a]?).fin=0↔∃d∈A.X.dd,d.gH=c.b):=λc y ha=>by
  obtain⟨B,b1,b2,b3⟩:=(h.ca c y).ac;rw[ha,Q]at b1;obtain rfl:A=B:=iG b1;obtain⟨r,S⟩:=m9 b2;rw[<-H.x.rp c.b r S,ha,Q];have e:c.E (W.a+1) (some A)=if c.fin=0/\r.wh≠0 then{c with fin:=W.a+1,r:=r}else c:=by unfold Kl.E;dsimp only;rw[aE hu,S]
  rw[e];by_cases F:c.fin=0
  .by_cases P:r.wh=0
   .rw[az (λe=>e.2 P)];exact⟨λ_=>P,λ_=>F⟩
   rw[aE ⟨F,P⟩];exact⟨λe=>absurd e (by show¬W.a+1=0;omega),λe=>absurd e P⟩
  rw[az (λe=>F e.1)];have h2:=b3 hu F;rw[S]at h2;obtain rfl:r=c.r:=iG h2;exact⟨λe=>absurd e F,λe=>absurd e ((h.ca c y).fw F)⟩
 have Y:((W.bx.filter λc=>c.a==i).map (·.b)).Nodup:=by rw[H.nm];exact dU
 have hp:(A.X.dd.map (·.gH)).Nodup:=(cj.2 H.x.pd.gH).imp λe=>Nat.ne_of_lt e;have e1:W.iY.th i=(((W.bx.filter λc=>c.a==i).filter λc=>decide ((c.E (W.a+1) W.ac[c.a]?).fin=0)).map (·.b)).length:=by show((W.bx.map λc=>c.E (W.a+1) W.ac[c.a]?).filter λc=>c.a==i&&decide (c.fin=0)).length=_;rw[dZ,ay,ay,List.filter_filter];congr 1;refine dH λc _=>?_;simp only[Function.comp,(r7 _ c _).1];rw[Bool.and_comm]
 have e2:(((W.bx.filter λc=>c.a==i).filter λc=>decide ((c.E (W.a+1) W.ac[c.a]?).fin=0)).map (·.b)).Perm (A.X.dd.map (·.gH)):=by
  refine(fG (Y.sublist (List.filter_sublist.map _)) hp).2 λk=>⟨λL=>?_,λL=>?_⟩
  .obtain⟨c,y,rfl⟩:=aD.1 L;obtain⟨m1,m2⟩:=aU.1 y;obtain⟨Z,m4⟩:=aU.1 m1;obtain⟨d,d1,d2⟩:=(j c Z (iG m4)).1 (iG m2);exact aD.2 ⟨d,d1,d2⟩
  obtain⟨d,hd,rfl⟩:=aD.1 L;have hl:=H.x.pd.lt d hd;have L:d.gH∈(W.bx.filter λc=>c.a==i).map (·.b):=by rw[H.nm];exact di.2 C
  obtain⟨c,y,M⟩:=aD.1 L;obtain⟨Z,m4⟩:=aU.1 y;exact aD.2 ⟨c,aU.2 ⟨y,by simpa using(j c Z (iG m4)).2 ⟨d,hd,M.symm⟩⟩,M⟩
 rw[e1,e2.length_eq,ay]
section
variable{w':World}{bp:Nat->Nat}{K:Wd}
def Bi(c:Kl):List Value:=[I c.a,I c.b,I c.kind,I c.pos,.string (ik c.value),OO,I c.d,I c.fin,I c.r.wh,I c.r.ad,OO]
def jJ.MI{cc:Nat}(h:jJ w aY g K {V with cv:=dk ca K.bx.length cc}){W1 M:World}(Q:Bl w W1){c:Kl}(hc:c.c=[])(hr:c.r.val=[]){gg cp:Nat}(P:M.ownsRow 0 60 11 (dk (G gg) (K.bx.length+1) cp) (K.bx.length+1) (V.cs++Bi c))(d:W1.grownBy M (dk ca K.bx.length cc).ownBlock)(a1:(dk ca K.bx.length cc).ownBlock=some gg\/w.heap.size<=gg):∃tag2,jq (λt=>t=1\/t=4) w aY (M.setCell (U g 7) (dk (G gg) (K.bx.length+1) cp)) tag2/\jJ (M.setCell (U g 7) (dk (G gg) (K.bx.length+1) cp)) tag2 g {K with bx:=K.bx++[c]} {V with cv:=dk (G gg) (K.bx.length+1) cp,cs:=V.cs++Bi c}:=by
 have lw:=h.lt;have l2:=Q.lt;have l3:=d.size;have n3:V.tp=8\/V.tp=97:=h.ht;have tl:∀b,(dk ca K.bx.length cc).ownBlock=some b->aY b=4:=h.ca.row.aY;have ll:=λb S=>(h.ca.row.gZ.lt b S).2;obtain⟨tag2,Z⟩:∃tag2:Nat->Nat,tag2=λb=>if b<w.heap.size then aY b else if b=gg then 4 else 9:=⟨_,rfl⟩
 have F:∀b,b<w.heap.size->tag2 b=aY b:=λb S=>by rw[Z];simp[S]
 have a2:tag2 gg=4:=by
  obtain e|e:=a1
  .rw[F gg (ll gg e)];exact tl gg e
  rw[Z];dsimp only;rw[az C,aE rfl]
 have oQ:bz (λb=>aY b=1\/aY b=4) w (M.setCell (U g 7) (dk (G gg) (K.bx.length+1) cp)):=((bz.E Q).H ((bz.B d).L λb _ e=>.inr (tl b e.symm))).setCell (U g 7) (.inl (.inl h.tg)) _;have k:jq (λt=>t=1\/t=4) w aY (M.setCell (U g 7) (dk (G gg) (K.bx.length+1) cp)) tag2:=⟨oQ,F⟩;have a0:M.heap[g]?=some (gO (Ek K {V with cv:=dk ca K.bx.length cc}).toArray 66 (0,0)):=by rw[d.block g C λe=>by have:=tl g e.symm;rw[h.tg]at this;omega,Q.heap lw];exact h.hg
 refine⟨tag2,k,iU 7 _ M _ a0,(F g lw).H h.tg,h.J.B k C λi _ _=>C,h.E.B k C λi _ _=>C,⟨⟨?_,λb S=>?_⟩,λj y Y=>?_⟩,h.po.B k (show¬(V.tp=1\/V.tp=4) by omega) C,h.ha.B k C,h.ms.B k C,h.a,h.an,n3⟩
 .simp only[aO,df,dA];exact lD P λb S=>Z8 _ _ _ _ λe=>gJ P a0 au (j4 S e)
 .have e:gg=b:=by simpa [Value.ownBlock]using S
  rw[<-e];exact a2
 have hl:V.cs.length=K.bx.length*11:=h.ca.row.gZ.1;by_cases hj:j<K.bx.length
 .rw[aB hj]at Y;obtain⟨tv,rv,e0,e1,e2,e3,e4,e5,e6,e7,e8,e9,a3,a4,a5⟩:=(h.ca.c j y Y).B k C C;have L:=λo (ho:o<11)=>aB (l₁:=V.cs) (l₂:=Bi c) (show j*11+o<V.cs.length by omega);exact⟨tv,rv,(L 0 C).H e0,(L 1 C).H e1,(L 2 C).H e2,(L 3 C).H e3,(L 4 C).H e4,(L 5 C).H e5,(L 6 C).H e6,(L 7 C).H e7,(L 8 C).H e8,(L 9 C).H e9,(L 10 C).H a3,a4,a5⟩
 have a6:=(aj.1 Y).1;simp at a6;have a7:j=K.bx.length:=C;subst a7;rw[aC jc]at Y;simp at Y;subst Y;have R:=λo (ho:o<11)=>show(V.cs++Bi c)[K.bx.length*11+o]?=(Bi c)[o]? by rw[aC C,hl];congr 1;omega
 exact⟨OO,OO,R 0 C,R 1 C,R 2 C,R 3 C,R 4 C,R 5 C,R 6 C,R 7 C,R 8 C,R 9 C,R 10 C,by rw[hc];exact mx.nil _ _ _,by rw[hr];exact Rd.nil⟩
end
def Pc(t:Nat):Prop:=Pg t\/t=9
def Wk.sd(h:Wk W):Wk {W with iH:=W.iH+1}:=by have y:=tU W {W with iH:=W.iH+1} 0 0 pK jc;have Y:=h.a;have H:=h.nw;have Z:=h.cl;have a4:=h.hd;refine⟨h.n1,h.m1,h.v1,h.v2,h.c1,h.pl,λj P M=>(h.pk j P M).L y,h.al,λj B F=>⟨(h.ac j B F).x.L (Fc W {W with iH:=W.iH+1} j pK jc rfl rfl rfl rfl λ_ _ _ _ _ e=>e),(h.ac j B F).nm⟩,λl Q=>(h.po l Q).L y,by show W.iq.length<=200*(W.iH+1);omega,⟨H.1,by show W.a<=4*((W.iH+1:Nat):Int);omega⟩,by show W.bx.length<=W.iH+1;omega,λc S=>?_,by show W.kS.length<=W.iH+1;omega,h.ms⟩;have d:=h.ca c S;have:=d.tk;exact⟨d.ac,d.kd,d.po,d.vl,by show c.c.length<=W.iH+1;omega,d.bg,d.fi,d.r,d.fw⟩
def JK{l:List Ac}(d:l[i]?=some A):(l.modify i λB=>{B with X:=A.X})=l:=by
 refine bJ λj=>?_;rw[bS];by_cases e:i=j
 .subst e;rw[d];simp
 cases l[j]?<;>simp[e]
def pg(b)(n:Nat)(d:0<n):pk b n=(jh b n:Int):=by have:=kI b n C;unfold jh;omega
def T4(h:Wk W)(b):pk b ((W.n:Int)*W.ce)=W.jG 2 b/\pk b ((W.n:Int)*W.ce)=W.jG 3 b/\pk b ((W.n:Int)*W.ce+1)=W.jG 4 b/\pk b ((W.n:Int)*W.m)=W.jG 5 b:=by have F:0<W.n*W.ce:=dQ h.n1.1 h.c1.1;have H:0<W.n*W.m:=dQ h.n1.1 h.m1.1;have d:=pg b (W.n*W.ce) F;have j:=pg b (W.n*W.ce+1) (Nat.succ_pos _);have y:=pg b (W.n*W.m) H;have c1:((W.n*W.ce:Nat):Int)=(W.n:Int)*W.ce:=aq;have c2:((W.n*W.ce+1:Nat):Int)=(W.n:Int)*W.ce+1:=aq;have L:((W.n*W.m:Nat):Int)=(W.n:Int)*W.m:=aq;rw[c1]at d;rw[c2]at j;rw[L]at y;exact⟨by rw[d];simp[Wd.jG,Wd.lH],by rw[d];simp[Wd.jG,Wd.lH],by rw[j];simp[Wd.jG,Wd.lH],by rw[y];simp[Wd.jG]⟩
def sR{wc Y L:World}{F d j:Nat->Nat}{Z:Nat}{W1:Wd}{X2:Cx}{M:Array Value}{kind pos rn er:Int}{val:List Int}(k:jq Pc w aY wc F)(k4:jq (λs=>s=9) wc F Y d)(h4:jJ Y d g W1 V)(a0:ME V.aw i p A.up)(hA:W1.ac[i]?=some A)(a1:d Z=9)(a2:Y.heap[Z]?=some (gO M 60 (0,0)))(k5:jq (Mc (100+32*i)) Y d L j)(hC:Cl L j (100+32*i) p qb X2)(hD:Dn A.X kind pos val rn er X2):∃P Q S y,I rn=I P/\I er=I Q/\Hid (Dn A.X kind pos val P Q S)/\Hid (jq Pc w aY L y)/\Hid (jJ L y g {W1 with ac:=W1.ac.modify i λB=>{B with X:=S}} V)/\Hid (y Z=9/\L.heap[Z]?=some (gO M 60 (0,0))):=by
 have hi:i<8:=by have:=(aj.1 hA).1;have:=h4.an;omega
 have e:=k5.heap a2 a1 (by unfold Mc;omega);exact⟨rn,er,X2,j,rfl,rfl,hD,(k.H (k4.L λs e=>.inr e)).H (k5.L λs e=>.inl (by unfold Mc at e;unfold Pg;omega)),h4.Qa k5 (λt e=>.inl (by unfold Mc at e;omega)) hA a0 hC,e.2,e.1⟩
theorem Ot(h:jJ w aY g W V)(hW:Wk W)(hS:W.iH+3<=3000000000)(hC:W.bx.length+1<=9999999)(kind a b)(hk:kind=1\/kind=2\/kind=3\/kind=4\/kind=5)(e7:Bb a)(bw:Bb b)(d9:0<W.ac.length):Calls prog 28 #[.pointer (some ⟨g,0,none⟩),.int .i64 kind,.int .i64 a,.int .i64 b] w λen w'=>en=.returned (.bool true)/\∃bp,jq Pc w aY w' bp/\Wx w' bp g (W.call kind a b):=by
 obtain⟨fw,g0,r0,r1,r2⟩:=fx Tryz.SO;have gn:=h.a;have go:=h.an;have g1:=hW.nw;obtain⟨i,hi⟩:=dS (jh a W.ac.length);have e8:i<W.ac.length:=by rw[<-hi];exact mS a d9
 have gq:(i:Int)<(W.ac.length:Int):=C;have e9:pk a W.ac.length=(i:Int):=by rw[pg a _ d9,hi]
 obtain⟨A,hA⟩:=m9 e8;have cl:=fu λWm=>kQ a W.ac.length Wm e7.1 e7.2 C C;rw[e9]at cl;obtain⟨W0,c6⟩:=dS (({W with iH:=W.iH+1}:Wd):Wd);have h0:jJ w aY g W0 V:=by rw[<-c6];exact h.sd (Nat.le_succ _)
 have bR:Wk W0:=by rw[<-c6];exact hW.sd
 have bC:W.call kind a b=if A.up then(if A.X.dd.length=8 then W0.iY else((W0.iY).m7 kind b i A).iY)else W:=by subst c6;unfold Wd.call;rw[hi,hA]
 have q0:W0.a=W.a/\W0.iH=W.iH+1/\W0.ac=W.ac/\W0.bx=W.bx:=by rw[<-c6];exact⟨rfl,rfl,rfl,rfl⟩
 have da:=fu (Av h0 bR C (by rw[q0.2.2.2];omega));have a0:=bR.iY (by rw[q0.1,q0.2.1];omega);have db:A.up=true->W0.iY.th i=A.X.dd.length:=λhu=>FN bR (by rw[q0.2.2.1];exact hA) hu;have q1:W0.iY.ac=W.ac/\W0.iY.iH=W.iH+1/\W0.iY.bx.length=W.bx.length/\W0.iY.a=W.a+1:=by refine⟨q0.2.2.1,q0.2.1,?_,by show W0.a+1=_;rw[q0.1]⟩;show(W0.bx.map _).length=_;rw[ay,q0.2.2.2]
 obtain⟨W1,ea⟩:=dS W0.iY;rw[ea]at bC da a0 db q1;obtain⟨dc,eb,ec,ee⟩:=q1;have cn:W1.ac[i]?=some A:=by rw[dc];exact hA
 have cV:Sw W1:=⟨C,C⟩;have d0:W1.mR i=A.X.res.length:=vg a0 cn;obtain⟨aa,ac,dg⟩:=h.E.row.E;obtain⟨ab,_,ef,a2,c5⟩:∃ab,aa=some ⟨ab,0,none⟩/\ab<w.heap.size/\w.cell? ⟨ab,i*3+2,none⟩=some (.bool A.up)/\w.cell? ⟨g,5,none⟩=some (dk (some ⟨ab,0,none⟩) W.ac.length ac):=by have hr:=h.E.row;rw[dg]at hr;obtain⟨ab,rfl,_,ef,bT,_⟩:=hr.cells d9;obtain⟨p,qb,c9,_⟩:=h.E.ac i A hA;exact⟨ab,rfl,ef,(bT (i*3+2) C).H c9.2.2,by rw[<-dg];exact h.cellAt 5 rfl⟩
 have lg:=h.lt;have bD:=T4 a0 b;have dj:=IV a0.n1.2 a0.c1.2;have dl:=tE a0.n1.2 a0.m1.2;have dn:0<W1.n*W1.ce:=dQ a0.n1.1 a0.c1.1;have ds:0<W1.n*W1.m:=dQ a0.n1.1 a0.m1.1;have eg:((W1.n*W1.ce:Nat):Int)=(W1.n:Int)*W1.ce:=aq;have ei:((W1.n*W1.m:Nat):Int)=(W1.n:Int)*W1.m:=aq;obtain⟨nc,co⟩:=dS ((W1.n:Int)*W1.ce:Int);obtain⟨nu,cq⟩:=dS ((W1.n:Int)*W1.m:Int);rw[co,cq]at bD;rw[co]at eg;rw[cq]at ei;have d5:=ti a0 cn;obtain⟨up,cr⟩:=dS A.up;rw[cr]at a2;obtain⟨H,Hn,Hq⟩:=gV (And.intro h (And.intro a0 (And.intro cn (And.intro cV (And.intro d0 (And.intro bD (And.intro db (And.intro d5 cr)))))))) (And.intro co cq) (And.intro dc (And.intro eb (And.intro ec ee)));have b1:0<nc/\nc<=48:=C;have b2:0<nu/\nu<=9:=C;have b3:-2<=W1.a/\W1.a<=100000000000:=C;have b4:W1.bx.length<=9999998:=C;rw[bC,cr];clear h hW hA e9 hi a0 cn cV d0 bD db d5 cr co cq dc eb ec ee bC h0 bR ea q0 c6 dj dl dn ds eg ei dg g1
 cases up with
 |false=>rw[az aq];go_enter func28,ntmps28;go_wp2_with(first|(go_at_call 15;refine gF (cl _) λw' j=>?_;have j:=j.symm;subst j));go_ret;exact⟨rfl,aY,jq.refl,⟨_,H.1⟩⟩
 |true=>
 rw[aE rfl];generalize ej:(if A.X.dd.length=8 then W1 else(W1.m7 kind b i A).iY)=WR;have ek:=fu ej;clear ej;go_enter func28,ntmps28;go_upto_region 7 with(first|(go_at_call 15;refine gF (cl _) λw' j=>?_;have j:=j.symm;subst j)|(go_at_call 53;refine da.L ?_;rintro en w1⟨rfl,bA,k1,h1⟩;obtain⟨el,em⟩:=fl k1 h1;clear k1 h1));obtain⟨V1,h1⟩:=em.o;obtain⟨ca,cc,ep⟩:=h1.ca.row.E;obtain⟨gr,eq,d6⟩:=h1.E.row.E;obtain⟨pv,av,lv,cv,hv,mv,ps,aw,ls,cs,tp⟩:=V1;simp only at ep d6;subst ep d6;obtain⟨p,qb,c9,_⟩:=h1.E.ac i A H.2.2.1;have ge:i<W1.ac.length:=by rw[Hq.1];exact e8
 obtain⟨es,rfl,_,gi,bT,_⟩:=h1.E.row.cells (by show 0<W1.ac.length;omega);have a1:=(bT (i*3+1) (by show i*3+1<W1.ac.length*3;omega)).H c9.2.1;obtain⟨g2,c8⟩:=h1.M 5 8 rfl;have gs:=h1.lt;have gj:(i:Int)<(W1.ac.length:Int):=C;obtain⟨nm,dt⟩:=dS (W1.mR i);have eu:Hid (∀Wm,Bl w1 Wm->Calls prog 54 #[.pointer (some ⟨g,0,none⟩),.int .i64 i] Wm λen w'=>en=.returned (.int .i64 nm)/\w'=Wm):=λWm hb=>by have:=BN (h1.bl (bp:=bA) hb λ_ _=>rfl) i C;rwa[dt]at this
 obtain⟨ev,c3⟩:=fl dt (And.intro h1 c9);clear h1 c9 bT em da cl a2 dt c5;go_upto_region 8 with fail;go_cut[12]from 12 to 162 λy wx=>∃M,y=.pointer (some ⟨M,0,none⟩)/\Hid (Bl w1 wx/\w1.heap.size<=M/\wx.heap[M]?=some (.cells #[.int .i64 i,.int .i64 nm,.int .i64 kind,.int .i64 0,.string {data:=#[]},dk none 0 0,.int .i64 W1.a,.int .i64 0,.int .i64 0,.int .i64 0,dk none 0 0] 60 (0,0)))
 case first=>
  go_region_with(go_at_call 54;refine(eu _ ?hb).L ?_;(case hb=>exact mG);rintro en w2⟨rfl,rfl⟩);all_goals(go_wp2_with fail;go_meet)
  all_goals(refine⟨_,rfl,?_,Nat.le_refl _,ao _ _⟩;(first|exact((Bl.refl w1).alloc _).drew|exact((Bl.refl w1).drew).alloc _|exact(Bl.refl w1).alloc _))
 obtain⟨M,rfl,HG⟩:=hcut;have bc:=HG.1;have cb:M<wc.heap.size:=(ae.1 HG.2.2).1;have dv:=c3.1.bl (bp:=gN bA w1.heap.size 9) bc λb hb=>fz _ _ _ _ hb;have a7:gN bA w1.heap.size 9 M=9:=ig _ _ _ _ HG.2.1;have bE:Hid (jq Pc w aY wc (gN bA w1.heap.size 9)):=(el.L λt e=>.inl (by unfold OT at e;unfold Pg;omega)).H (jq.B bc λb hb=>fz _ _ _ _ hb);obtain⟨bb,bd⟩:=fl HG.2.2 dv;have gt:=dv.lt;obtain⟨d,cd⟩:=dS (gN bA w1.heap.size 9);rw[cd]at bd bE a7;obtain⟨pos,a5⟩:=dS (W1.jG kind b);obtain⟨val,a6⟩:=dS (W1.kx kind);clear dv bc HG eu a1 g2 c8 cd el;go_upto_block 0 with fail;go_cut[13,14]from 13 to 162 λx y wx=>∃rn er X2 bi,x=.int .i64 rn/\y=.int .i64 er/\Hid (Dn A.X kind pos val rn er X2)/\Hid (jq Pc w aY wx bi)/\Hid (jJ wx bi g {W1 with ac:=W1.ac.modify i λB=>{B with X:=X2}} ⟨pv,dk (some ⟨es,0,none⟩) W1.ac.length eq,lv,dk ca W1.bx.length cc,hv,mv,ps,aw,ls,cs,tp⟩)/\Hid (bi M=9/\wx.heap[M]?=some (.cells #[.int .i64 i,.int .i64 nm,.int .i64 kind,.int .i64 pos,.string (ik val),dk none 0 0,.int .i64 W1.a,.int .i64 0,.int .i64 0,.int .i64 0,dk none 0 0] 60 (0,0)))
 case first=>
  have bB:Hid (∀Wm,Bl wc Wm->Calls prog 27 #[.pointer (some ⟨g,0,none⟩)] Wm λen w'=>en=.returned (.int .i64 nc)/\Bl Wm w'):=λWm hb=>by have:=tz (bd.bl (bp:=d) hb λ_ _=>rfl) H.2.1;rwa[Hn.1]at this
  obtain rfl|rfl|rfl|rfl|rfl:=hk
  .
   have am:pos=0:=by rw[<-a5];simp[Wd.jG]
   have be:je W1.bx.length=val:=by rw[<-a6];simp[Wd.kx]
   obtain⟨cf,d7⟩:=uC W1.bx.length;have dw:=fu λWm=>Ke Wm W1.bx.length;rw[be]at dw cf d7;have c7:=bd.cellAt 7 rfl;subst am;clear a6 be a5;go_upto_region 16 with(go_at_call 40;refine gF (dw _) λw3 ad=>?_;have Z:=(ad.heap cb).H bb;have z3:w3.cell? ⟨M,4,none⟩=some (.string {data:=#[]}):=(ax w3 M 4 _ 60 (0,0) Z);have bm:=aP w3 M 4 _ 60 Z;have cg:M<w3.heap.size:=(ae.1 Z).1;obtain⟨ag,an⟩:=fl ad Z;clear ad Z);have ap:=bd.bl (bp:=d) ag λ_ _=>rfl;obtain⟨S,ar,ba,a8,Y⟩:∃S,w3.setCell ⟨M,4,none⟩ (.string (ik val))=S/\jq (λs=>s=9) w3 d S d/\jJ S d g W1 _/\S.heap[M]?=some (.cells #[.int .i64 i,.int .i64 nm,.int .i64 1,.int .i64 0,.string (ik val),dk none 0 0,.int .i64 W1.a,.int .i64 0,.int .i64 0,.int .i64 0,dk none 0 0] 60 (0,0)):=⟨_,rfl,ka a7 _ _,ap.B (ka a7 _ _) λt e=>by unfold Mu;omega,fy w3 M 4 _ 60 (.string (ik val)) an⟩;rw[ar];have bg:=fu ((jq.B (P:=λs=>s=9) (bp:=d) ag λ_ _=>rfl).H ba);have z4:=ax S M 4 _ 60 (0,0) Y;have bl:M<S.heap.size:=(ae.1 Y).1;have kc:=run_bytes_of_string (P:=prog) S 9 40 5 (ik val) underlying9 underlying40 underlying5;rw[uj,cf]at kc;have bV:=FM S.drew val d7 (grownCap S 5 0 5) ((bytesRow (ik val) (grownCap S 5 0 5)).size,(bytesRow (ik val) (grownCap S 5 0 5)).size+1) (by rw[cf];exact grownCap_ge _ _ _ _) (grownCap_le_maxLen _ _ _ _ au);rw[cf]at bV;have b5:Bl S (S.drew.alloc (.cells (bytesRow (ik val) (grownCap S 5 0 5)) 5 ((bytesRow (ik val) (grownCap S 5 0 5)).size,(bytesRow (ik val) (grownCap S 5 0 5)).size+1))):=((Bl.refl S).drew).alloc _;obtain⟨W5,ew⟩:=dS (S.drew.alloc (.cells (bytesRow (ik val) (grownCap S 5 0 5)) 5 ((bytesRow (ik val) (grownCap S 5 0 5)).size,(bytesRow (ik val) (grownCap S 5 0 5)).size+1)));rw[ew]at kc bV b5;have dO:=a8.bl (bp:=gN d S.heap.size 9) b5 λb hb=>fz _ _ _ _ hb;have ex:=(b5.heap bl).H Y;have ez:gN d S.heap.size 9 M=9:=(fz _ _ _ _ bl).H a7;have g3:=fu (bg.H (jq.B (P:=λs=>s=9) (bp:=gN d S.heap.size 9) b5 λb hb=>fz _ _ _ _ hb));generalize grownCap S 5 0 5=gc at*;obtain⟨p',ct,F,a3⟩:=dO.E.ac i A H.2.2.1;have bn:p'=p:=by have e1:=F.2.1.symm.H c3.2.2.1;simpa using e1
   subst bn;obtain⟨rn,er,X2,hD,a9⟩:=OG H.2.1 H.2.2.2.1 H.2.2.1 0 (some ⟨S.heap.size,0,none⟩) gc val cf bV (λb hb=>by
    have e:S.heap.size=b:=by simpa [Value.ownBlock]using hb
    rw[<-e,ig _ _ _ _ (Nat.le_refl _)]
    unfold Mc;omega) a3
   obtain⟨ak,bo,bq,HD⟩:=ju (And.intro dO F) ex a9 hD;clear ap a8 Y ar ag an bm bB dw a9 hD F a3 ba dO ex b5 bV ew;go_wp2_with(go_at_call 18;refine bq.L ?_;rintro en w5⟨rfl,bW,cx,k5,al⟩;have HS:=mF k5 al;clear k5 al);go_meet;exact sR bE g3 ak.1 ak.2 H.2.2.1 ez bo HS.1 HS.2 HD
  .
   have am:pk b nc=pos:=by rw[<-a5];exact H.2.2.2.2.2.1.1
   have be:[]=val:=by rw[<-a6];simp[Wd.kx]
   subst be;have ai:=fu λWm=>kQ b nc Wm bw.1 bw.2 C C;rw[am]at ai;clear a6 am;go_upto_region 19 with(first|(go_at_call 27;refine gF (bB _ (Bl.refl _)) λw3 ad=>?_;have Z:=(ad.heap cb).H bb;have z3:w3.cell? ⟨M,3,none⟩=some (.int .i64 0):=(ax w3 M 3 _ 60 (0,0) Z);have bm:=aP w3 M 3 _ 60 Z;have cg:M<w3.heap.size:=(ae.1 Z).1;obtain⟨ag,an⟩:=fl ad Z;clear ad Z)|(go_at_call 15;refine gF (ai _) λw' j=>?_;have j:=j.symm;subst j));have ap:=bd.bl (bp:=d) ag λ_ _=>rfl;obtain⟨S,ar,ba,a8,Y⟩:∃S,w3.setCell ⟨M,3,none⟩ (.int .i64 pos)=S/\jq (λs=>s=9) w3 d S d/\jJ S d g W1 _/\S.heap[M]?=some (.cells #[.int .i64 i,.int .i64 nm,.int .i64 2,.int .i64 pos,.string {data:=#[]},dk none 0 0,.int .i64 W1.a,.int .i64 0,.int .i64 0,.int .i64 0,dk none 0 0] 60 (0,0)):=⟨_,rfl,ka a7 _ _,ap.B (ka a7 _ _) λt e=>by unfold Mu;omega,fy w3 M 3 _ 60 (.int .i64 pos) an⟩;rw[ar];have bg:=fu ((jq.B (P:=λs=>s=9) (bp:=d) ag λ_ _=>rfl).H ba);have z4:=ax S M 3 _ 60 (0,0) Y;have bl:M<S.heap.size:=(ae.1 Y).1;obtain⟨p',ct,F,a3⟩:=a8.E.ac i A H.2.2.1;have bn:p'=p:=by have e1:=F.2.1.symm.H c3.2.2.1;simpa using e1
   subst bn;obtain⟨rn,er,X2,hD,a9⟩:=xR H.2.1 H.2.2.2.1 H.2.2.1 2 b 19 C a3;rw[a5]at hD a9;obtain⟨ak,bo,bq,HD⟩:=ju (And.intro a8 F) Y a9 hD;clear ap a8 Y ar ag an bm bB ai a9 hD F a3 ba;go_wp2_with(go_at_call 19;refine bq.L ?_;rintro en w5⟨rfl,bW,cx,k5,al⟩;have HS:=mF k5 al;clear k5 al);go_meet;exact sR bE bg ak.1 ak.2 H.2.2.1 a7 bo HS.1 HS.2 HD
  .
   have am:pk b nc=pos:=by rw[<-a5];exact H.2.2.2.2.2.1.2.1
   have be:[]=val:=by rw[<-a6];simp[Wd.kx]
   subst be;have ai:=fu λWm=>kQ b nc Wm bw.1 bw.2 C C;rw[am]at ai;clear a6 am;go_upto_region 22 with(first|(go_at_call 27;refine gF (bB _ (Bl.refl _)) λw3 ad=>?_;have Z:=(ad.heap cb).H bb;have z3:w3.cell? ⟨M,3,none⟩=some (.int .i64 0):=(ax w3 M 3 _ 60 (0,0) Z);have bm:=aP w3 M 3 _ 60 Z;have cg:M<w3.heap.size:=(ae.1 Z).1;obtain⟨ag,an⟩:=fl ad Z;clear ad Z)|(go_at_call 15;refine gF (ai _) λw' j=>?_;have j:=j.symm;subst j));have ap:=bd.bl (bp:=d) ag λ_ _=>rfl;obtain⟨S,ar,ba,a8,Y⟩:∃S,w3.setCell ⟨M,3,none⟩ (.int .i64 pos)=S/\jq (λs=>s=9) w3 d S d/\jJ S d g W1 _/\S.heap[M]?=some (.cells #[.int .i64 i,.int .i64 nm,.int .i64 3,.int .i64 pos,.string {data:=#[]},dk none 0 0,.int .i64 W1.a,.int .i64 0,.int .i64 0,.int .i64 0,dk none 0 0] 60 (0,0)):=⟨_,rfl,ka a7 _ _,ap.B (ka a7 _ _) λt e=>by unfold Mu;omega,fy w3 M 3 _ 60 (.int .i64 pos) an⟩;rw[ar];have bg:=fu ((jq.B (P:=λs=>s=9) (bp:=d) ag λ_ _=>rfl).H ba);have z4:=ax S M 3 _ 60 (0,0) Y;have bl:M<S.heap.size:=(ae.1 Y).1;obtain⟨p',ct,F,a3⟩:=a8.E.ac i A H.2.2.1;have bn:p'=p:=by have e1:=F.2.1.symm.H c3.2.2.1;simpa using e1
   subst bn;obtain⟨rn,er,X2,hD,a9⟩:=xR H.2.1 H.2.2.2.1 H.2.2.1 3 b 20 C a3;rw[a5]at hD a9;obtain⟨ak,bo,bq,HD⟩:=ju (And.intro a8 F) Y a9 hD;clear ap a8 Y ar ag an bm bB ai a9 hD F a3 ba;go_wp2_with(go_at_call 20;refine bq.L ?_;rintro en w5⟨rfl,bW,cx,k5,al⟩;have HS:=mF k5 al;clear k5 al);go_meet;exact sR bE bg ak.1 ak.2 H.2.2.1 a7 bo HS.1 HS.2 HD
  .
   have am:pk b (nc+1)=pos:=by rw[<-a5];exact H.2.2.2.2.2.1.2.2.1
   have be:[]=val:=by rw[<-a6];simp[Wd.kx]
   subst be;have ai:=fu λWm=>kQ b (nc+1) Wm bw.1 bw.2 C C;rw[am]at ai;clear a6 am;go_upto_region 25 with(first|(go_at_call 27;refine gF (bB _ (Bl.refl _)) λw3 ad=>?_;have Z:=(ad.heap cb).H bb;have z3:w3.cell? ⟨M,3,none⟩=some (.int .i64 0):=(ax w3 M 3 _ 60 (0,0) Z);have bm:=aP w3 M 3 _ 60 Z;have cg:M<w3.heap.size:=(ae.1 Z).1;obtain⟨ag,an⟩:=fl ad Z;clear ad Z)|(go_at_call 15;refine gF (ai _) λw' j=>?_;have j:=j.symm;subst j));have ap:=bd.bl (bp:=d) ag λ_ _=>rfl;obtain⟨S,ar,ba,a8,Y⟩:∃S,w3.setCell ⟨M,3,none⟩ (.int .i64 pos)=S/\jq (λs=>s=9) w3 d S d/\jJ S d g W1 _/\S.heap[M]?=some (.cells #[.int .i64 i,.int .i64 nm,.int .i64 4,.int .i64 pos,.string {data:=#[]},dk none 0 0,.int .i64 W1.a,.int .i64 0,.int .i64 0,.int .i64 0,dk none 0 0] 60 (0,0)):=⟨_,rfl,ka a7 _ _,ap.B (ka a7 _ _) λt e=>by unfold Mu;omega,fy w3 M 3 _ 60 (.int .i64 pos) an⟩;rw[ar];have bg:=fu ((jq.B (P:=λs=>s=9) (bp:=d) ag λ_ _=>rfl).H ba);have z4:=ax S M 3 _ 60 (0,0) Y;have bl:M<S.heap.size:=(ae.1 Y).1;obtain⟨p',ct,F,a3⟩:=a8.E.ac i A H.2.2.1;have bn:p'=p:=by have e1:=F.2.1.symm.H c3.2.2.1;simpa using e1
   subst bn;obtain⟨rn,er,X2,hD,a9⟩:=xR H.2.1 H.2.2.2.1 H.2.2.1 4 b 21 C a3;rw[a5]at hD a9;obtain⟨ak,bo,bq,HD⟩:=ju (And.intro a8 F) Y a9 hD;clear ap a8 Y ar ag an bm bB ai a9 hD F a3 ba;go_wp2_with(go_at_call 21;refine bq.L ?_;rintro en w5⟨rfl,bW,cx,k5,al⟩;have HS:=mF k5 al;clear k5 al);go_meet;exact sR bE bg ak.1 ak.2 H.2.2.1 a7 bo HS.1 HS.2 HD
  --kind 5
  obtain⟨wz,e0⟩:∃wz,wz=wc:=⟨_,rfl⟩;subst e0;have am:pk b nu=pos:=by rw[<-a5];exact H.2.2.2.2.2.1.2.2.2
  have be:[]=val:=by rw[<-a6];simp[Wd.kx]
  subst be;have ai:=fu λWm=>kQ b nu Wm bw.1 bw.2 C C;rw[am]at ai;obtain⟨c0,c1⟩:=bd.M 0 1 rfl;have z3:wz.cell? ⟨M,3,none⟩=some (.int .i64 0):=ax wz M 3 _ 60 (0,0) bb;have bm:=aP wz M 3 _ 60 bb;have gu:IntKind.i64.wrap ((W1.n:Int)*W1.m)=nu:=by rw[Hn.2,IntKind.wrap_i64];omega
  clear a6 am;go_upto_region 12 with fail;go_cut[]from 53 to 162 λwy=>Hid (jq (λs=>s=9) wz d wy d/\wy.heap[M]?=some (.cells #[.int .i64 i,.int .i64 nm,.int .i64 5,.int .i64 pos,.string {data:=#[]},dk none 0 0,.int .i64 W1.a,.int .i64 0,.int .i64 0,.int .i64 0,dk none 0 0] 60 (0,0)))
  case first=>
   go_region_with(go_at_call 15;refine gF (ai _) λw' j=>?_;have j:=j.symm;subst j);all_goals(go_wp2_with fail;go_meet)
   all_goals(first|exact⟨((jq.B (P:=λs=>s=9) (bp:=d) ((Bl.refl wz).drew) λ_ _=>rfl).H (ka a7 _ _)),fy wz.drew M 3 _ 60 (.int .i64 pos) bb⟩|exact⟨(ka a7 _ _),fy wz M 3 _ 60 (.int .i64 pos) bb⟩|exact⟨((ka a7 _ _).H (jq.B (P:=λs=>s=9) (bp:=d) ((Bl.refl _).drew) λ_ _=>rfl)),fy wz M 3 _ 60 (.int .i64 pos) bb⟩)
  have bg:Hid (jq (λs=>s=9) wz d wc d):=hcut.1;have Y:=hcut.2;have a8:=bd.B bg (λt e=>by unfold Mu;omega);have z4:=ax wc M 3 _ 60 (0,0) Y;have bl:M<wc.heap.size:=(ae.1 Y).1;obtain⟨p',ct,F,a3⟩:=a8.E.ac i A H.2.2.1;have bn:p'=p:=by have e1:=F.2.1.symm.H c3.2.2.1;simpa using e1
  subst bn;obtain⟨rn,er,X2,hD,a9⟩:=xR H.2.1 H.2.2.2.1 H.2.2.1 5 b 22 C a3;rw[a5]at hD a9;obtain⟨ak,bo,bq,HD⟩:=ju (And.intro a8 F) Y a9 hD;clear a8 Y bm z3 bB ai a9 hD F a3 c0 c1 hcut;go_wp2_with(go_at_call 22;refine bq.L ?_;rintro en w5⟨rfl,bW,cx,k5,al⟩;have HS:=mF k5 al;clear k5 al);go_meet;exact sR bE bg ak.1 ak.2 H.2.2.1 a7 bo HS.1 HS.2 HD
 obtain⟨rn,er,X2,bi,rfl,rfl,HD,f0,bs,e2⟩:=hcut;obtain⟨wz,e0⟩:∃wz,wz=wc:=⟨_,rfl⟩;subst e0;have e3:({W1 with ac:=W1.ac.modify i λB=>{B with X:=X2}}:Wd).th i=A.X.dd.length:=H.2.2.2.2.2.2.1 H.2.2.2.2.2.2.2.2;have c4:=fu (DM bs i (by show W1.bx.length<=_;omega));rw[e3]at c4;obtain⟨d1,d2,d3,d4⟩|⟨d1,d2,d3,d4⟩:=HD.o
 .subst d2 d3 d4;have hR:Hid (W1=WR):=by unfold Hid;rw[<-ek.o,aE d1]
  rw[d1]at c4;clear e3 HD;go_wp2_with(go_at_call 55;refine gF c4 λw' j=>?_;have j:=j.symm;subst j);go_ret;have hx:=bs.o;rw[JK H.2.2.1]at hx;rw[<-hR.o];exact⟨rfl,bi,f0,⟨_,hx⟩⟩
 have hR:Hid ((W1.m7 kind b i A).iY=WR):=by unfold Hid;rw[<-ek.o,az C]
 obtain⟨g4,d8⟩:=dS A.X.dd.length;rw[d8]at c4 d1;have gx:¬((8:Int)<=(g4:Int)):=C;have f1:Hid ((⟨i,W1.mR i,kind,W1.jG kind b,W1.kx kind,[],W1.a,0,Rz.zero⟩:Kl)=⟨i,nm,kind,pos,val,[],W1.a,0,Rz.zero⟩):=by unfold Hid;rw[ev.o,a5,a6]
 have g5:rn=(nm:Int):=by rw[d2,<-ev.o,H.2.2.2.2.1]
 subst g5 d3;obtain⟨c,hc⟩:=dS ((⟨i,nm,kind,pos,val,[],W1.a,0,Rz.zero⟩:Kl):Kl);have cP:Hid (Wk (W1.m7 kind b i A)/\W1.m7 kind b i A={W1 with iH:=W1.iH+1,ac:=W1.ac.modify i λB=>{B with X:=X2},bx:=W1.bx++[c]}):=by refine⟨H.2.2.2.2.2.2.2.1 C kind b hk,?_⟩;unfold Wd.m7 Wd.mM;rw[f1.o,a5,a6,hc,d4]
 have ch:=e2.o;have f2:=bs.lt;have c7:=bs.cellAt 7 rfl;have f7:=bs.F 7;have gl:M<wz.heap.size:=(ae.1 ch.2).1;obtain⟨b0,f3,f4,f5⟩:=nN ch.2 0 1 2 3 rfl;obtain⟨f6,b5,b6,b7⟩:=nN ch.2 4 5 6 7 rfl;obtain⟨b8,b9,f8⟩:=px ch.2 8 9 10 rfl;simp at b0 f3 f4 f5 f6 b5 b6 b7 b8 b9 f8;have bX:=bs.ca.row;simp only at bX;have f9:Hid ((dk ca W1.bx.length cc).ownBlock≠some g):=gJ bX.gZ bs.hg au;have fd:=fu bX;have g6:Hid (W1.bx.length+1<=maxLen):=mQ;have g7:Hid ((W1.bx.length+1)*128<=140737488355328):=lQ;have Hc:=fu hc;clear e3 HD ch bX hc d2 d4 d8 f1 cb bb a7 bE bd;go_upto_region 28 with(go_at_call 55;refine gF c4 λw' j=>?_;have j:=j.symm;subst j);go_cut[]from 53 to 162 λwy=>∃ci Vy,Hid (jq (λt=>t=1\/t=4) wz bi wy ci)/\Hid (jJ wy ci g {W1 with ac:=W1.ac.modify i λB=>{B with X:=X2},bx:=W1.bx++[c]} Vy)
 case first=>
  go_region_law
   ((refine step_append_lies _ jz _ _ _ jz 0 60 fw _ 11 128 underlying64 g0 r0 r1 r2 rfl C _ W1.bx.length cs jz ((fd.gZ.alloc _).drew) ⟨wz.heap.size,0,none⟩ 1 1 [.int .i64 i,.int .i64 nm,.int .i64 kind,.int .i64 pos,.string (ik val),dk none 0 0,.int .i64 W1.a,.int .i64 0,.int .i64 0,.int .i64 0,dk none 0 0] jz jz (fW (cs:=#[.int .i64 i,.int .i64 nm,.int .i64 kind,.int .i64 pos,.string (ik val),dk none 0 0,.int .i64 W1.a,.int .i64 0,.int .i64 0,.int .i64 0,dk none 0 0]) (t:=60) (fr:=(0,0)) (ao wz _)) (by simp[Value.oneCell']) C g6 g7 aq (wz.heap.size+1) aq ?_;intro gg cp w6 bv a4 c2 ck;have kc:=(zM (((Bl.refl wz).alloc _).drew) a4 (o:=7) f2 f9).1.H c7;have kf:=(zM (((Bl.refl wz).alloc _).drew) a4 (o:=7) f2 f9).2.H f7;have h2:g<w6.heap.size:=(by have:=a4.size;simp at this;omega);have g8:=ow bv a4 c2 ck;clear bv a4 c2 ck))
  all_goals(go_wp2_with fail;go_meet)
  all_goals
   obtain⟨bv,a4,c2,ck⟩:=g8.o;have e4:Bi c=[.int .i64 i,.int .i64 nm,.int .i64 kind,.int .i64 pos,.string (ik val),dk none 0 0,.int .i64 W1.a,.int .i64 0,.int .i64 0,.int .i64 0,dk none 0 0]:=by rw[<-Hc.o];rfl
   obtain⟨ff,p1,p2⟩:=jJ.MI (V:=⟨pv,dk (some ⟨es,0,none⟩) W1.ac.length eq,lv,dk ca W1.bx.length cc,hv,mv,ps,aw,ls,cs,tp⟩) bs (((Bl.refl wz).alloc (.cells #[.int .i64 i,.int .i64 nm,.int .i64 kind,.int .i64 pos,.string (ik val),dk none 0 0,.int .i64 W1.a,.int .i64 0,.int .i64 0,.int .i64 0,dk none 0 0] 60)).drew) (c:=c) (by rw[<-Hc.o]) (by rw[<-Hc.o];rfl) (gg:=gg) (cp:=cp) (by rw[e4];exact bv) a4 (c2.imp (λe=>e) λe=>C);exact⟨ff,_,p1,p2⟩
 case rest=>obtain⟨ci,Vy,e5,fi⟩:=hcut;have e6:=e5.heap e2.2 e2.1 C;have y1:=ax wc M 1 _ 60 (0,0) e6.1;simp at y1;have gm:M<wc.heap.size:=(ae.1 e6.1).1;have cS:=fi.sd (a:=W1.iH+1) (Nat.le_succ _);simp only at cS;rw[<-cP.2]at cS;have fn:=fu (Av cS cP.1 (by rw[cP.2];show W1.iH+1<=_;have:=Hq.2.1;omega) (by rw[cP.2];show(W1.bx++[c]).length<=_;simp;omega));rw[hR.o]at fn;have g9:=fu (f0.H (e5.L (Q:=Pc) λt e=>.inl (by unfold Pg;omega)));clear e6 e5 fd c4 b0 f3 f4 f5 f6 b5 b6 b7 b8 b9 f8 c7 f7 cS bs fi;go_wp2_with(go_at_call 53;refine fn.L ?_;rintro en w9⟨rfl,fv,k9,h9⟩;obtain⟨ga,gd⟩:=fl k9 h9;clear k9 h9);go_ret;exact⟨rfl,fv,g9.H (ga.L λt e=>.inl (by unfold OT at e;unfold Pg;omega)),gd⟩
def Wd.E(W:Wd):Wd:={W with iH:=W.iH+1}
def yW(W:Wd)(kind a b):W.call kind a b=W\/(∃A,W.ac[jh a W.ac.length]?=some A/\A.up=true/\W.call kind a b=W.E.iY)\/∃A,W.ac[jh a W.ac.length]?=some A/\A.up=true/\A.X.dd.length≠8/\W.call kind a b=(W.E.iY.m7 kind b (jh a W.ac.length) A).iY:=by
 unfold Wd.call;split
 .exact .inl rfl
 rename_i A d;split
 .rename_i j;split
  .exact .inr (.inl ⟨A,d,j,rfl⟩)
  rename_i y;exact .inr (.inr ⟨A,d,j,y,rfl⟩)
 exact .inl rfl
def IF(h:Wk W)(kind a b)(L:kind=1\/kind=2\/kind=3\/kind=4\/kind=5):Wk (W.call kind a b)/\(W.call kind a b).iH<=W.iH+2/\(W.call kind a b).bx.length<=W.bx.length+1/\(W.call kind a b).jU=W.jU/\(W.call kind a b).ac.length=W.ac.length/\(W.call kind a b).iq=W.iq/\(W.call kind a b).pl=W.pl:=by
 have S:=h.nw;have d:Wk W.E.iY:=Wk.iY (W:=W.E) h.sd (by show W.a+1<=4*((W.iH+1:Nat):Int);omega);have M:W.E.iY.bx.length=W.bx.length:=by show(W.bx.map _).length=_;rw[ay]
 obtain e|⟨A,F,P,e⟩|⟨A,F,P,Y,e⟩:=yW W kind a b
 .rw[e];exact⟨h,C,C,rfl,rfl,rfl,rfl⟩
 .rw[e];exact⟨d,by show W.iH+1<=_;omega,C,rfl,rfl,rfl,rfl⟩
 have H:W.E.iY.ac[jh a W.ac.length]?=some A:=F;have Z:=(d.ac _ A H).x.pl;have Q:=ti d H C kind b L;have j:(W.E.iY.m7 kind b (jh a W.ac.length) A).bx.length=W.E.iY.bx.length+1:=by show(W.E.iY.bx++[_]).length=_;rw[aO];rfl
 have y:=Q.iY (by show W.a+1+1<=4*((W.iH+1+1:Nat):Int);omega);rw[e];refine⟨y,by show W.iH+1+1<=_;omega,?_,rfl,cy ..,rfl,rfl⟩;show((W.E.iY.m7 kind b (jh a W.ac.length) A).bx.map _).length<=_;rw[ay,j,M];exact jc
theorem Nj {i:Nat} (W:Wd) (X:Cx) {j:Nat} {A:Ac} (hA:(W.mM i X).ac[j]?=some A):(j≠i∧W.ac[j]?=some A)∨(j=i∧∃B,W.ac[i]?=some B∧A={B with X:=X}):=by
 change (W.ac.modify i _)[j]?=some A at hA
 rw[List.getElem?_modify] at hA
 cases hj:W.ac[j]? with
 |none=>rw[hj] at hA;simp at hA
 |some B=>
  rw[hj] at hA
  simp only[Option.map_eq_map,Option.map_some,Option.some.injEq] at hA
  by_cases e:i=j
  ·subst e
   rw[if_pos rfl] at hA
   exact .inr ⟨rfl,B,hj,hA.symm⟩
  ·rw[if_neg e] at hA
   exact .inl ⟨fun q=>e q.symm,by rw[hA]⟩
def Sn (W:Wd):Prop:=∀c∈W.bx,∀A,W.ac[c.a]?=some A→A.up=true→∀r,A.X.res[c.b]?=some r→r.wh≠0→c.fin≠0
section
variable{W':Wd}{X Y:Cx}
theorem vJ (h:Wk W):Sn W.iY:=fun c hc A hA hu r hr hw=>by
 obtain⟨d,hd,rfl⟩:=List.mem_map.1 (show c∈W.bx.map fun c=>c.E (W.a+1) W.ac[c.a]? from hc)
 have hact:(d.E (W.a+1) W.ac[d.a]?).a=d.a∧(d.E (W.a+1) W.ac[d.a]?).b=d.b:=by
  unfold Kl.E
  repeat' split
  all_goals exact⟨rfl,rfl⟩
 rw[hact.1] at hA
 rw[hact.2] at hr
 have hA':W.ac[d.a]?=some A:=hA
 unfold Kl.E
 rw[hA']
 dsimp only
 rw[if_pos hu,hr]
 dsimp only
 split
 ·have:=h.nw.1
  show W.a+1≠0
  omega
 ·rename_i hn
  exact fun e=>hn ⟨e,hw⟩
theorem Cs (h:Sn W) (hc:W'.bx=W.bx) (ha:∀(i:Nat) (B:Ac),W'.ac[i]?=some B→∃A,W.ac[i]?=some A∧(B.up=true→A.up=true)∧B.X.res=A.X.res):Sn W':=fun c hc' B hB hu r hr hw=>by
 rw[hc] at hc'
 obtain⟨A,hA,hup,hres⟩:=ha _ B hB
 rw[hres] at hr
 exact h c hc' A hA (hup hu) r hr hw
theorem RH (hW:Wk W) (h:Sn W) {l:Le} (hl:tJ (W.B 0) W.n W.m W.v l):Sn (W.mO l):=by
 unfold Wd.mO
 split
 ·exact Cs h rfl fun i B hB=>⟨B,hB,fun e=>e,rfl⟩
 ·exact vJ (hW.qJ hl)
theorem DN:∀(ls:List Le) {W:Wd},Wk W→Sn W→(∀l∈ls,tJ (W.B 0) W.n W.m W.v l)→Sn (W.kW ls)
 |[],_,_,h,_=>h
 |l::ls,W,hW,h,hl=>by
  obtain⟨s1,_,_⟩:=pM W l
  exact DN ls (hW.mO (hl l (List.mem_cons_self ..))) (RH hW h (hl l (List.mem_cons_self ..))) fun x hx=>s1.le (hl x (List.mem_cons_of_mem _ hx))
theorem vK (hW:Wk W) (h:Sn W):Sn W.step:=by
 obtain⟨o1,o2,o3⟩:=te hW
 obtain⟨g1,g2,g3,g4,g5,g6⟩:=qT W
 refine DN _ o1 (Cs h (show W.iE.bx=W.bx from g5) fun i B hB=> ?_) (by rw[o2.n,o2.m,o2.v];exact o3)
 have hB':W.iE.ac[i]?=some B:=hB
 rw[g2 i] at hB'
 obtain⟨A,hA,rfl⟩:=Option.map_eq_some_iff.1 hB'
 refine⟨A,hA,fun e=> ?_, ?_⟩
 ·unfold Ac.gone at e
  split at e
  ·rename_i hu;exact hu
  ·exact e
 ·unfold Ac.gone
  split<;>rfl
theorem Rf:∀(k:Nat) {W:Wd},Wk W→Sn W→Sn (W.lJ k).1
 |0,_,_,h=>h
 |k+1,W,hW,h=>by
  unfold Wd.lJ
  split
  ·exact vK hW h
  ·exact Rf k (rf hW).1 (vK hW h)
theorem Q2 (h:Sn W) {i:Nat} {A:Ac} (hA:W.ac[i]?=some A) {X:Cx} (hr:X.res=A.X.res):Sn (W.mM i X):=Cs h rfl fun j B hB=>by
 rcases Nj W X hB with⟨_,e⟩|⟨rfl,B0,hB0,rfl⟩
 ·exact⟨B,e,fun e=>e,rfl⟩
 ·rw[hA] at hB0
  cases hB0
  exact⟨A,hA,fun e=>e,hr⟩
theorem Jj (h:Sn W) (i:Nat):Sn (W.nz i):=by
 unfold Wd.nz
 split
 ·exact h
 ·rename_i A hA
  split
  ·exact Q2 h hA EK
  ·exact h
theorem QD (hW:Wk W) (h:Sn W) (a which t:Int):Sn (W.jv a which t):=by
 rcases uw W a which t with e|⟨A,n,hA,hu,hn,e⟩
 ·rw[e];exact h
 ·rw[e]
  exact vJ (xY hW hA hn t)
theorem Ma (h:Sn W):Sn W.xm:=by
 have key:∀(l:List Nat) {W:Wd},Sn W→Sn (l.foldl Wd.nz W):=fun l=>by
  induction l with
  |nil=>intro W h;exact h
  |cons i l ih=>intro W h;exact ih (Jj h i)
 exact key _ h
theorem Pv (hW:Wk W) (h:Sn W) (kind a b:Int) (hk:kind=1∨kind=2∨kind=3∨kind=4∨kind=5):Sn (W.call kind a b):=by
 have hn:=hW.nw
 have hw:Wk W.E.iY:=Wk.iY (W:=W.E) hW.sd (by show W.a+1≤4*((W.iH+1:Nat):Int);omega)
 rcases yW W kind a b with e|⟨A,h1,h2,e⟩|⟨A,h1,h2,h8,e⟩
 ·rw[e];exact h
 ·rw[e];exact vJ (W:=W.E) hW.sd
 ·rw[e]
  have hA:W.E.iY.ac[jh a W.ac.length]?=some A:=h1
  have h9:=(hw.ac _ A hA).x.pl
  exact vJ (ti hw hA (by omega) kind b hk)
structure Ce (c c':Kl):Prop where
 ac:c'.a=c.a∧c'.b=c.b
 k:c'.kind=c.kind
 p:c'.pos=c.pos
 v:c'.value=c.value
 t:c'.c=c.c
 b:c'.d=c.d
 f:c.fin≠0→c'=c
 l:c.fin=0→c'.fin≠0→c.d<c'.fin
theorem Ce.refl (c:Kl):Ce c c:=⟨⟨rfl,rfl⟩,rfl,rfl,rfl,rfl,rfl,fun _=>rfl,fun e h=>absurd e h⟩
theorem Ce.H {a b c:Kl} (h:Ce a b) (k:Ce b c):Ce a c:=⟨⟨k.ac.1.H h.ac.1,k.ac.2.H h.ac.2⟩,k.k.H h.k,k.p.H h.p,k.v.H h.v,k.t.H h.t,k.b.H h.b,fun e=>by
 have e1:=h.f e
 rw[e1] at k
 exact k.f e,fun e e'=>by
 by_cases eb:b.fin=0
 ·rw[←h.b];exact k.l eb e'
 ·rw[k.f eb];exact h.l e eb⟩
def Cg (l l':List Kl):Prop:=l'.length=l.length∧∀(i:Nat) (c:Kl),l[i]?=some c→∃c',l'[i]?=some c'∧Ce c c'
theorem Cg.refl (l:List Kl):Cg l l:=⟨rfl,fun _ c h=>⟨c,h,Ce.refl c⟩⟩
theorem Cg.H {a b c:List Kl} (h:Cg a b) (k:Cg b c):Cg a c:=⟨k.1.H h.1,fun i x hx=>by
 obtain⟨y,h1,h2⟩:=h.2 i x hx
 obtain⟨z,h3,h4⟩:=k.2 i y h1
 exact⟨z,h3,h2.H h4⟩⟩
theorem vr (h:Wk W):Cg W.bx W.iY.bx:=⟨by unfold Wd.iY;simp,fun i c hc=>by
 have hk:=h.ca c (List.mem_of_getElem? hc)
 refine⟨c.E (W.a+1) W.ac[c.a]?,by show(W.bx.map _)[i]?=_;rw[List.getElem?_map,hc];rfl, ?_⟩
 unfold Kl.E
 have:=hk.bg
 have:=hk.fi
 repeat' split
 all_goals first
  |exact Ce.refl c
  |(rename_i e;exact⟨⟨rfl,rfl⟩,rfl,rfl,rfl,rfl,rfl,fun h=>absurd e.1 h,fun _ _=>by show c.d<W.a+1;omega⟩)⟩
theorem Rs (hW:Wk W) {l:Le} (hl:tJ (W.B 0) W.n W.m W.v l):Cg W.bx (W.mO l).bx:=by
 unfold Wd.mO
 split
 ·exact Cg.refl _
 ·exact vr (hW.qJ hl)
theorem DE:∀(ls:List Le) {W:Wd},Wk W→(∀l∈ls,tJ (W.B 0) W.n W.m W.v l)→Cg W.bx (W.kW ls).bx
 |[],_,_,_=>Cg.refl _
 |l::ls,W,hW,hl=>by
  obtain⟨s1,_,_⟩:=pM W l
  exact(Rs hW (hl l (List.mem_cons_self ..))).H (DE ls (hW.mO (hl l (List.mem_cons_self ..))) fun x hx=>s1.le (hl x (List.mem_cons_of_mem _ hx)))
theorem CQ (hW:Wk W):Cg W.bx W.step.bx:=by
 obtain⟨o1,o2,o3⟩:=te hW
 obtain⟨g1,g2,g3,g4,g5,g6⟩:=qT W
 have:=DE W.iE.iq o1 (by rw[o2.n,o2.m,o2.v];exact o3)
 have e:({W.iE with iq:=W.iq}:Wd).bx=W.bx:=g5
 rw[e] at this
 exact this
end
structure Sp (n m v ce:Nat) (W:Wd) (res:List Rz) (dd:List jf) (ak:Int) (pb:Qn An) (T:Nat→St):Prop where
 k:Wk W
 e:(W.n=n∧W.m=m)∧W.v=v∧W.ce=ce
 s:So W (sx n m v ce res dd ak pb) T
 sn:Sn W
section
variable{ak:Int}
theorem Sp.B (h:Sp n m v ce W res dd ak pb T) (hT:∀j,j<n*m→T j=T' j):Sp n m v ce W res dd ak pb T':=by
 obtain⟨k,⟨⟨rfl,rfl⟩,rfl,rfl⟩,s,sn⟩:=h
 exact⟨k,⟨⟨rfl,rfl⟩,rfl,rfl⟩,⟨s.ac,s.ms,fun j hj=>by rw[s.un j hj,hT j hj],s.vo,s.lx⟩,sn⟩
theorem Sp.OR (h:Sp n m v ce W res [c] ak pb T) (hq:c.q=Qn.new ns r) (hns:ns.Nodup) (hnu:∀u∈ns,0≤u∧u<(n:Int)*m) (hne:ns≠[]) (hep:r.ep=0) (hT:∀j,(T j).ep=0) (hpb:pb.mP=false∨pb=Qn.new (us n m) (A9 pb.a.nr)) (hnr:pb.a.nr≠r.nr)
 (hf:yP n m v ce T ns r (sx n m v ce res [{c with q:=c.q.jt}] ak Qn.zero)=sx n m v ce res' pend' ak' Qn.zero):
 ∃pb',pb'.mP=false∧pb'.a.nr=pb.a.nr∧Sp n m v ce W.step.step res' pend' ak' pb' (pE n m v ce T ns r)∧(∀k,W.lJ (k+2)=W.step.step.lJ k)∧Cg W.bx W.step.step.bx:=by
 obtain⟨k,⟨⟨rfl,rfl⟩,rfl,rfl⟩,s,sn⟩:=h
 obtain⟨pb',h1,h2,h3,h4⟩:=s.Ve k hq hns hnu hne hep hT hpb hnr
 rw[hf] at h3
 have s2:=(oh W).H (oh W.step)
 have k1:=(rf k).1
 exact⟨pb',h1,h2,⟨(rf k1).1,⟨⟨s2.n,s2.m⟩,s2.v,s2.ce⟩,h3,vK k1 (vK k sn)⟩,h4,(CQ k).H (CQ k1)⟩
theorem Sp.stop (h:Sp n m v ce W res dd ak pb T) (ho:(sx n m v ce res dd ak pb).iE=[]) (hs:(sx n m v ce res dd ak pb).jt=sx n m v ce res dd ak pb):
 Sp n m v ce W.step res dd ak pb T∧(∀k,W.lJ (k+2)=(W.step,true))∧Cg W.bx W.step.bx:=by
 obtain⟨k,⟨⟨rfl,rfl⟩,rfl,rfl⟩,s,sn⟩:=h
 have hu:=s.up
 obtain⟨o1,o2⟩:=DH k hu
 have s1:=oh W
 have hr:∀j,W.reqs j=[]:=fun j=>by rw[s.reqs j,ho];rfl
 refine⟨⟨(rf k).1,⟨⟨s1.n,s1.m⟩,s1.v,s1.ce⟩,⟨?_,by rw[s1.ms];exact s.ms,fun j hj=> ?_,fun j P hj hP=> ?_,s.lx⟩,vK k sn⟩,fun i=> ?_,CQ k⟩
 ·refine List.ext_getElem? fun i=> ?_
  rw[o2 i,s.ac]
  match i with
  |0=>simp only[List.getElem?_cons_zero,Option.map_some];rw[hs]
  |i+1=>simp
 ·rw[s1.n,s1.m] at hj
  rw[o1 j,s.un j hj,hr j,s1.m]
  rfl
 ·rw[o1 j,hr j] at hP
  obtain⟨Q,hQ,rfl⟩:=Option.map_eq_some_iff.1 hP
  rw[s1.n,s1.m] at hj
  have:=s.vo j Q hj hQ
  exact⟨this.1,rfl,this.2.2⟩
 ·rw[D5 k hu i,if_pos ?_]
  unfold Wd.nK
  rw[s.ac]
  simp[Wd.xB,s.ac,ho]
def En (n m v ce:Nat) (W:Wd) (K:Nat) (res:List Rz) (dd:List jf) (T:Nat→St):Prop:=∀k,∃W' ak pb,W.lJ (k+K)=(W',true)∧Sp n m v ce W' res dd ak pb T∧pb.mP=false∧pb.a.nr≤ak∧Cg W.bx W'.bx
theorem En.qY {W2:Wd} {K:Nat} (h:En n m v ce W2 K res dd T) (hx:∀k,W.lJ (k+2)=W2.lJ k) (hc:Cg W.bx W2.bx):En n m v ce W (K+2) res dd T:=fun k=>by
 obtain⟨W',ak,pb,h1,h2,h3,h4,h5⟩:=h k
 exact⟨W',ak,pb,by rw[←Nat.add_assoc,hx];exact h1,h2,h3,h4,hc.H h5⟩
theorem En.nil (h:Sp n m v ce W res [] ak pb T) (hd:pb.mP=false) (hn:pb.a.nr≤ak):En n m v ce W 2 res [] T:=fun k=>by
 have hp:pb.jt=pb:=by obtain⟨a,b,d,e⟩:=pb;simp at hd;subst hd;rfl
 obtain⟨h1,h2,h3⟩:=h.stop (by show []++pb.iE++[]++[]=[];simp[Qn.iE,hd]) (by show sx n m v ce res [] ak pb.jt=_;rw[hp])
 exact⟨_,ak,pb,h2 k,h1,hd,hn,h3⟩
theorem En.wait (h:Sp n m v ce W res [c] ak pb T) (hq:c.q=Qn.zero) (hd:pb.mP=false) (hn:pb.a.nr≤ak):En n m v ce W 2 res [c] T:=fun k=>by
 have hp:pb.jt=pb:=by obtain⟨a,b,d,e⟩:=pb;simp at hd;subst hd;rfl
 have hc:{c with q:=c.q.jt}=c:=by obtain⟨a1,a2,a3,a4,a5,a6,a7,a8,a9,q⟩:=c;simp at hq;subst hq;rfl
 obtain⟨h1,h2,h3⟩:=h.stop (by show([c].flatMap fun c=>c.q.iE)++pb.iE++[]++[]=[];simp[Qn.iE,hd,hq,Qn.zero]) (by show sx n m v ce res [{c with q:=c.q.jt}] ak pb.jt=_;rw[hp,hc])
 exact⟨_,ak,pb,h2 k,h1,hd,hn,h3⟩
theorem En.L {K K':Nat} (h:En n m v ce W K res dd T) (hk:K≤K'):En n m v ce W K' res dd T:=fun k=>by
 obtain⟨x,y,z,h1⟩:=h (k+(K'-K))
 rw[show k+(K'-K)+K=k+K' by omega] at h1
 exact⟨x,y,z,h1⟩
theorem En.B {K:Nat} (h:En n m v ce W K res dd T) (hT:∀j,j<n*m→T j=T' j):En n m v ce W K res dd T':=fun k=>by
 obtain⟨x,y,z,h1,h2,h3⟩:=h k
 exact⟨x,y,z,h1,h2.B hT,h3⟩
theorem wE {A:An} {nr:Int} {f:Nat→An}:∀{js:List Nat} {Y:Cx},(∀j∈js,f j=A)→js.foldl (fun(Y:Cx) (j:Nat)=>Y.qg j nr (f j)) Y=js.foldl (fun(Y:Cx) (j:Nat)=>Y.qg j nr A) Y
 |[],_,_=>rfl
 |j::js,Y,h=>by
  rw[List.foldl_cons,List.foldl_cons,h j (List.mem_cons_self ..)]
  exact wE fun k hk=>h k (List.mem_cons_of_mem _ hk)
theorem NO {u:Int} (h:u∈us n m):0≤u∧u<(n:Int)*m:=by
 obtain⟨j,hj,rfl⟩:=List.mem_map.1 h
 have:=List.mem_range.1 hj
 have:((n*m:Nat):Int)=(n:Int)*m:=by simp
 omega
theorem Wf (n:Nat) (D:Nat→Ct) (mk:Int) (ch:Nat):(Us n D mk ch).ep=0:=rfl
theorem CC {nr x:Int} (h:Sp n m v ce W res [c] ak pb fun j=>Us n D mk (j/m)) (hq:c.q=Qn.new (us n m) ⟨4,c.im,nr,0,x,no⟩) (hpb:pb.mP=false∨pb=Qn.new (us n m) (A9 pb.a.nr)) (hnr:pb.a.nr≠nr) (hle:pb.a.nr≤ak):En n m v ce W 4 (res.set c.gH c.e) [] fun j=>Us n D (max mk x) (j/m):=by
 obtain⟨hn,hm⟩:(1≤n∧n≤3)∧(1≤m∧m≤3):=by
  exact⟨by have:=h.k.n1;rw[h.e.1.1] at this;exact this,by have:=h.k.m1;rw[h.e.1.2] at this;exact this⟩
 have h0:0<n*m:=Nat.mul_pos (by omega) (by omega)
 have hA:∀j,my n m v ce ((j/m:Nat):Int) (Us n D mk (j/m)) ⟨4,c.im,nr,0,x,no⟩=(an 1 0 (max mk x),Us n D (max mk x) (j/m)):=fun j=>PZ rfl rfl
 obtain⟨pb',p1,p2,p3,p4,p5⟩:=h.OR (res':=res.set c.gH c.e) (pend':=[]) (ak':=ak) hq (EI n m) (fun u hu=>NO hu) (List.ne_nil_of_mem (wA h0)) rfl (fun _=>rfl) hpb hnr (by
  unfold yP
  rw[Td,wE (A:=an 1 0 (max mk x)) fun j _=>by rw[hA j]]
  rw[hq]
  refine collect (c:=c) (r:=⟨4,c.im,nr,0,x,no⟩) (ns:=us n m) rfl (List.range (n*m)) rfl List.nodup_range (fun l hl=> ?_) (fun l hl=> ?_) [] _ rfl (List.ne_nil_of_mem (List.mem_range.2 h0))
  ·unfold Cx.ld
   rw[if_neg (show¬(4:Int)=3 by decide),if_neg (show¬(4:Int)=2 by decide),if_pos rfl,if_neg ?_]
   ·exact ub rfl
   ·intro e
    have:=List.length_filter_le (fun z:Int×An=>z.2.wh==1) l
    have e':(l.filter fun z=>z.2.wh==1).length=(us n m).length:=e
    omega
  ·unfold Cx.ld
   rw[if_neg (show¬(4:Int)=3 by decide),if_neg (show¬(4:Int)=2 by decide),if_pos rfl,if_pos ?_]
   ·exact vX (d:={c with q:=⟨⟨4,c.im,nr,0,x,no⟩,us n m,false,l⟩}) (c:={c with q:=⟨⟨4,c.im,nr,0,x,no⟩,us n m,false,l⟩}) rfl c.e
   ·show(l.filter fun z=>z.2.wh==1).length=(us n m).length
    rw[List.filter_eq_self.2 fun z hz=> ?_,hl]
    ·simp[us]
    ·rw[hl] at hz
     obtain⟨j,_,rfl⟩:=List.mem_map.1 hz
     rfl)
 refine((En.nil p3 p1 (by rw[p2];exact hle)).qY p4 p5).B fun j hj=> ?_
 unfold pE
 rw[if_pos (wA hj),hA j]
end
def Fo (D:Nat→Ct) (mk:Int) (a:Nat):Rz:=if(a:Int)<mk then⟨4,0,[]⟩ else if(D a).kd=0 then⟨3,0,[]⟩ else⟨(D a).kd,0,(D a).val⟩
section
variable{ak:Int}
theorem Sp.nm (h:Sp n m v ce W res dd ak pb T):(1≤n∧n≤3)∧(1≤m∧m≤3)∧mI n m v ce=true:=by
 obtain⟨⟨e1,e2⟩,e3,e4⟩:=h.e
 have h1:=h.k.n1;have h2:=h.k.m1;have h3:=h.k.v1;have h4:=h.k.v2;have h5:=h.k.c1
 rw[e1] at h1;rw[e2] at h2;rw[e3] at h3 h4;rw[e4] at h5
 refine⟨h1,h2, ?_⟩
 unfold mI
 simp
 omega
theorem TI {ch:Nat} (hc:ch<n) {j:Nat} (hj:j∈ur m ch):j<n*m:=by
 obtain⟨h1,h2⟩:=Jh hj
 have:j<(ch+1)*m:=by
  rw[←h1]
  have:=Nat.div_add_mod j m
  have:=Nat.mod_lt j h2
  have e:(j/m+1)*m=m*(j/m)+m:=by rw[Nat.add_mul,Nat.mul_comm,Nat.one_mul]
  omega
 exact Nat.lt_of_lt_of_le this (Nat.mul_le_mul_right m hc)
theorem AN {ch:Nat} (hc:ch<n) {u:Int} (hu:u∈(ur m ch).map fun(j:Nat)=>(j:Int)):0≤u∧u<(n:Int)*m:=by
 obtain⟨j,hj,rfl⟩:=List.mem_map.1 hu
 have:=TI hc hj
 have:((n*m:Nat):Int)=(n:Int)*m:=by simp
 omega
theorem Bt {js:List Nat} (h:js.Nodup):(js.map fun(j:Nat)=>(j:Int)).Nodup:=by
 unfold List.Nodup
 rw[List.pairwise_map]
 exact h.imp fun h e=>h (by omega)
theorem wK (hm:1≤m) (ch:Nat):ur m ch≠[]:=by
 unfold ur
 intro e
 have:=congrArg List.length e
 simp at this
 omega
theorem zd {r:Rq} (h:∀j,j<n*m→(j:Int)∈ns→(my n m v ce ((j/m:Nat):Int) (T j) r).2=T j) {j:Nat} (hj:j<n*m):pE n m v ce T ns r j=T j:=by
 unfold pE
 split
 ·rename_i e;exact h j hj e
 ·rfl
theorem P7 (h:Sp n m v ce W res [c] ak pb fun j=>Us n D mk (j/m)) (ha:a<n*ce) (hq:c.q=Qn.new ((ur m (a%n)).map fun(j:Nat)=>(j:Int)) ⟨3,c.im,nr,0,a,no⟩) (hpb:pb.mP=false∨pb=Qn.new (us n m) (A9 pb.a.nr)) (hnr:pb.a.nr≠nr) (hle:pb.a.nr≤ak) (hnk:nr≤ak):En n m v ce W 6 (res.set c.gH (Fo D mk a)) [] fun j=>Us n D mk (j/m):=by
 obtain⟨hn,hm,hf⟩:=h.nm
 have hch:a%n<n:=Nat.mod_lt a (by omega)
 have hA:∀j,j∈ur m (a%n)→my n m v ce ((j/m:Nat):Int) (Us n D mk (j/m)) ⟨3,c.im,nr,0,a,no⟩=(rW D mk a,Us n D mk (j/m)):=fun j hj=>by
  rw[(Jh hj).1]
  exact RM hf ha rfl rfl rfl
 have hT:∀j,j<n*m→pE n m v ce (fun j=>Us n D mk (j/m)) ((ur m (a%n)).map fun(j:Nat)=>(j:Int)) ⟨3,c.im,nr,0,a,no⟩ j=Us n D mk (j/m):=fun j hj=>zd (T:=fun j=>Us n D mk (j/m)) (fun k _ hk=>by
  obtain⟨i,hi,e⟩:=List.mem_map.1 hk
  have:i=k:=by omega
  rw[this] at hi
  rw[hA k hi]) hj
 have hfold:yP n m v ce (fun j=>Us n D mk (j/m)) ((ur m (a%n)).map fun(j:Nat)=>(j:Int)) ⟨3,c.im,nr,0,a,no⟩ (sx n m v ce res [{c with q:=c.q.jt}] ak Qn.zero)=(ur m (a%n)).foldl (fun(Y:Cx) (j:Nat)=>Y.qg j nr (rW D mk a)) (sx n m v ce res [{c with q:=⟨⟨3,c.im,nr,0,a,no⟩,(ur m (a%n)).map fun(j:Nat)=>(j:Int),false,[]⟩}] ak Qn.zero):=by
  unfold yP
  rw[Tm hn hm hch,wE (A:=rW D mk a) fun j hj=>by rw[hA j hj],hq]
  rfl
 by_cases hmk:(a:Int)<mk
 ·
  have hl:rW D mk a=⟨4,0,mk,{D a with val:=[]}⟩:=by unfold rW;rw[if_pos hmk]
  obtain⟨js,hjs⟩:∃js,ur m (a%n)=js:=⟨_,rfl⟩
  obtain⟨pb',p1,p2,p3,p4,p5⟩:=h.OR (res':=res) (pend':=[{c with e:=⟨4,0,[]⟩,q:=Qn.new (us n m) ⟨4,c.im,ak+1,0,mk,no⟩}]) (ak':=ak+1) hq (Bt (vO _ _)) (fun u hu=>AN hch hu) (by simpa using wK hm.1 _) rfl (fun _=>rfl) hpb hnr (by
   rw[hfold,hjs]
   match js,hjs with
   |[],e=>exact absurd e (wK hm.1 _)
   |j::js,e=>
    rw[List.foldl_cons,ym (c:={c with q:=⟨⟨3,c.im,nr,0,a,no⟩,(j::js).map fun(j:Nat)=>(j:Int),false,[]⟩}) rfl (by simp) (by simp)]
    have:∀q:Qn An,q.a.kd=3→(sx n m v ce res [{c with q:=q}] ak Qn.zero).ld {c with q:=q} (rW D mk a)=sx n m v ce res [{c with e:=⟨4,0,[]⟩,q:=Qn.new (us n m) ⟨4,c.im,ak+1,0,mk,no⟩}] (ak+1) Qn.zero:=fun q hq=>by
     unfold Cx.ld
     rw[if_pos hq]
     unfold Cx.lj
     rw[hl,if_pos rfl]
     unfold Cx.oO
     rw[show(sx n m v ce res [{c with q:=q}] ak Qn.zero).lay=jC n m from rfl,s9 hn hm]
     exact wG (d:={c with q:=q}) (c:={c with e:=⟨4,0,[]⟩,q:=q}) rfl _ _ _ _
    rw[this _ rfl]
    exact IK (by show ak+1≠nr;omega) _ js)
  have p3:=p3.B hT
  have:=CC p3 rfl (.inl p1) (by rw[p2];omega) (by rw[p2];omega)
  rw[Int.max_self] at this
  have e:Fo D mk a=⟨4,0,[]⟩:=by unfold Fo;rw[if_pos hmk]
  rw[e]
  exact this.qY p4 p5
 ·
  have hw4:(rW D mk a).wh≠4:=by unfold rW;rw[if_neg hmk];split<;>simp
  obtain⟨pb',p1,p2,p3,p4,p5⟩:=h.OR (res':=res.set c.gH (Fo D mk a)) (pend':=[]) (ak':=ak) hq (Bt (vO _ _)) (fun u hu=>AN hch hu) (by simpa using wK hm.1 _) rfl (fun _=>rfl) hpb hnr (by
   rw[hfold]
   refine collect (c:=c) (A:=rW D mk a) (r:=⟨3,c.im,nr,0,a,no⟩) rfl (ur m (a%n)) rfl (vO _ _) (fun l hl=> ?_) (fun l hl=> ?_) [] _ rfl (wK hm.1 _)
   ·unfold Cx.ld
    rw[if_pos rfl]
    unfold Cx.lj
    rw[if_neg hw4,if_pos hl]
    exact ub rfl
   ·unfold Cx.ld
    rw[if_pos rfl]
    unfold Cx.lj
    have hlen:l.length=((ur m (a%n)).map fun(j:Nat)=>(j:Int)).length:=by rw[hl];simp
    rw[if_neg hw4,if_neg (Nat.not_lt.2 (Nat.le_of_eq hlen.symm))]
    have hall:∀z∈l,z.2=rW D mk a:=fun z hz=>by
     rw[hl] at hz
     obtain⟨j,_,rfl⟩:=List.mem_map.1 hz
     rfl
    by_cases hk:(D a).kd=0
    ·have hw:(rW D mk a).wh=3:=by unfold rW;rw[if_neg hmk,if_pos hk]
     have e:Fo D mk a=⟨3,0,[]⟩:=by unfold Fo;rw[if_neg hmk,if_pos hk]
     rw[if_neg ?_,e]
     ·exact vX (d:={c with q:=⟨⟨3,c.im,nr,0,a,no⟩,(ur m (a%n)).map fun(j:Nat)=>(j:Int),false,l⟩}) (c:={c with q:=⟨⟨3,c.im,nr,0,a,no⟩,(ur m (a%n)).map fun(j:Nat)=>(j:Int),false,l⟩}) rfl _
     ·intro e
      have e:(l.filter fun z=>z.2.wh==2).length=((ur m (a%n)).map fun(j:Nat)=>(j:Int)).length:=e
      rw[List.filter_eq_nil_iff.2 fun z hz=>by rw[hall z hz,hw];decide] at e
      simp[ur] at e
      omega
    ·have hw:rW D mk a=⟨2,0,0,D a⟩:=by unfold rW;rw[if_neg hmk,if_neg hk]
     have e:Fo D mk a=⟨(D a).kd,0,(D a).val⟩:=by unfold Fo;rw[if_neg hmk,if_neg hk]
     rw[if_pos ?_,e]
     ·have hfd:(((l.find? fun z=>z.1==((ur m (a%n)).map fun(j:Nat)=>(j:Int)).headD 0).map fun z=>z.2.ct).getD no)=D a:=by
       obtain⟨z,hz⟩:∃z,(l.find? fun z=>z.1==((ur m (a%n)).map fun(j:Nat)=>(j:Int)).headD 0)=some z:=by
        rw[←Option.isSome_iff_exists,List.find?_isSome]
        obtain⟨js,hjs⟩:∃js,ur m (a%n)=js:=⟨_,rfl⟩
        match js,hjs with
        |[],e=>exact absurd e (wK hm.1 _)
        |j::js,e=>exact⟨((j:Int),rW D mk a),by rw[hl,e];simp,by rw[e];simp⟩
       rw[hz]
       have:=hall z (List.mem_of_find?_eq_some hz)
       simp[this,hw]
      have:=vX (n:=n) (m:=m) (v:=v) (ce:=ce) (res:=res) (ak:=ak) (pb:=Qn.zero) (d:={c with q:=⟨⟨3,c.im,nr,0,a,no⟩,(ur m (a%n)).map fun(j:Nat)=>(j:Int),false,l⟩}) (c:={c with q:=⟨⟨3,c.im,nr,0,a,no⟩,(ur m (a%n)).map fun(j:Nat)=>(j:Int),false,l⟩}) rfl (Cx.oz (((l.find? fun z=>z.1==((ur m (a%n)).map fun(j:Nat)=>(j:Int)).headD 0).map fun z=>z.2.ct).getD no))
      rw[hfd] at this
      rw[show(Cx.oz (D a))=⟨(D a).kd,0,(D a).val⟩ from rfl] at this
      refine Eq.H ?_ this
      show Cx.fin _ _ (Cx.oz (((l.find? fun z=>z.1==((ur m (a%n)).map fun(j:Nat)=>(j:Int)).headD 0).map fun z=>z.2.ct).getD no))=_
      rw[hfd]
      rfl
     ·show(l.filter fun z=>z.2.wh==2).length=_
      rw[List.filter_eq_self.2 fun z hz=>by rw[hall z hz,hw];rfl]
      exact hlen)
  have p3:=p3.B hT
  exact((En.nil p3 p1 (by rw[p2];exact hle)).qY p4 p5).L (by omega)
end
section
variable{ak:Int}{t:Ct}
def Tp (n m:Nat) (D:Nat→Ct) (mk:Int) (a:Nat) (t:Ct) (p:Nat):Nat→St:=fun j=>if a%n*m≤j∧j<a%n*m+p then Us n (nT D a t) mk (a%n) else Us n D mk (j/m)
theorem MK {ch:Nat} (hc:ch<n) (h:ch≠a%n):Us n (nT D a t) mk ch=Us n D mk ch:=by
 unfold Us nT
 congr 1
 funext i
 rw[if_neg fun e=>h ?_]
 rw[←e,Nat.mul_comm,Nat.mul_add_mod,Nat.mod_eq_of_lt hc]
theorem TH {j:Nat} (hj:j<n*m):Tp n m D mk a t m j=Us n (nT D a t) mk (j/m):=by
 have hm:0<m:=by
  rcases Nat.eq_zero_or_pos m with e|e
  ·subst e;simp at hj
  ·exact e
 have hd:j/m<n:=Nat.div_lt_of_lt_mul (by rw[Nat.mul_comm];exact hj)
 unfold Tp
 split
 ·rename_i h
  rw[Nat.div_eq_of_lt_le h.1 (by rw[Nat.add_mul,Nat.one_mul];exact h.2)]
 ·rename_i h
  refine(MK hd fun e=>h ?_).symm
  have h1:=Nat.div_add_mod j m
  have h2:=Nat.mod_lt j hm
  rw[e,Nat.mul_comm] at h1
  omega
theorem Sa (p j:Nat):(Tp n m D mk a t p j).ep=0:=by
 unfold Tp
 split<;>rfl
theorem Es {p:Nat} (hp:p<m) (ch:Nat):((List.range m).map fun(i:Nat)=>((ch*m+i:Nat):Int)).getD p 0=((ch*m+p:Nat):Int):=by
 rw[List.getD_eq_getElem?_getD,List.getElem?_map,List.getElem?_range hp]
 rfl
theorem u7 {d:jf} (hn:1≤n∧n≤3) (hd:d.gH=c.gH) (ha:c.iS=a):(sx n m v ce res [d] ak pb).jO c=if c.iA+1<m then sx n m v ce res [{c with iA:=c.iA+1,q:=Qn.new [((a%n*m+(c.iA+1):Nat):Int)] ⟨2,c.im,ak+1,0,a,c.iR⟩}] (ak+1) pb
 else if c.kind=1 then sx n m v ce (res.set c.gH ⟨1,a,[]⟩) [] ak pb else sx n m v ce (res.set c.gH (Cx.oz c.iR)) [] ak pb:=by
 obtain⟨k1,gH,im,iS,un,gZ,iR,iA,e,q⟩:=c
 obtain rfl:iS=a:=ha
 show(if iA+1<((sx n m v ce res [d] ak pb).chain a).length then(sx n m v ce res [d] ak pb).qF ⟨k1,gH,im,a,un,gZ,iR,iA+1,e,q⟩ [((sx n m v ce res [d] ak pb).chain a).getD (iA+1) 0] 2 a iR else if k1=1 then(sx n m v ce res [d] ak pb).fin ⟨k1,gH,im,a,un,gZ,iR,iA,e,q⟩ ⟨1,a,[]⟩ else(sx n m v ce res [d] ak pb).fin ⟨k1,gH,im,a,un,gZ,iR,iA,e,q⟩ (Cx.oz iR))=_
 rw[yH hn a]
 simp only[List.length_map,List.length_range]
 split
 ·rename_i h
  rw[Es h]
  exact wG (c:=⟨k1,gH,im,a,un,gZ,iR,iA+1,e,q⟩) hd _ _ _ _
 ·split
  ·exact vX (c:=⟨k1,gH,im,a,un,gZ,iR,iA,e,q⟩) hd _
  ·exact vX (c:=⟨k1,gH,im,a,un,gZ,iR,iA,e,q⟩) hd _
def U8 (k:Int) (a:Int) (t:Ct):Rz:=if k=1 then⟨1,a,[]⟩ else⟨t.kd,0,t.val⟩
theorem yE {k:Nat} (hk:k<n*m) (hq:c.q=Qn.new [(k:Int)] r):yP n m v ce T [(k:Int)] r (sx n m v ce res [{c with q:=c.q.jt}] ak Qn.zero)=(sx n m v ce res [{c with q:=⟨r,[(k:Int)],false,[((k:Int),(my n m v ce ((k/m:Nat):Int) (T k) r).1)]⟩}] ak Qn.zero).ld {c with q:=⟨r,[(k:Int)],false,[((k:Int),(my n m v ce ((k/m:Nat):Int) (T k) r).1)]⟩} (my n m v ce ((k/m:Nat):Int) (T k) r).1:=by
 unfold yP
 rw[Ur k _ hk,hq,List.foldl_cons,List.foldl_nil]
 exact ym (c:={c with q:=⟨r,[(k:Int)],false,[]⟩}) rfl (by simp) (by simp)
theorem On (hc:qd t.kd t.val.length=true) (ha:a<n*ce) (hmk:¬(a:Int)<mk) (hD:(D a).kd=0):∀(q p:Nat) {W:Wd} {c:jf} {ak:Int} {pb:Qn An} {nr:Int},p+q+1=m→Sp n m v ce W res [c] ak pb (Tp n m D mk a t p)→c.q=Qn.new [((a%n*m+p:Nat):Int)] ⟨2,c.im,nr,0,a,t⟩→c.iR=t→c.iA=p→c.iS=a→(pb.mP=false∨pb=Qn.new (us n m) (A9 pb.a.nr))→pb.a.nr≠nr→pb.a.nr≤ak→
 En n m v ce W (2*q+4) (res.set c.gH (U8 c.kind a t)) [] fun j=>Us n (nT D a t) mk (j/m):=by
 intro q
 induction q with
 |zero=>
  intro p W c ak pb nr hpm h hq hct hpl kS hpb hnr hle
  obtain⟨hn,hm,hf⟩:=h.nm
  have hch:a%n<n:=Nat.mod_lt a (by omega)
  have hk:a%n*m+p<n*m:=Nat.lt_of_lt_of_le (show a%n*m+p<(a%n+1)*m by rw[Nat.add_mul,Nat.one_mul];omega) (Nat.mul_le_mul_right m hch)
  have hdv:(a%n*m+p)/m=a%n:=by rw[Nat.add_comm,Nat.add_mul_div_right _ _ (by omega),Nat.div_eq_of_lt (by omega),Nat.zero_add]
  have hTk:Tp n m D mk a t p (a%n*m+p)=Us n D mk (a%n):=by unfold Tp;rw[if_neg (by omega),hdv]
  have hA:my n m v ce (((a%n*m+p)/m:Nat):Int) (Tp n m D mk a t p (a%n*m+p)) ⟨2,c.im,nr,0,a,t⟩=(an 1 0 0,Us n (nT D a t) mk (a%n)):=by
   rw[hTk,hdv,zo hf ha rfl rfl rfl hc,if_pos (by unfold rW;rw[if_neg hmk,if_pos hD])]
  have hT:∀j,j<n*m→pE n m v ce (Tp n m D mk a t p) [((a%n*m+p:Nat):Int)] ⟨2,c.im,nr,0,a,t⟩ j=Tp n m D mk a t (p+1) j:=fun j hj=>by
   unfold pE
   by_cases e:j=a%n*m+p
   ·subst e
    rw[if_pos (by simp),hA]
    unfold Tp
    rw[if_pos (by omega)]
   ·rw[if_neg (show¬(j:Int)∈[((a%n*m+p:Nat):Int)] from fun h=>e (Int.ofNat.inj (List.mem_singleton.1 h)))]
    unfold Tp
    by_cases e2:a%n*m≤j∧j<a%n*m+p
    ·rw[if_pos e2,if_pos (by omega)]
    ·rw[if_neg e2,if_neg (by omega)]
  obtain⟨pb',p1,p2,p3,p4,p5⟩:=h.OR (res':=res.set c.gH (U8 c.kind a t)) (pend':=[]) (ak':=ak) hq (by simp) (fun u hu=>by
   obtain rfl:=List.mem_singleton.1 hu
   exact⟨Int.natCast_nonneg _,by exact_mod_cast hk⟩) (by simp) rfl (Sa p) hpb hnr (by
   rw[yE hk hq,hA]
   unfold Cx.ld
   rw[if_neg (show¬(2:Int)=3 by decide),if_pos rfl]
   unfold Cx.mN
   dsimp only
   rw[if_pos (show(an 1 0 0).wh=1 from rfl),u7 (c:={c with q:=⟨⟨2,c.im,nr,0,a,t⟩,[((a%n*m+p:Nat):Int)],false,[(((a%n*m+p:Nat):Int),an 1 0 0)]⟩}) (a:=a) hn rfl kS,if_neg (by show¬c.iA+1<m;omega)]
   unfold U8
   show(if c.kind=1 then _ else sx n m v ce (res.set c.gH (Cx.oz c.iR)) [] ak Qn.zero)=_
   rw[hct]
   split<;>rfl)
  have hpm':p+1=m:=by omega
  refine((En.nil (p3.B hT) p1 (by rw[p2];exact hle)).qY p4 p5).B fun j hj=> ?_
  rw[hpm']
  exact TH hj
 |succ q ih=>
  intro p W c ak pb nr hpm h hq hct hpl kS hpb hnr hle
  obtain⟨hn,hm,hf⟩:=h.nm
  have hch:a%n<n:=Nat.mod_lt a (by omega)
  have hk:a%n*m+p<n*m:=Nat.lt_of_lt_of_le (show a%n*m+p<(a%n+1)*m by rw[Nat.add_mul,Nat.one_mul];omega) (Nat.mul_le_mul_right m hch)
  have hdv:(a%n*m+p)/m=a%n:=by rw[Nat.add_comm,Nat.add_mul_div_right _ _ (by omega),Nat.div_eq_of_lt (by omega),Nat.zero_add]
  have hTk:Tp n m D mk a t p (a%n*m+p)=Us n D mk (a%n):=by unfold Tp;rw[if_neg (by omega),hdv]
  have hA:my n m v ce (((a%n*m+p)/m:Nat):Int) (Tp n m D mk a t p (a%n*m+p)) ⟨2,c.im,nr,0,a,t⟩=(an 1 0 0,Us n (nT D a t) mk (a%n)):=by
   rw[hTk,hdv,zo hf ha rfl rfl rfl hc,if_pos (by unfold rW;rw[if_neg hmk,if_pos hD])]
  have hT:∀j,j<n*m→pE n m v ce (Tp n m D mk a t p) [((a%n*m+p:Nat):Int)] ⟨2,c.im,nr,0,a,t⟩ j=Tp n m D mk a t (p+1) j:=fun j hj=>by
   unfold pE
   by_cases e:j=a%n*m+p
   ·subst e
    rw[if_pos (by simp),hA]
    unfold Tp
    rw[if_pos (by omega)]
   ·rw[if_neg (show¬(j:Int)∈[((a%n*m+p:Nat):Int)] from fun h=>e (Int.ofNat.inj (List.mem_singleton.1 h)))]
    unfold Tp
    by_cases e2:a%n*m≤j∧j<a%n*m+p
    ·rw[if_pos e2,if_pos (by omega)]
    ·rw[if_neg e2,if_neg (by omega)]
  obtain⟨pb',p1,p2,p3,p4,p5⟩:=h.OR (res':=res) (pend':=[{c with iA:=p+1,q:=Qn.new [((a%n*m+(p+1):Nat):Int)] ⟨2,c.im,ak+1,0,a,t⟩}]) (ak':=ak+1) hq (by simp) (fun u hu=>by
   obtain rfl:=List.mem_singleton.1 hu
   exact⟨Int.natCast_nonneg _,by exact_mod_cast hk⟩) (by simp) rfl (Sa p) hpb hnr (by
   rw[yE hk hq,hA]
   unfold Cx.ld
   rw[if_neg (show¬(2:Int)=3 by decide),if_pos rfl]
   unfold Cx.mN
   dsimp only
   rw[if_pos (show(an 1 0 0).wh=1 from rfl),u7 (c:={c with q:=⟨⟨2,c.im,nr,0,a,t⟩,[((a%n*m+p:Nat):Int)],false,[(((a%n*m+p:Nat):Int),an 1 0 0)]⟩}) (a:=a) hn rfl kS,if_pos (by show c.iA+1<m;omega)]
   simp only[hct,hpl])
  have:=ih (p+1) (by omega) (p3.B hT) rfl hct rfl kS (.inl p1) (by rw[p2];omega) (by rw[p2];omega)
  exact this.qY p4 p5
end
section
variable{ak:Int}{u:Ct}
theorem Rk {p:Nat} (hn:1≤n∧n≤3) (hp:p<m):a%n*m+p<n*m∧(a%n*m+p)/m=a%n:=
 ⟨Nat.lt_of_lt_of_le (show a%n*m+p<(a%n+1)*m by rw[Nat.add_mul,Nat.one_mul];omega) (Nat.mul_le_mul_right m (Nat.mod_lt a (by omega))),by rw[Nat.add_comm,Nat.add_mul_div_right _ _ (by omega),Nat.div_eq_of_lt hp,Nat.zero_add]⟩
theorem NM {k:Nat} (hk:k<n*m) {x:Int} (hx:x∈[(k:Int)]):0≤x∧x<(n:Int)*m:=by
 obtain rfl:=List.mem_singleton.1 hx
 exact⟨Int.natCast_nonneg _,by exact_mod_cast hk⟩
theorem sZ {res':List Rz} {pend':List jf} {ak':Int} {p:Nat} (h:Sp n m v ce W res [c] ak pb fun j=>Us n D mk (j/m)) (hc:qd u.kd u.val.length=true) (ha:a<n*ce) (hw:(rW D mk a).wh≠3) (hp:p<m) (hq:c.q=Qn.new [((a%n*m+p:Nat):Int)] ⟨2,c.im,nr,0,a,u⟩) (hpb:pb.mP=false∨pb=Qn.new (us n m) (A9 pb.a.nr)) (hnr:pb.a.nr≠nr)
 (hf:∀q:Qn An,(sx n m v ce res [{c with q:=q}] ak Qn.zero).mN {c with q:=q} (rW D mk a)=sx n m v ce res' pend' ak' Qn.zero):
 ∃pb',pb'.mP=false∧pb'.a.nr=pb.a.nr∧Sp n m v ce W.step.step res' pend' ak' pb' (fun j=>Us n D mk (j/m))∧(∀k,W.lJ (k+2)=W.step.step.lJ k)∧Cg W.bx W.step.step.bx:=by
 obtain⟨hn,hm,hft⟩:=h.nm
 obtain⟨hk,hdv⟩:=Rk (a:=a) hn hp
 have hA:my n m v ce (((a%n*m+p)/m:Nat):Int) (Us n D mk ((a%n*m+p)/m)) ⟨2,c.im,nr,0,a,u⟩=(rW D mk a,Us n D mk (a%n)):=by
  rw[hdv,zo hft ha rfl rfl rfl hc,if_neg hw]
 obtain⟨pb',p1,p2,p3,p4,p5⟩:=h.OR (res':=res') (pend':=pend') (ak':=ak') hq (by simp) (fun x hx=>NM hk hx) (by simp) rfl (fun _=>rfl) hpb hnr (by
  rw[yE hk hq,hA]
  unfold Cx.ld
  rw[if_neg (show¬(2:Int)=3 by decide),if_pos rfl]
  exact hf _)
 refine⟨pb',p1,p2,p3.B fun j hj=> ?_,p4,p5⟩
 refine zd (T:=fun j=>Us n D mk (j/m)) (fun j _ hj=> ?_) hj
 have:j=a%n*m+p:=Int.ofNat.inj (List.mem_singleton.1 hj)
 rw[this,hA,hdv]
theorem Np:(rW D mk a).wh=3↔¬(a:Int)<mk∧(D a).kd=0:=by
 unfold rW
 by_cases h1:(a:Int)<mk
 ·rw[if_pos h1];simp[h1]
 ·rw[if_neg h1]
  by_cases h2:(D a).kd=0
  ·rw[if_pos h2];simp[h1,h2]
  ·rw[if_neg h2];simp[h2]
theorem Qw (h:Sp n m v ce W res [c] ak pb fun j=>Us n D mk (j/m)) (hc:qd u.kd u.val.length=true) (ha:a<n*ce) (hw:(rW D mk a).wh≠3) (hq:c.q=Qn.new [((a%n*m+0:Nat):Int)] ⟨2,c.im,nr,0,a,u⟩) (hk:c.kind=1) (hpl:c.iA=0) (ho:¬((D a).cl=c.gZ.cl∧(D a).ca=c.gZ.ca)) (hpb:pb.mP=false∨pb=Qn.new (us n m) (A9 pb.a.nr)) (hnr:pb.a.nr≠nr) (hle:pb.a.nr≤ak):En n m v ce W 4 res [{c with q:=Qn.zero}] fun j=>Us n D mk (j/m):=by
 obtain⟨hn,hm,hft⟩:=h.nm
 have hown:∀q:Qn An,Cx.iJ {c with q:=q} (D a)=false:=fun q=>by
  unfold Cx.iJ
  rw[Bool.eq_false_iff]
  simpa using fun h1 h2=>ho ⟨h1,h2⟩
 obtain⟨pb',p1,p2,p3,p4,p5⟩:=sZ (res':=res) (pend':=[{c with q:=Qn.zero}]) (ak':=ak) h hc ha hw (p:=0) (by omega) hq hpb hnr (fun q=>by
  unfold Cx.mN
  by_cases h1:(a:Int)<mk
  ·have e:rW D mk a=⟨4,0,mk,{D a with val:=[]}⟩:=by unfold rW;rw[if_pos h1]
   rw[e,if_neg (show¬(4:Int)=1 by decide),if_neg (show¬(4:Int)=2 by decide),if_pos rfl]
   unfold Cx.kU
   rw[if_neg ?_,if_pos hk]
   ·exact ub rfl
   ·have:Cx.iJ {c with q:=q} {D a with val:=[]}=false:=hown q
    rw[this]
    simp[hpl]
  ·have h2:¬(D a).kd=0:=fun e=>hw (Np.2 ⟨h1,e⟩)
   have e:rW D mk a=⟨2,0,0,D a⟩:=by unfold rW;rw[if_neg h1,if_neg h2]
   rw[e,if_neg (show¬(2:Int)=1 by decide),if_pos rfl]
   unfold Cx.oe
   rw[if_pos ⟨hk,hown q⟩]
   exact ub rfl)
 exact(En.wait p3 rfl p1 (by rw[p2];exact hle)).qY p4 p5
theorem Pt (h:Sp n m v ce W res [c] ak pb fun j=>Us n D mk (j/m)) (hc:qd u.kd u.val.length=true) (ha:a<n*ce) (hmk:(a:Int)<mk) (hq:c.q=Qn.new [((a%n*m+0:Nat):Int)] ⟨2,c.im,nr,0,a,u⟩) (hk:c.kind≠1) (hpl:c.iA=0) (ho:¬((D a).cl=c.gZ.cl∧(D a).ca=c.gZ.ca)) (hpb:pb.mP=false∨pb=Qn.new (us n m) (A9 pb.a.nr)) (hnr:pb.a.nr≠nr) (hle:pb.a.nr≤ak):En n m v ce W 6 (res.set c.gH ⟨4,0,[]⟩) [] fun j=>Us n D mk (j/m):=by
 obtain⟨hn,hm,hft⟩:=h.nm
 have e:rW D mk a=⟨4,0,mk,{D a with val:=[]}⟩:=by unfold rW;rw[if_pos hmk]
 obtain⟨pb',p1,p2,p3,p4,p5⟩:=sZ (res':=res) (pend':=[{c with e:=⟨4,0,[]⟩,q:=Qn.new (us n m) ⟨4,c.im,ak+1,0,mk,no⟩}]) (ak':=ak+1) h hc ha (by rw[e];exact(show¬(4:Int)=3 by decide)) (p:=0) (by omega) hq hpb hnr (fun q=>by
  unfold Cx.mN
  rw[e,if_neg (show¬(4:Int)=1 by decide),if_neg (show¬(4:Int)=2 by decide),if_pos rfl]
  unfold Cx.kU
  rw[if_neg ?_,if_neg hk]
  ·unfold Cx.oO
   rw[show(sx n m v ce res [{c with q:=q}] ak Qn.zero).lay=jC n m from rfl,s9 hn hm]
   exact wG (d:={c with q:=q}) (c:={c with e:=⟨4,0,[]⟩,q:=q}) rfl _ _ _ _
  ·have:Cx.iJ {c with q:=q} {D a with val:=[]}=false:=by
    unfold Cx.iJ
    rw[Bool.eq_false_iff]
    simpa using fun h1 h2=>ho ⟨h1,h2⟩
   rw[this]
   simp[hpl])
 have:=CC p3 rfl (.inl p1) (by rw[p2];omega) (by rw[p2];omega)
 rw[Int.max_self] at this
 exact this.qY p4 p5
theorem NG (hD:qd (D a).kd (D a).val.length=true) (ha:a<n*ce) (hmk:¬(a:Int)<mk):∀(q p:Nat) {W:Wd} {c:jf} {ak:Int} {pb:Qn An} {nr:Int} {u:Ct},p+q+1=m→qd u.kd u.val.length=true→Sp n m v ce W res [c] ak pb (fun j=>Us n D mk (j/m))→c.q=Qn.new [((a%n*m+p:Nat):Int)] ⟨2,c.im,nr,0,a,u⟩→c.iA=p→c.iS=a→c.kind≠1→(pb.mP=false∨pb=Qn.new (us n m) (A9 pb.a.nr))→pb.a.nr≠nr→pb.a.nr≤ak→
 En n m v ce W (2*q+4) (res.set c.gH ⟨(D a).kd,0,(D a).val⟩) [] fun j=>Us n D mk (j/m):=by
 have hk0:¬(D a).kd=0:=fun e=>by rw[e] at hD;simp[qd] at hD
 have e:rW D mk a=⟨2,0,0,D a⟩:=by unfold rW;rw[if_neg hmk,if_neg hk0]
 intro q
 induction q with
 |zero=>
  intro p W c ak pb nr u hpm hc h hq hpl kS hk hpb hnr hle
  obtain⟨hn,hm,hft⟩:=h.nm
  obtain⟨pb',p1,p2,p3,p4,p5⟩:=sZ (res':=res.set c.gH ⟨(D a).kd,0,(D a).val⟩) (pend':=[]) (ak':=ak) h hc ha (by rw[e];exact(show¬(2:Int)=3 by decide)) (p:=p) (by omega) hq hpb hnr (fun q=>by
   unfold Cx.mN
   rw[e,if_neg (show¬(2:Int)=1 by decide),if_pos rfl]
   unfold Cx.oe
   rw[if_neg (fun h=>hk h.1)]
   refine(u7 (d:={c with q:=q}) (c:={c with q:=q,iR:=D a}) (a:=a) hn rfl kS).H ?_
   rw[if_neg (by show¬c.iA+1<m;omega),if_neg hk]
   rfl)
  exact(En.nil p3 p1 (by rw[p2];exact hle)).qY p4 p5
 |succ q ih=>
  intro p W c ak pb nr u hpm hc h hq hpl kS hk hpb hnr hle
  obtain⟨hn,hm,hft⟩:=h.nm
  obtain⟨pb',p1,p2,p3,p4,p5⟩:=sZ (res':=res) (pend':=[{c with iR:=D a,iA:=p+1,q:=Qn.new [((a%n*m+(p+1):Nat):Int)] ⟨2,c.im,ak+1,0,a,D a⟩}]) (ak':=ak+1) h hc ha (by rw[e];exact(show¬(2:Int)=3 by decide)) (p:=p) (by omega) hq hpb hnr (fun q=>by
   unfold Cx.mN
   rw[e,if_neg (show¬(2:Int)=1 by decide),if_pos rfl]
   unfold Cx.oe
   rw[if_neg (fun h=>hk h.1)]
   refine(u7 (d:={c with q:=q}) (c:={c with q:=q,iR:=D a}) (a:=a) hn rfl kS).H ?_
   rw[if_pos (by show c.iA+1<m;omega)]
   simp only[hpl])
  have:=ih (p+1) (by omega) hD p3 rfl rfl kS hk (.inl p1) (by rw[p2];omega) (by rw[p2];omega)
  exact this.qY p4 p5
end
section
variable{ak:Int}{pb':Qn An}
theorem V0:jh 0 1=0:=rfl
theorem So.mM {X Y:Cx} (h:So W X T) {W':Wd} (ha:W'.ac=[⟨Y,true⟩]) (hp:W'.pl=W.pl) (hm:W'.jU=W.jU) (hn:W'.n=W.n) (hm':W'.m=W.m) (hl:kO Y):So W' Y T:=
 ⟨ha,hm.H h.ms,fun j hj=>by rw[hn,hm'] at hj;rw[hp,hm'];exact h.un j hj,fun j P hj hP=>by rw[hn,hm'] at hj;rw[hp] at hP;exact h.vo j P hj hP,hl⟩
theorem Q6 (hn:1≤n∧n≤3) (hm:1≤m∧m≤3) (hq:c.q=Qn.new ns r) (hne:ns≠[]) (hk:c.kind≠5):(sx n m v ce res [c] ak pb).kR=sx n m v ce res [c] (ak+1) (Qn.new (us n m) (A9 (ak+1))):=by
 have hc:({c with q:={c.q with mP:=true}}:jf)=c:=by
  obtain⟨a1,a2,a3,a4,a5,a6,a7,a8,a9,q⟩:=c
  simp at hq
  subst hq
  rfl
 have hw:Cx.lV c=false:=by
  unfold Cx.lV Qn.J
  rw[hq]
  cases ns with
  |nil=>exact absurd rfl hne
  |cons x l=>simp[Qn.new]
 have e1:({(sx n m v ce res [c] ak pb) with wl:=(sx n m v ce res [c] ak pb).wb,kH:=0,mv:=Mv.zero,dd:=(sx n m v ce res [c] ak pb).dd.map fun(c:jf)=>{c with q:={c.q with mP:=true}}}:Cx)=sx n m v ce res [c] ak pb:=by
  show sx n m v ce res [{c with q:={c.q with mP:=true}}] ak pb=_
  rw[hc]
 have e2:(sx n m v ce res [c] ak pb).jl.length<(sx n m v ce res [c] ak pb).dd.length:=by
  show(([c].filter Cx.lV).map fun c=>c.gH).length<1
  rw[List.filter_cons_of_neg (by rw[hw];decide)]
  simp
 have e3:(sx n m v ce res [c] ak pb).jR=sx n m v ce res [c] (ak+1) (Qn.new (us n m) (A9 (ak+1))):=by
  unfold Cx.jR
  rw[show(sx n m v ce res [c] ak pb).lay=jC n m from rfl,s9 hn hm]
  rfl
 have e4:(sx n m v ce res [c] (ak+1) (Qn.new (us n m) (A9 (ak+1)))).iO=false:=by
  unfold Cx.iO Cx.jN
  show(!(([c].filter fun c=>c.kind==5).map fun c=>c.unit).isEmpty)=false
  rw[List.filter_cons_of_neg (by simpa using hk)]
  rfl
 have key:∀Y:Cx,Y=sx n m v ce res [c] ak pb→(let Z:=if Y.jl.length<Y.dd.length then Y.jR else Y;if Z.iO then Z.jn else Z)=sx n m v ce res [c] (ak+1) (Qn.new (us n m) (A9 (ak+1))):=fun Y hY=>by
  subst hY
  dsimp only
  rw[if_pos e2,e3,if_neg (by rw[e4];decide)]
 exact key _ e1
theorem Sp.kR {Y:List jf} (h:Sp n m v ce W res dd ak pb T) (ht:(sx n m v ce res dd ak pb).kR=sx n m v ce res Y ak' pb'):Sp n m v ce W.xm res Y ak' pb' T∧W.xm.bx=W.bx:=by
 obtain⟨k,⟨⟨rfl,rfl⟩,rfl,rfl⟩,s,sn⟩:=h
 obtain⟨h1,h2,h3,h4,h5⟩:=ru k W.ac.length
 have e:W.xm=W.mM 0 (sx W.n W.m W.v W.ce res Y ak' pb'):=by
  unfold Wd.xm
  rw[s.ac]
  show Wd.nz W 0=_
  unfold Wd.nz
  rw[s.ac]
  show W.mM 0 (sx W.n W.m W.v W.ce res dd ak pb).kR=_
  rw[ht]
 refine⟨⟨h1,⟨⟨h2.n,h2.m⟩,h2.v,h2.ce⟩,s.mM ?_ (by rw[e];rfl) (by rw[e];rfl) (by rw[e];rfl) (by rw[e];rfl) (by rw[←ht];exact s.lx.kR),Ma sn⟩,h5⟩
 rw[e]
 show W.ac.modify 0 _=_
 rw[s.ac]
 rfl
theorem Sp.mg {K:Nat} {res':List Rz} {pd:List jf} {T':Nat→St} (h:Sp n m v ce W res [c] ak pb T) (hq:c.q=Qn.new ns r) (hne:ns≠[]) (hk:c.kind≠5) (hK:K≤300)
 (hx:∀W1,Sp n m v ce W1 res [c] (ak+1) (Qn.new (us n m) (A9 (ak+1))) T→En n m v ce W1 K res' pd T'):
 W.mg.2=true∧∃ak' pb',Sp n m v ce W.mg.1 res' pd ak' pb' T'∧pb'.mP=false∧pb'.a.nr≤ak'∧Cg W.bx W.mg.1.bx:=by
 obtain⟨hn,hm,_⟩:=h.nm
 obtain⟨h1,h2⟩:=h.kR (Q6 hn hm hq hne hk)
 obtain⟨W',a,p,e,h3,h4,h5,h6⟩:=hx _ h1 (300-K)
 rw[show 300-K+K=300 by omega] at e
 have:W.mg=(W',true):=e
 rw[this]
 rw[h2] at h6
 exact⟨rfl,a,p,h3,h4,h5,h6⟩
theorem Sp.Ue (h:Sp n m v ce W res [] ak pb T) (hd:pb.mP=false) (hn:pb.a.nr≤ak):W.mg.2=true∧Sp n m v ce W.mg.1 res [] ak pb T∧Cg W.bx W.mg.1.bx:=by
 obtain⟨h1,h2⟩:=h.kR (Y:=[]) (ak':=ak) (pb':=pb) (by
  rw[rX rfl]
  rfl)
 have hp:pb.jt=pb:=by obtain⟨a,b,d,e⟩:=pb;simp at hd;subst hd;rfl
 obtain⟨g1,g2,g3⟩:=h1.stop (by show []++pb.iE++[]++[]=[];simp[Qn.iE,hd]) (by show sx n m v ce res [] ak pb.jt=_;rw[hp])
 have:W.mg=(W.xm.step,true):=g2 298
 rw[this]
 rw[h2] at g3
 exact⟨rfl,g1,g3⟩
theorem Sp.call {Y:List jf} (h:Sp n m v ce W res [] ak pb T) (kind b:Int) (hk:kind=1∨kind=2∨kind=3∨kind=4) (hl:W.bx.length=res.length) (hall:∀c∈W.bx,c.a=0)
 (hc:(sx n m v ce res [] ak pb).Z kind (W.jG kind b) (W.kx kind)=sx n m v ce (res++[Rz.zero]) Y ak' pb):
 Sp n m v ce (W.call kind 0 b) (res++[Rz.zero]) Y ak' pb T∧(W.call kind 0 b).bx.length=W.bx.length+1∧(∀(i:Nat) (x:Kl),W.bx[i]?=some x→∃y,(W.call kind 0 b).bx[i]?=some y∧Ce x y)∧(W.call kind 0 b).bx[W.bx.length]?=some ⟨0,res.length,kind,W.jG kind b,W.kx kind,[],W.a+1,0,Rz.zero⟩:=by
 obtain⟨k,⟨⟨rfl,rfl⟩,rfl,rfl⟩,s,sn⟩:=h
 obtain⟨X,hX⟩:∃X,sx W.n W.m W.v W.ce res [] ak pb=X:=⟨_,rfl⟩
 have hk5:kind=1∨kind=2∨kind=3∨kind=4∨kind=5:=by omega
 obtain⟨c1,c2,c3,c4,c5,c6,c7⟩:=IF k kind 0 b hk5
 have hpd:X.dd.length≠8:=by rw[←hX];simp[sx]
 have hlx:=s.lx.Z kind (W.jG kind b) (W.kx kind)
 rw[hc] at hlx
 rw[hX] at s hc
 have hnow:=k.nw
 have hw:Wk W.E.iY:=Wk.iY (W:=W.E) k.sd (by show W.a+1≤4*((W.iH+1:Nat):Int);omega)
 have hA:W.ac[jh 0 W.ac.length]?=some ⟨X,true⟩:=by rw[s.ac];rfl
 have hlw:W.E.iY.bx.length=W.bx.length:=by show(W.bx.map _).length=_;rw[List.length_map]
 have hval:W.E.iY.kx kind=W.kx kind:=by unfold Wd.kx;rw[hlw]
 have hnum:W.E.iY.mR 0=res.length:=by
  unfold Wd.mR
  rw[List.filter_eq_self.2 ?_,hlw,hl]
  intro c hc
  obtain⟨d,hd,rfl⟩:=List.mem_map.1 (show c∈W.bx.map _ from hc)
  have:(d.E (W.a+1) W.ac[d.a]?).a=d.a:=by unfold Kl.E;(repeat' split)<;>rfl
  show(d.E (W.a+1) W.ac[d.a]?).a==0
  rw[this,hall d hd]
  rfl
 have e:W.call kind 0 b=(W.E.iY.m7 kind b 0 ⟨X,true⟩).iY:=by
  unfold Wd.call
  rw[hA]
  dsimp only
  rw[if_pos rfl,if_neg hpd,show jh 0 W.ac.length=0 by rw[s.ac];rfl]
  rfl
 have hcalled:W.E.iY.m7 kind b 0 ⟨X,true⟩=({W.E.iY with bx:=W.E.iY.bx++[⟨0,res.length,kind,W.jG kind b,W.kx kind,[],W.a+1,0,Rz.zero⟩]}:Wd).mM 0 (sx W.n W.m W.v W.ce (res++[Rz.zero]) Y ak' pb):=by
  unfold Wd.m7
  rw[hnum,hval]
  show({W.E.iY with bx:=W.E.iY.bx++[⟨0,res.length,kind,W.jG kind b,W.kx kind,[],W.a+1,0,Rz.zero⟩]}:Wd).mM 0 (X.Z kind (W.jG kind b) (W.kx kind))=_
  rw[hc]
 have hac:(W.call kind 0 b).ac=[⟨sx W.n W.m W.v W.ce (res++[Rz.zero]) Y ak' pb,true⟩]:=by
  rw[e,hcalled]
  show W.ac.modify 0 _=_
  rw[s.ac]
  rfl
 have hkd:Wk (W.E.iY.m7 kind b 0 ⟨X,true⟩):=ti hw (show W.E.iY.ac[0]?=_ by show W.ac[0]?=_;rw[s.ac];rfl) (by show X.dd.length<8;rw[←hX];simp[sx]) kind b hk5
 have cs:=vr hkd
 refine⟨⟨c1,⟨⟨by rw[e,hcalled];rfl,by rw[e,hcalled];rfl⟩,by rw[e,hcalled];rfl,by rw[e,hcalled];rfl⟩,s.mM hac c7 c4 (by rw[e,hcalled];rfl) (by rw[e,hcalled];rfl) hlx,Pv k sn kind 0 b hk5⟩, ?_,fun i x hx=> ?_, ?_⟩
 ·rw[e,cs.1,hcalled]
  show(W.E.iY.bx++[_]).length=_
  rw[List.length_append,hlw]
  rfl
 ·obtain⟨y,y1,y2⟩:=(vr (W:=W.E) k.sd).2 i x hx
  obtain⟨z,z1,z2⟩:=cs.2 i y (by
   rw[hcalled]
   show(W.E.iY.bx++[_])[i]?=some y
   rw[List.getElem?_append_left (List.getElem?_eq_some_iff.1 y1).1]
   exact y1)
  exact⟨z,by rw[e];exact z1,y2.H z2⟩
 ·rw[e]
  show((W.E.iY.m7 kind b 0 ⟨X,true⟩).bx.map _)[W.bx.length]?=_
  rw[hcalled,List.getElem?_map]
  have:((({W.E.iY with bx:=W.E.iY.bx++[⟨0,res.length,kind,W.jG kind b,W.kx kind,[],W.a+1,0,Rz.zero⟩]}:Wd).mM 0 (sx W.n W.m W.v W.ce (res++[Rz.zero]) Y ak' pb)).bx)[W.bx.length]?=some ⟨0,res.length,kind,W.jG kind b,W.kx kind,[],W.a+1,0,Rz.zero⟩:=by
   show(W.E.iY.bx++[_])[W.bx.length]?=_
   rw[List.getElem?_append_right (by omega),hlw,Nat.sub_self]
   rfl
  rw[this]
  simp only[Option.map_some]
  congr 1
  unfold Kl.E
  have hac1:(({W.E.iY with bx:=W.E.iY.bx++[⟨0,res.length,kind,W.jG kind b,W.kx kind,[],W.a+1,0,Rz.zero⟩]}:Wd).mM 0 (sx W.n W.m W.v W.ce (res++[Rz.zero]) Y ak' pb)).ac[0]?=some ⟨sx W.n W.m W.v W.ce (res++[Rz.zero]) Y ak' pb,true⟩:=by
   show(W.ac.modify 0 _)[0]?=_
   rw[s.ac]
   rfl
  dsimp only
  rw[hac1]
  dsimp only
  rw[if_pos rfl]
  have:(sx W.n W.m W.v W.ce (res++[Rz.zero]) Y ak' pb).res[res.length]?=some Rz.zero:=by
   show(res++[Rz.zero])[res.length]?=_
   simp
  rw[this]
  dsimp only
  rw[if_neg (by simp[Rz.zero])]
end
section
variable{ak:Int}
def Vi (k:Nat) (val:List Int):jf:=⟨1,k,0,0,0,⟨8,iM 0,k,val⟩,no,0,Rz.zero,Qn.zero⟩
def FE (n m:Nat) (kd:Int) (k:Nat) (t:Ct) (a:Nat) (nr:Int):jf:=⟨kd,k,0,a,0,t,t,0,Rz.zero,Qn.new [((a%n*m+0:Nat):Int)] ⟨2,(0:Nat),nr,0,a,t⟩⟩
def TC (n m:Nat) (k:Nat) (a:Nat) (nr:Int):jf:=⟨2,k,0,a,0,⟨0,iM 0,k,[]⟩,no,0,Rz.zero,Qn.new ((ur m (a%n)).map fun(j:Nat)=>(j:Int)) ⟨3,(0:Nat),nr,0,a,no⟩⟩
def PY (n m:Nat) (k:Nat) (x:Int) (nr:Int):jf:=⟨4,k,0,x,0,⟨0,iM 0,k,[]⟩,no,0,⟨1,0,[]⟩,Qn.new (us n m) ⟨4,(0:Nat),nr,0,x,no⟩⟩
theorem Kx (p:Int) (val:List Int):(sx n m v ce res [] ak pb).Z 1 p val=sx n m v ce (res++[Rz.zero]) [Vi res.length val] ak pb:=rfl
theorem Qb (hn:1≤n∧n≤3) (val:List Int):(sx n m v ce res [] ak pb).Z 2 a val=sx n m v ce (res++[Rz.zero]) [TC n m res.length a (ak+1)] (ak+1) pb:=by
 show(sx n m v ce (res++[Rz.zero]) [⟨2,res.length,0,a,0,⟨0,iM 0,res.length,[]⟩,no,0,Rz.zero,Qn.zero⟩] ak pb).qF ⟨2,res.length,0,a,0,⟨0,iM 0,res.length,[]⟩,no,0,Rz.zero,Qn.zero⟩ ((sx n m v ce (res++[Rz.zero]) [⟨2,res.length,0,a,0,⟨0,iM 0,res.length,[]⟩,no,0,Rz.zero,Qn.zero⟩] ak pb).chain a) 3 a no=_
 rw[yH hn a,wG rfl]
 unfold TC ur
 rw[List.map_map]
 rfl
theorem Sf (hn:1≤n∧n≤3) (hm:1≤m∧m≤3) {d:jf} (hd:d.gH=c.gH) (ha:c.iS=a) (hp:c.iA=0):(sx n m v ce res [d] ak pb).ku c=sx n m v ce res [{c with q:=Qn.new [((a%n*m+0:Nat):Int)] ⟨2,c.im,ak+1,0,a,c.iR⟩}] (ak+1) pb:=by
 obtain⟨k1,gH,im,iS,un,gZ,iR,iA,e,q⟩:=c
 obtain rfl:iS=a:=ha
 obtain rfl:iA=0:=hp
 show(sx n m v ce res [d] ak pb).qF ⟨k1,gH,im,a,un,gZ,iR,0,e,q⟩ [((sx n m v ce res [d] ak pb).chain a).getD 0 0] 2 a iR=_
 rw[yH hn a,Es (by omega)]
 exact wG (c:=⟨k1,gH,im,a,un,gZ,iR,0,e,q⟩) hd _ _ _ _
theorem Rw (hn:1≤n∧n≤3) (hm:1≤m∧m≤3) (val:List Int):(sx n m v ce res [] ak pb).Z 3 a val=sx n m v ce (res++[Rz.zero]) [FE n m 3 res.length ⟨9,iM 0,res.length,[]⟩ a (ak+1)] (ak+1) pb:=
 Sf (c:=⟨3,res.length,0,a,0,⟨9,iM 0,res.length,[]⟩,⟨9,iM 0,res.length,[]⟩,0,Rz.zero,Qn.zero⟩) (d:=⟨3,res.length,0,a,0,⟨9,iM 0,res.length,[]⟩,no,0,Rz.zero,Qn.zero⟩) hn hm rfl rfl rfl
theorem Rb (hn:1≤n∧n≤3) (hm:1≤m∧m≤3) (x:Int) (val:List Int):(sx n m v ce res [] ak pb).Z 4 x val=sx n m v ce (res++[Rz.zero]) [PY n m res.length x (ak+1)] (ak+1) pb:=by
 show(sx n m v ce (res++[Rz.zero]) [⟨4,res.length,0,x,0,⟨0,iM 0,res.length,[]⟩,no,0,Rz.zero,Qn.zero⟩] ak pb).qF ⟨4,res.length,0,x,0,⟨0,iM 0,res.length,[]⟩,no,0,⟨1,0,[]⟩,Qn.zero⟩ (kz (jC n m)) 4 x no=_
 rw[s9 hn hm]
 exact wG (d:=⟨4,res.length,0,x,0,⟨0,iM 0,res.length,[]⟩,no,0,Rz.zero,Qn.zero⟩) (c:=⟨4,res.length,0,x,0,⟨0,iM 0,res.length,[]⟩,no,0,⟨1,0,[]⟩,Qn.zero⟩) rfl _ _ _ _
theorem C3 (hn:1≤n∧n≤3) (hm:1≤m∧m≤3) (ha:a<n*ce) (k:Nat) (val:List Int) (x0:Int) (q0:Qn An) (ct:Ct):(sx n m v ce res [⟨1,k,0,x0,0,⟨8,iM 0,k,val⟩,ct,0,Rz.zero,q0⟩] ak pb).jv k a=sx n m v ce res [FE n m 1 k ⟨8,iM 0,k,val⟩ a (ak+1)] (ak+1) pb:=by
 have hi:(sx n m v ce res [⟨1,k,0,x0,0,⟨8,iM 0,k,val⟩,ct,0,Rz.zero,q0⟩] ak pb).qB a=true:=by
  unfold Cx.qB
  show(decide ((0:Int)≤a)&&decide ((a:Int)<(n:Int)*ce))=true
  have:((n*ce:Nat):Int)=(n:Int)*ce:=by simp
  simp only[Bool.and_eq_true,decide_eq_true_eq]
  omega
 unfold Cx.jv
 have hf:(sx n m v ce res [⟨1,k,0,x0,0,⟨8,iM 0,k,val⟩,ct,0,Rz.zero,q0⟩] ak pb).dd.find? (fun c=>c.gH==k)=some ⟨1,k,0,x0,0,⟨8,iM 0,k,val⟩,ct,0,Rz.zero,q0⟩:=by
  show [_].find? _=_
  rw[List.find?_cons_of_pos (by simp)]
 rw[hf]
 dsimp only
 rw[if_pos hi,ub (d:=⟨1,k,0,x0,0,⟨8,iM 0,k,val⟩,ct,0,Rz.zero,q0⟩) (c:=⟨1,k,0,a,0,⟨8,iM 0,k,val⟩,ct,0,Rz.zero,q0⟩) rfl]
 exact Sf (c:=⟨1,k,0,a,0,⟨8,iM 0,k,val⟩,⟨8,iM 0,k,val⟩,0,Rz.zero,q0⟩) hn hm rfl rfl rfl
theorem L3 (k:Nat) (val:List Int) (x0:Int) (q0:Qn An) (ct:Ct) (t:Int) (ht:(n:Int)*ce≤t):(sx n m v ce res [⟨1,k,0,x0,0,⟨8,iM 0,k,val⟩,ct,0,Rz.zero,q0⟩] ak pb).jv k t=sx n m v ce (res.set k ⟨7,0,[]⟩) [] ak pb:=by
 have hi:(sx n m v ce res [⟨1,k,0,x0,0,⟨8,iM 0,k,val⟩,ct,0,Rz.zero,q0⟩] ak pb).qB t=false:=by
  unfold Cx.qB
  show(decide ((0:Int)≤t)&&decide (t<(n:Int)*ce))=false
  rw[Bool.and_eq_false_iff]
  exact .inr (decide_eq_false (by omega))
 unfold Cx.jv
 have hf:(sx n m v ce res [⟨1,k,0,x0,0,⟨8,iM 0,k,val⟩,ct,0,Rz.zero,q0⟩] ak pb).dd.find? (fun c=>c.gH==k)=some ⟨1,k,0,x0,0,⟨8,iM 0,k,val⟩,ct,0,Rz.zero,q0⟩:=by
  show [_].find? _=_
  rw[List.find?_cons_of_pos (by simp)]
 rw[hf]
 dsimp only
 rw[hi]
 exact vX rfl _
theorem Sp.jv {Y:List jf} {res':List Rz} (h:Sp n m v ce W res [c] ak pb T) (hw:Cx.lV c=true) (t:Int) (hg:(sx n m v ce res [c] ak pb).jv c.gH t=sx n m v ce res' Y ak' pb):
 Sp n m v ce (W.jv 0 0 t) res' Y ak' pb T∧(W.jv 0 0 t).bx.length=W.bx.length∧∀(i:Nat) (x:Kl),W.bx[i]?=some x→∃y,(W.jv 0 0 t).bx[i]?=some y∧Ce (if x.a=0∧x.b=c.gH then{x with c:=x.c++[t]} else x) y:=by
 obtain⟨k,⟨⟨rfl,rfl⟩,rfl,rfl⟩,s,sn⟩:=h
 obtain⟨X,hX⟩:∃X,sx W.n W.m W.v W.ce res [c] ak pb=X:=⟨_,rfl⟩
 obtain⟨c1,c2,c3,c4,c5,c6,c7⟩:=xQ k 0 0 t
 have hwl:X.jl=[c.gH]:=by
  rw[←hX]
  show(([c].filter Cx.lV).map fun c=>c.gH)=_
  rw[List.filter_cons_of_pos hw]
  rfl
 have hlx:=s.lx.jv c.gH t
 rw[hg] at hlx
 rw[hX] at s hg
 have hA:W.ac[jh 0 W.ac.length]?=some ⟨X,true⟩:=by rw[s.ac];rfl
 have e:W.jv 0 0 t=(W.pA 0 ⟨X,true⟩ c.gH t).iY:=by
  unfold Wd.jv
  rw[hA]
  dsimp only
  rw[if_pos ⟨rfl,by rw[hwl];simp⟩,show jh 0 W.ac.length=0 by rw[s.ac];rfl,hwl]
  rfl
 have hgv:W.pA 0 ⟨X,true⟩ c.gH t=(({W with iH:=W.iH+1}:Wd).AS 0 c.gH t).mM 0 (sx W.n W.m W.v W.ce res' Y ak' pb):=by
  unfold Wd.pA
  rw[hg]
 have hac:(W.jv 0 0 t).ac=[⟨sx W.n W.m W.v W.ce res' Y ak' pb,true⟩]:=by
  rw[e,hgv]
  show W.ac.modify 0 _=_
  rw[s.ac]
  rfl
 have hkd:Wk (W.pA 0 ⟨X,true⟩ c.gH t):=xY k (show W.ac[0]?=_ by rw[s.ac];rfl) (by rw[hwl];simp) t
 have cs:=vr hkd
 refine⟨⟨c1,⟨⟨by rw[e,hgv];rfl,by rw[e,hgv];rfl⟩,by rw[e,hgv];rfl,by rw[e,hgv];rfl⟩,s.mM hac c7 c4 (by rw[e,hgv];rfl) (by rw[e,hgv];rfl) hlx,QD k sn 0 0 t⟩,c3,fun i x hx=> ?_⟩
 rw[e]
 refine cs.2 i _ ?_
 rw[hgv]
 show(W.bx.map _)[i]?=_
 rw[List.getElem?_map,hx]
 rfl
end
def uF(c:Kl):Int×List Int×Bool:=if c.fin=0 then(0,[],false)else if c.kind=1 then(if c.r.wh=1 then(c.r.ad,c.value,true)else(0,[],false))else if c.kind=2\/c.kind=3 then(if c.r.wh=8 then(c.pos,c.r.val,true)else if c.r.wh=9 then(c.pos,[],true)else(0,[],false))else(0,[],false)
def LM(c:Kl):Int:=if c.fin=0 then 0 else if c.kind=4 then c.pos else if c.kind≠1/\c.kind≠5/\c.r.wh=4 then c.pos+1 else 0
def Ut(o c:Kl):Prop:=¬((uF c).2.2=true/\(uF c).1<LM o/\c.kind=1)/\((c.kind=2\/c.kind=3)->c.fin≠0->(c.pos<LM o->c.r.wh=4)/\¬((uF o).2.2=true/\(uF o).1=c.pos/\c.r.wh=3))
structure IW(T:Int)(cs:List Kl):Prop where
 UW:∀c∈cs,c.fin≠0->c.kind=1->c.r.val=[]/\((c.r.wh=1/\c.r.ad∈c.c/\0<=c.r.ad/\c.r.ad<T)\/(c.r.wh=7/\c.r.ad=0/\∃t∈c.c,t<0\/T<=t))
 Uv:∀c∈cs,c.fin≠0->c.kind≠1->c.r.ad=0/\(c.r.val=[]\/c.r.wh=8)/\((c.kind=2/\(c.r.wh=8\/c.r.wh=9\/c.r.wh=3\/c.r.wh=4))\/(c.kind=3/\(c.r.wh=8\/c.r.wh=9\/c.r.wh=4))\/(c.kind=4/\c.r.wh=1)\/(c.kind=5/\(c.r.wh=1\/c.r.wh=6)))
 uq:∀(i j:Nat) (c o:Kl),cs[i]?=some c->cs[j]?=some o->c.kind=1->o.kind=1->c.value=o.value->i=j
 UN:∀c∈cs,∀a,uF c=(a,[],true)->∃o∈cs,o.kind=3/\o.pos=a/\o.d<c.fin
 VY:∀c∈cs,∀a v,v≠[]->uF c=(a,v,true)->∃o∈cs,o.kind=1/\o.value=v/\o.d<c.fin/\a∈o.c/\(o.fin=0\/(o.r.wh=1/\o.r.ad=a))
 V7:∀c∈cs,c.kind≠4->LM c≠0->∃o∈cs,o.kind=4/\c.pos<o.pos/\o.d<c.fin
 two:∀(i j:Nat) (c o:Kl),cs[i]?=some c->cs[j]?=some o->i≠j->(uF c).2.2=true->(uF o).2.2=true->(((uF c).1=(uF o).1->(uF c).2.1=(uF o).2.1)/\((uF c).2.1≠[]->(uF c).2.1=(uF o).2.1->(uF c).1=(uF o).1))/\¬(c.kind=1/\o.kind=1/\(uF c).1=(uF o).1)
 KW:∀c∈cs,∀o∈cs,o.fin≠0->o.fin<c.d->Ut o c
def xg{j:Nat}(d:i<4294967296)(y:j<4294967296)(h:je i=je j):i=j:=by simp[je]at h;omega
def Fx(i:Nat):je i≠[]:=by simp[je]
end Go.Proofs.YtbghhbpacijmmaaGreat
