import Derived.Test.YtbghhbpacijmmaaGreatL18
open Go.Proofs.Tryz
namespace Go.Proofs.YtbghhbpacijmmaaGreat
set_option maxRecDepth 99999
set_option maxHeartbeats 0
set_option linter.defProp false
set_option linter.unusedVariables false
open Go.RowKit Go.Maps
attribute [local go_sem ↓] Go.wp_at_zero Go.wp_at_succ
section
variable{S:Cf}{w wr:World}{g q:Nat}{gH:Nat->Nat}{B:List (Nat×Obj)}{R W:Wd}
theorem Chd.set (h:Chd S w wr g q gH B R W):W.n=S.n∧W.m=S.m∧W.v=S.v∧W.ce=S.ce:=by
 obtain⟨K,F,hs,_⟩:=h.f
 obtain⟨⟨s1,s2⟩,s3,s4⟩:=hs.s
 exact⟨s1,s2,s3,s4⟩
theorem Chd.lM (h:Chd S w wr g q gH B R W):Calls prog 27 #[.pointer (some ⟨g,0,none⟩)] wr fun en w'=>en=gX (.int .i64 (S.n*S.ce:Nat))∧Bl wr w':=by
 obtain⟨V,hx⟩:=h.x
 have:=uG hx h.k
 rw[h.set.1,h.set.2.2.2] at this
 rw[show((S.n*S.ce:Nat):Int)=(S.n:Int)*S.ce by simp]
 exact this
theorem Chd.cell (h:Chd S w wr g q gH B R W) {b t:Nat} {A:Array Value} (hb:(b,im A t (0,0))∈B) (o:Nat) {x:Value} (hx:A[o]?=some x):wr.cell? ⟨b,o,none⟩=some x:=by
 rw[cell_of_row wr b o _ t (0,0) (h.bx _ hb).2];exact hx
theorem Chd.blt (h:Chd S w wr g q gH B R W) {b:Nat} {o:Obj} (hb:(b,o)∈B):b<wr.heap.size:=(Array.getElem?_eq_some_iff.1 (h.bx _ hb).2).1
theorem Chd.rJ (h:Chd S w wr g q gH B R W) {w2:World} (hb:Bl wr w2) {gb:Nat} {o:Obj} (hg:wr.heap.size≤gb) (hc:w2.heap[gb]?=some o):Chd S w w2 g q (iq gH wr.heap.size 0) ((gb,o)::B) R W:=by
 obtain⟨V,hx⟩:=h.x
 have h1:=h.next (jB.A (gI:=iq gH wr.heap.size 0) hb fun _ hb=>gV _ _ _ _ hb) ⟨V,hx.bl hb fun _ hb=>gV _ _ _ _ hb⟩ h.f h.k rfl h.iN h.cl rfl (Nat.le_refl _) h.e
 refine⟨h1.f,h1.k,h1.ms,h1.iN,h1.cl,h1.aw,h1.an,h1.t0,h1.bl,h1.x,h1.e,fun z hz=> ?_⟩
 rcases List.mem_cons.1 hz with rfl|hz
 ·exact⟨iJ _ _ _ _ hg,hc⟩
 ·exact h1.bx z hz
theorem Chd.callC (h:Chd S w wr g q gH B R W) {k:Nat} {c:Kl} (hc:R.gK[k]?=some c):∃cb cc ta tc ra rc,g<wr.heap.size∧cb<wr.heap.size∧wr.cell? ⟨g,7,none⟩=some (gN (some ⟨cb,0,none⟩) R.gK.length cc)∧Sl wr (gN ra c.r.val.length rc) (c.r.val.map B8)∧
 wr.cell? ⟨cb,k*11,none⟩=some (.int .i64 c.a)∧wr.cell? ⟨cb,k*11+1,none⟩=some (.int .i64 c.b)∧wr.cell? ⟨cb,k*11+2,none⟩=some (.int .i64 c.kind)∧wr.cell? ⟨cb,k*11+3,none⟩=some (.int .i64 c.pos)∧wr.cell? ⟨cb,k*11+4,none⟩=some (.string (jq c.value))∧wr.cell? ⟨cb,k*11+5,none⟩=some (gN ta c.c.length tc)∧wr.cell? ⟨cb,k*11+6,none⟩=some (.int .i64 c.d)∧wr.cell? ⟨cb,k*11+7,none⟩=some (.int .i64 c.fin)∧wr.cell? ⟨cb,k*11+8,none⟩=some (.int .i64 c.r.wh)∧wr.cell? ⟨cb,k*11+9,none⟩=some (.int .i64 c.r.ad)∧wr.cell? ⟨cb,k*11+10,none⟩=some (gN ra c.r.val.length rc):=by
 obtain⟨V,hx⟩:=h.x
 have hc':W.gK[k]?=some c:=by rw[h.e.gK];exact hc
 have hk:=(List.getElem?_eq_some_iff.1 hc').1
 obtain⟨ca,cc,hcv⟩:=hx.ca.row.B
 have hr:=hx.ca.row
 rw[hcv] at hr
 obtain⟨cb,rfl,_,lcb,hce,_⟩:=hr.cells (by omega)
 obtain⟨tv,rv,f0,f1,f2,f3,f4,f5,f6,f7,f8,f9,fa,htk,hrd⟩:=hx.ca.c k c hc'
 obtain⟨ta,tc,rfl⟩:=htk.B
 obtain⟨ra,rc,er⟩:=hrd.sl.len
 rw[List.length_map] at er
 subst er
 refine⟨cb,cc,ta,tc,ra,rc,hx.lt,lcb,by rw[←h.e.gK,←hcv];exact hx.cellAt 7 rfl,hrd.sl,(hce _ (by omega)).H f0,(hce _ (by omega)).H f1,(hce _ (by omega)).H f2,(hce _ (by omega)).H f3,(hce _ (by omega)).H f4,(hce _ (by omega)).H f5,(hce _ (by omega)).H f6,(hce _ (by omega)).H f7,(hce _ (by omega)).H f8,(hce _ (by omega)).H f9,(hce _ (by omega)).H fa⟩
end
theorem changed_of (hev:∀S:Cf,S.m=2→(S.v=1∨S.v=3∨S.v=5)→S.ce≤5→∀k,k<S.n*S.ce→(Wd.start S.n S.m S.v S.ce).evN (2*S.n) k=true)
 (c vv s many un cut:Int) (w:World) (h1:nO c) (h2:nO vv) (h3:nO s) (h4:nO many) (h5:nO un) (h6:nO cut):
 Calls prog 11 #[.int .i64 c,.int .i64 vv,.int .i64 s,.int .i64 many,.int .i64 un,.int .i64 cut] w fun e w'=>e=gX (.bool true)∧Bl w w':=by
 have r1:=lZ c 3 (by decide)
 have r3:=lZ vv 3 (by decide)
 have r4:=lZ s 5 (by decide)
 obtain⟨n,hn⟩:∃n:Nat,1+pk c 3=n:=⟨(1+pk c 3).toNat,by omega⟩
 obtain⟨v,hv⟩:∃n:Nat,1+2*pk vv 3=n:=⟨(1+2*pk vv 3).toNat,by omega⟩
 obtain⟨ce,hce⟩:∃n:Nat,1+pk s 5=n:=⟨(1+pk s 5).toNat,by omega⟩
 have hf:nB n 2 v ce=true:=by simp[nB];omega
 obtain⟨S,hS⟩:∃S:Cf,S=⟨n,2,v,ce,hf⟩:=⟨_,rfl⟩
 have hm:1+pk 1 3=((2:Nat):Int):=by decide
 have HSe:=gP (fun w=>DZ c 1 vv s w h1 (by unfold nO;omega) h2 h3)
 rw[hn,hm,hv,hce,show n=S.n by rw[hS],show(2:Nat)=S.m by rw[hS],show v=S.v by rw[hS],show ce=S.ce by rw[hS]] at HSe
 have sm:S.m=2:=by rw[hS]
 have hb:=S.A
 have hsw:=hev S sm (by rw[hS];show v=1∨v=3∨v=5;omega) (by rw[hS];show ce≤5;omega)
 have hce5:S.ce≤5:=by rw[hS];show ce≤5;omega
 have HBe:Hid (∀(w1:World) (B:List (Nat×Obj)),Bl w w1→(∀z∈B,w1.heap[z.1]?=some z.2)→_):=fun w1 B hb1 hB=>Chd.start S hb1 hB
 have hTp:0<S.n*S.ce:=Nat.mul_pos hb.1.1 hb.2.2.2.1
 have hT15:S.n*S.ce≤15:=Nat.le_trans (Nat.mul_le_mul hb.1.2 hce5) (by omega)
 have hUp:0<S.n*S.m:=Nat.mul_pos hb.1.1 hb.2.1.1
 have hU:S.n*S.m=2*S.n:=by rw[sm];omega
 have hU6:S.n*S.m≤6:=by omega
 obtain⟨T,hT⟩:∃T,S.n*S.ce=T:=⟨_,rfl⟩
 obtain⟨uQ,hUe⟩:∃uQ,S.n*S.m=uQ:=⟨_,rfl⟩
 rw[hT] at hsw hTp hT15
 rw[hUe] at hUp hU hU6
 have HP1:=gP (fun Wm=>j5 many (T:Int) Wm h4.1 h4.2 (by omega) (by omega))
 rw[kz many _ hTp] at HP1
 have HP2:=gP (fun Wm=>j5 un (uQ:Int) Wm h5.1 h5.2 (by omega) (by omega))
 rw[kz un _ hUp] at HP2
 have hnn:=kB many hTp
 have hgg:=kB un hUp
 generalize iL many T=nn at HP1 hnn
 generalize iL un uQ=gone at HP2 hgg
 have hsA:=fun j (hj:j<T)=>(evN_of (hsw j hj)).1
 obtain⟨R2,R3,R5,hA,hRd,hGd⟩:=chg_of ((evN_of (hsw nn hnn)).2 gone (by omega))
 obtain⟨hc2,hc3,hl2,hl3⟩:=chgA_of hA
 obtain⟨N,hN⟩:∃N,nn+1=N:=⟨_,rfl⟩
 rw[hN] at hA hRd hGd hc2 hl2 hl3
 have hN1:1≤N:=by omega
 have hN15:N≤15:=by omega
 have wN:IntKind.i64.wrap (1+(nn:Int))=(N:Int):=by rw[IntKind.wrap_i64];omega
 have wU:IntKind.i64.wrap ((S.n:Int)*(S.m:Int))=(uQ:Int):=by rw[IntKind.wrap_i64,show(S.n:Int)*(S.m:Int)=(uQ:Int) by rw[←hUe];simp];omega
 have HA:Hid (∀k,k<N→(((Wd.start S.n S.m S.v S.ce).apps k).call 1 0 0).round.2=true):=fun k hk=>hsA k (by omega)
 have Hc:Hid (((((((Wd.start S.n S.m S.v S.ce).apps N).stop gone).kS).call 5 1 (gone:Nat)).calmE=some R2∧(R2.call 5 1 (Wd.pw gone:Nat)).calmE=some R3)∧(R2.lastIs N 1=true∧R3.lastIs (N+1) 6=true)∧R3.kS.rds 0 N=some R5∧R5.good N=true):=⟨⟨hc2,hc3⟩,⟨hl2,hl3⟩,hRd,hGd⟩
 have Hm:=gP sm
 have HU:=gP (And.intro hU (And.intro hU6 (And.intro hUe hT)))
 clear h1 h2 h3 h4 h5 r1 r3 r4 hn hv hce hm hf hS hev hsw sm hb hsA hA hc2 hc3 hl2 hl3 hRd hGd hU hU6 hTp hUp hce5 hnn hN hUe hT
 go_enter func11,ntmps11
 go_wp2_with fail
 refine(HSe.o _).L ?_
 rintro en w1 ⟨rfl,hb1⟩
 go_wp2_with fail
 refine(HBe.o _ [(w1.heap.size,im #[.int .i64 S.n,.int .i64 S.m,.int .i64 S.v,.int .i64 S.ce] 27 (0,0))] (hb1.alloc _) (fun z hz=>by rw[List.mem_singleton.1 hz];exact heap_alloc_new w1 _)).L ?_
 rintro en w2 ⟨g,rfl,tag2,W2,hC2⟩
 generalize w1.heap.size=sb at hC2⊢
 have HC2:=gP hC2
 have HT2:=gP hC2.lM
 rw[HU.o.2.2.2] at HT2
 clear hC2 HBe HSe hb1
 go_upto_region 7 with(first|(go_at_call 27;refine HT2.o.L ?_;rintro en w3 ⟨rfl,hb3⟩;have HB3:=gP hb3;clear hb3)|(go_at_call 15;refine(HP1.o _).L ?_;rintro en w4 ⟨rfl,hww⟩;have hww:=hww.symm;subst hww))
 obtain⟨Bx,hBx⟩:∃Bx:List (Nat×Obj),[(sb,im #[.int .i64 S.n,.int .i64 S.m,.int .i64 S.v,.int .i64 S.ce] 27 (0,0))]=Bx:=⟨_,rfl⟩
 have HBx:Hid ((sb,im #[.int .i64 S.n,.int .i64 S.m,.int .i64 S.v,.int .i64 S.ce] 27 (0,0))∈Bx):=by rw[←hBx];exact List.mem_singleton.2 rfl
 have HC0:Hid (∃W,Chd S w w3 g (1+2*0) tag2 Bx ((Wd.start S.n S.m S.v S.ce).apps 0) W):=by rw[←hBx];exact⟨_,HC2.o.bl' HB3.o⟩
 clear HC2 HB3 HT2 hBx HP1
 go_loopw [15,17] (fun ok iv wr=>∃k:Nat,ok= .bool true∧iv= .int .i64 k∧k≤N∧Hid (∃gH W,Chd S w wr g (1+2*k) gH Bx ((Wd.start S.n S.m S.v S.ce).apps k) W)) (fun _ iv _=>N-(Go.RowKit.intOf iv).toNat)
 case atStart=>exact⟨0,rfl,rfl,Nat.zero_le _,⟨_,HC0.o⟩⟩
 case round=>
  clear HC0
  obtain⟨k,rfl,rfl,hk,HI⟩:=hrel
  obtain⟨tg,Wk,hC⟩:=HI.o
  by_cases ja:k<N
  ·have hltI:(k:Int)<(N:Int):=by omega
   have HCa:=gP (hC.call (by omega) 1 0 0 (.inl rfl) (by unfold nO;omega) (by unfold nO;omega))
   clear hC HI
   go_wp2_with fail
   refine HCa.o.L ?_
   rintro en w5 ⟨rfl,tg5,W5,h5⟩
   have HRo:=gP (h5.round (by omega) (HA.o k ja))
   clear h5 HCa
   go_wp2_with fail
   refine HRo.o.L ?_
   rintro en w6 ⟨rfl,tg6,W6,h6⟩
   have H6:=gP h6
   clear h6 HRo
   go_wp2
   exact⟨⟨k+1,by trivial,by go_num,by omega,⟨tg6,W6,H6.o⟩⟩,by simp[Go.RowKit.intOf];omega⟩
  ·have hge:¬((k:Int)<(N:Int)):=by omega
   have hkN:N=k:=by omega
   subst hkN
   have c0:=hC.cell HBx.o 0 rfl
   have c1:=hC.cell HBx.o 1 rfl
   have lsb:=hC.blt HBx.o
   obtain⟨V,hx⟩:=hC.x
   obtain⟨pa,pc,hpv⟩:=hx.a.row.B
   have hgl:gone<Wk.pl.length:=by
    have e1:=hC.k.pl
    have e2:=hC.set
    rw[e2.1,e2.2.1,HU.o.2.2.1] at e1
    omega
   have hpn:=hx.b
   have hglI:(gone:Int)<(Wk.pl.length:Int):=by omega
   obtain⟨P,hP⟩:∃P,Wk.pl[gone]?=some P:=⟨_,List.getElem?_eq_getElem hgl⟩
   have hr:=hx.a.row
   rw[hpv] at hr
   obtain⟨pb,rfl,tpb,lpb,hce,hfr⟩:=hr.cells (by omega)
   obtain⟨gi,mk,hat,_⟩:=hx.a.pl gone P hP
   have d3:=(hce (gone*5+3) (by omega)).H hat.2.2.2.1
   have f3:=hfr (gone*5+3)
   have c4:wr.cell? ⟨g,4,none⟩=some (gN (some ⟨pb,0,none⟩) Wk.pl.length pc):=by rw[←hpv];exact hx.cellAt 4 rfl
   have lg:=hx.lt
   have HSt:=gP (hC.stop hx hpv rfl hP tpb)
   have x1:=hx.Ui hpv rfl hP false
   obtain⟨wA,hwA⟩:∃wA,wr.setCell ⟨pb,gone*5+3,none⟩ (.bool false)=wA:=⟨_,rfl⟩
   rw[hwA] at HSt x1
   have hPA:(Wk.lD gone false).pl[gone]?=some {P with up:=false}:=by
    show(Wk.pl.modify gone _)[gone]?=_
    rw[List.getElem?_modify,hP];simp
   have hlA:(Wk.lD gone false).pl.length=Wk.pl.length:=by show(Wk.pl.modify gone _).length=_;rw[List.length_modify]
   have hrA:=x1.a.row
   rw[show({V with ps:=V.ps.set (gone*5+3) (.bool false)}:WV).pv=V.pv from rfl,hpv,hlA] at hrA
   obtain⟨pb',e,_,lpbA,hceA,hfrA⟩:=hrA.cells (by omega)
   obtain rfl:pb=pb':=by simpa using e
   obtain⟨giA,mkA,hatA,_⟩:=x1.a.pl gone _ hPA
   have d4:=(hceA (gone*5+4) (by omega)).H hatA.2.2.2.2
   have f4:=hfrA (gone*5+4)
   have c4A:wA.cell? ⟨g,4,none⟩=some (gN (some ⟨pb,0,none⟩) Wk.pl.length pc):=by rw[←hpv];exact x1.cellAt 4 rfl
   have lgA:=x1.lt
   obtain⟨wB,hwB⟩:∃wB,wA.setCell ⟨pb,gone*5+4,none⟩ (.bool true)=wB:=⟨_,rfl⟩
   rw[hwB] at HSt
   generalize P.up=up at d3
   generalize P.oB=oB at d4
   generalize hpln:Wk.pl.length=pln at*
   have HwA:=gP hwA
   have HwB:=gP hwB
   clear hC HI HA hx hr hce hfr hat x1 hPA hlA hrA hceA hfrA hatA e hP hpv hwA hwB tpb hgl hpln
   go_upto_region 13 with(first|(go_at_call 15;refine(HP2.o _).L ?_;rintro en w4 ⟨rfl,hww⟩;have hww:=hww.symm;subst hww))
   go_upto_region 14 with fail
   rw[HwA.o]
   clear c4 d3 f3 c0 c1 lsb lpb lg HwA
   go_upto_region 15 with fail
   rw[HwB.o]
   have HCl:=gP HSt.o.kS
   clear c4A d4 f4 lpbA lgA HwB HSt HP2
   go_wp2_with fail
   refine HCl.o.L ?_
   rintro en w6 ⟨rfl,t6,W6,h6⟩
   have HCa:=gP (h6.call (by omega) 5 1 gone (by omega) (by unfold nO;omega) (by unfold nO;omega))
   clear h6 HCl
   go_wp2_with fail
   refine HCa.o.L ?_
   rintro en w7 ⟨rfl,t7,W7,h7⟩
   have HCm:=gP (h7.calm (by omega) Hc.o.1.1)
   clear h7 HCa
   go_wp2_with fail
   refine HCm.o.L ?_
   rintro en w8 ⟨rfl,t8,W8,h8⟩
   have H8:=gP h8
   clear h8 HCm
   go_upto_region 20 with fail
   obtain⟨hl2,a2,ha2,hw2⟩:=last_of Hc.o.2.1.1
   obtain⟨cb,cc,ta,tc,ra,rc,lg8,lcb,c7,_,d0,d1,d2,d3,d4,d5,d6,d7,d8,d9,da⟩:=H8.o.callC ha2
   rw[hw2] at d8
   generalize hln:R2.gK.length=l1 at c7 hl2
   have hwl:IntKind.i64.wrap ((l1:Int)-1)=(N:Int):=by rw[IntKind.wrap_i64];omega
   have hNl:(N:Int)<(l1:Int):=by omega
   have hN0:(0:Int)≤(N:Int):=by omega
   generalize (a2.a:Int)=x0 at d0
   generalize (a2.b:Int)=x1 at d1
   generalize a2.kind=x2 at d2
   generalize a2.pos=x3 at d3
   generalize jq a2.value=x4 at d4
   generalize a2.d=x6 at d6
   generalize a2.fin=x7 at d7
   generalize a2.r.ad=x9 at d9
   generalize a2.c.length=tn at d5
   generalize a2.r.val.length=rn at da
   clear hln hl2 ha2 hw2
   go_cut [20] from 20 to 244 (fun y wx=>∃gb,y= .pointer (some ⟨gb,0,none⟩)∧Hid (Bl w8 wx∧w8.heap.size≤gb∧wx.heap[gb]?=some (im #[.int .i64 x0,.int .i64 x1,.int .i64 x2,.int .i64 x3,.string x4,gN ta tn tc,.int .i64 x6,.int .i64 x7,.int .i64 1,.int .i64 x9,gN ra rn rc] 60 (0,0))))
   case first=>
    as_aux_lemma=>
     go_region_held3(fun Y=>Y.cell? ⟨g,7,none⟩=some (gN (some ⟨cb,0,none⟩) l1 cc)∧Y.cell? ⟨cb,N*11,none⟩=some (.int .i64 x0)∧Y.cell? ⟨cb,N*11+1,none⟩=some (.int .i64 x1)∧Y.cell? ⟨cb,N*11+2,none⟩=some (.int .i64 x2)∧Y.cell? ⟨cb,N*11+3,none⟩=some (.int .i64 x3)∧Y.cell? ⟨cb,N*11+4,none⟩=some (.string x4)∧Y.cell? ⟨cb,N*11+5,none⟩=some (gN ta tn tc)∧Y.cell? ⟨cb,N*11+6,none⟩=some (.int .i64 x6)∧Y.cell? ⟨cb,N*11+7,none⟩=some (.int .i64 x7)∧Y.cell? ⟨cb,N*11+8,none⟩=some (.int .i64 1)∧Y.cell? ⟨cb,N*11+9,none⟩=some (.int .i64 x9)∧Y.cell? ⟨cb,N*11+10,none⟩=some (gN ra rn rc)) (go_keep) (fail)
     all_goals(go_wp2_with fail;go_meet)
     all_goals(refine⟨_,rfl, ?_,Nat.le_refl _,heap_alloc_new _ _⟩;(first|exact((Bl.refl w8).alloc _).drew|exact((Bl.refl w8).drew).alloc _|exact(Bl.refl w8).alloc _))
   case rest=>
   obtain⟨gb,rfl,HG⟩:=hcut
   obtain⟨o1,ho1⟩:∃o1,im #[.int .i64 x0,.int .i64 x1,.int .i64 x2,.int .i64 x3,.string x4,gN ta tn tc,.int .i64 x6,.int .i64 x7,.int .i64 1,.int .i64 x9,gN ra rn rc] 60 (0,0)=o1:=⟨_,rfl⟩
   rw[ho1] at HG
   have H9:=gP (H8.o.rJ HG.o.1 HG.o.2.1 HG.o.2.2)
   have HBx2:Hid ((gb,o1)∈(gb,o1)::Bx):=List.mem_cons_self ..
   have HBx3:Hid ((sb,im #[.int .i64 S.n,.int .i64 S.m,.int .i64 S.v,.int .i64 S.ce] 27 (0,0))∈(gb,o1)::Bx):=List.mem_cons_of_mem _ HBx.o
   have Ho1:=gP ho1
   generalize hB2:(gb,o1)::Bx=B2 at H9 HBx2 HBx3
   clear hB2 HG H8 c7 d0 d1 d2 d3 d4 d5 d6 d7 d8 d9 da lg8 lcb hwl hNl ho1 HBx
   have s1:wc.cell? ⟨sb,1,none⟩=some (.int .i64 2):=by have:=H9.o.cell HBx3.o 1 rfl;rw[Hm.o] at this;exact this
   have lsb:=H9.o.blt HBx3.o
   obtain⟨r,hr⟩:∃r,gone%2=r:=⟨_,rfl⟩
   have hr2:r<2:=by omega
   have e0:Int.tmod (gone:Int) 2=(r:Int):=by rw[Int.tmod_eq_emod_of_nonneg (by omega)];omega
   obtain⟨b1,hb1⟩:∃b1,gone-r=b1:=⟨_,rfl⟩
   have hU6:=HU.o.2.1
   have e1:IntKind.i64.wrap ((gone:Int)-(r:Int))=(b1:Int):=by rw[IntKind.wrap_i64];omega
   obtain⟨b2,hb2⟩:∃b2,b1+1=b2:=⟨_,rfl⟩
   have e2:IntKind.i64.wrap ((b1:Int)+1)=(b2:Int):=by rw[IntKind.wrap_i64];omega
   obtain⟨oth,hoth⟩:∃oth,Wd.pw gone=oth:=⟨_,rfl⟩
   have hoth2:oth=b2-r:=by rw[←hoth];unfold Wd.pw;omega
   have e3:IntKind.i64.wrap ((b2:Int)-(r:Int))=(oth:Int):=by rw[IntKind.wrap_i64];omega
   have ho6:oth<8:=by omega
   have Ht:=gP hoth
   have HCa:Hid (∀Wm,Bl wc Wm→_):=fun Wm hb=>(H9.o.bl' hb).call (by omega) 5 1 (oth:Nat) (by omega) (by unfold nO;omega) (by unfold nO;omega)
   clear hr hr2 hb1 hb2 hoth hoth2 hU6
   go_upto_region 21 with fail
   go_cut [21] from 21 to 244 (fun y wx=>y= .bool true∧Hid (∃gH W,Chd S w wx g (1+2*N+1+1+80+1) gH B2 (R2.call 5 1 (oth:Nat)) W))
   case first=>
    clear hgg H9 Hc
    go_region_with(go_at_call 28;refine(HCa.o _ (by first|exact Bl.refl _|exact(Bl.refl _).drew|exact(Bl.refl _).drewN _)).L ?_;rintro en w9 ⟨rfl,t9,W9,h9⟩;have H9:=gP h9;clear h9)
    all_goals(go_wp2_with fail;go_meet)
    all_goals(first|exact⟨rfl,_,_,H9.o⟩|exact⟨rfl,_,_,H9.o.bl' ((Bl.refl _).drew)⟩|exact⟨rfl,_,_,H9.o.bl' ((Bl.refl _).drewN _)⟩)
   case rest=>
   obtain⟨rfl,HI⟩:=hcut
   clear H9 HCa e0 e1 e2 e3 s1 lsb
   obtain⟨t9,W9,h9⟩:=HI.o
   have hcm:=Hc.o.1.2
   rw[Ht.o] at hcm
   have HCm:=gP (h9.calm (by omega) hcm)
   clear h9 hcm HI
   go_wp2_with fail
   refine HCm.o.L ?_
   rintro en w10 ⟨rfl,t10,W10,h10⟩
   have H10:=gP h10
   clear h10 HCm
   go_upto_region 23 with fail
   obtain⟨hl3,a3,ha3,hw3⟩:=last_of Hc.o.2.1.2
   obtain⟨M,hM⟩:∃M,N+1=M:=⟨_,rfl⟩
   rw[hM] at hl3 ha3
   obtain⟨cb,cc,ta,tc,ra,rc,lg8,lcb,c7,_,d0,d1,d2,d3,d4,d5,d6,d7,d8,d9,da⟩:=H10.o.callC ha3
   rw[hw3] at d8
   generalize hln:R3.gK.length=l1 at c7 hl3
   have hwl:IntKind.i64.wrap ((l1:Int)-1)=(M:Int):=by rw[IntKind.wrap_i64];omega
   have hMl:(M:Int)<(l1:Int):=by omega
   have hM0:(0:Int)≤(M:Int):=by omega
   generalize (a3.a:Int)=x0 at d0
   generalize (a3.b:Int)=x1 at d1
   generalize a3.kind=x2 at d2
   generalize a3.pos=x3 at d3
   generalize jq a3.value=x4 at d4
   generalize a3.d=x6 at d6
   generalize a3.fin=x7 at d7
   generalize a3.r.ad=x9 at d9
   generalize a3.c.length=tn at d5
   generalize a3.r.val.length=rn at da
   clear hln hl3 ha3 hw3 hM
   go_cut [23] from 23 to 244 (fun y wx=>∃gc,y= .pointer (some ⟨gc,0,none⟩)∧Hid (Bl w10 wx∧w10.heap.size≤gc∧wx.heap[gc]?=some (im #[.int .i64 x0,.int .i64 x1,.int .i64 x2,.int .i64 x3,.string x4,gN ta tn tc,.int .i64 x6,.int .i64 x7,.int .i64 6,.int .i64 x9,gN ra rn rc] 60 (0,0))))
   case first=>
    as_aux_lemma=>
     go_region_held3(fun Y=>Y.cell? ⟨g,7,none⟩=some (gN (some ⟨cb,0,none⟩) l1 cc)∧Y.cell? ⟨cb,M*11,none⟩=some (.int .i64 x0)∧Y.cell? ⟨cb,M*11+1,none⟩=some (.int .i64 x1)∧Y.cell? ⟨cb,M*11+2,none⟩=some (.int .i64 x2)∧Y.cell? ⟨cb,M*11+3,none⟩=some (.int .i64 x3)∧Y.cell? ⟨cb,M*11+4,none⟩=some (.string x4)∧Y.cell? ⟨cb,M*11+5,none⟩=some (gN ta tn tc)∧Y.cell? ⟨cb,M*11+6,none⟩=some (.int .i64 x6)∧Y.cell? ⟨cb,M*11+7,none⟩=some (.int .i64 x7)∧Y.cell? ⟨cb,M*11+8,none⟩=some (.int .i64 6)∧Y.cell? ⟨cb,M*11+9,none⟩=some (.int .i64 x9)∧Y.cell? ⟨cb,M*11+10,none⟩=some (gN ra rn rc)) (go_keep) (fail)
     all_goals(go_wp2_with fail;go_meet)
     all_goals(refine⟨_,rfl, ?_,Nat.le_refl _,heap_alloc_new _ _⟩;(first|exact((Bl.refl w10).alloc _).drew|exact((Bl.refl w10).drew).alloc _|exact(Bl.refl w10).alloc _))
   case rest=>
   obtain⟨gc,rfl,HG⟩:=hcut
   obtain⟨o2,ho2⟩:∃o2,im #[.int .i64 x0,.int .i64 x1,.int .i64 x2,.int .i64 x3,.string x4,gN ta tn tc,.int .i64 x6,.int .i64 x7,.int .i64 6,.int .i64 x9,gN ra rn rc] 60 (0,0)=o2:=⟨_,rfl⟩
   rw[ho2] at HG
   have h11:=H10.o.rJ HG.o.1 HG.o.2.1 HG.o.2.2
   have k6:wc.cell? ⟨gc,8,none⟩=some (.int .i64 6):=by rw[←ho2] at h11;exact h11.cell (List.mem_cons_self ..) 8 rfl
   have k1:wc.cell? ⟨gb,8,none⟩=some (.int .i64 1):=by have hb2:=HBx2.o;rw[←Ho1.o] at hb2;exact h11.cell (List.mem_cons_of_mem _ hb2) 8 rfl
   have lgc:=h11.blt (List.mem_cons_self ..)
   have lgb:=h11.blt (List.mem_cons_of_mem _ HBx2.o)
   have H11:=gP h11
   clear h11 HG H10 ho2 c7 d0 d1 d2 d3 d4 d5 d6 d7 d8 d9 da lg8 lcb hwl hMl
   go_wp2_with fail
   obtain⟨B3,hB3⟩:∃B3,(gc,o2)::B2=B3:=⟨_,rfl⟩
   rw[hB3] at H11
   have HR3:Hid (Rest R3):=actv_rest _ (calmE_of (by have:=Hc.o.1.2;exact this)).1
   have HL:Hid (∃gH W,Chd S w wc g (1+2*N+1+1+80+1+80+0) gH B3 R3 W):=⟨_,_,H11.o⟩
   clear H11 hB3 k1 k6 lgb lgc
   have hp14:R3.pl.length≤14:=by obtain⟨_,_,h⟩:=HL.o;obtain⟨V,hx⟩:=h.x;have:=hx.b;rw[h.e.pl] at this;exact this
   go_loopw [15,24] (fun ok iv wr=>∃k:Nat,ok= .bool true∧iv= .int .i64 k∧k≤R3.pl.length∧Hid (∃gH W,Chd S w wr g (1+2*N+1+1+80+1+80+k) gH B3 R3 W)) (fun _ iv _=>R3.pl.length-(Go.RowKit.intOf iv).toNat)
   case atStart=>exact⟨0,rfl,rfl,Nat.zero_le _,HL.o⟩
   case round=>
    clear HL
    obtain⟨k,rfl,rfl,hk,HI⟩:=hrel
    obtain⟨tg,Wq,hC⟩:=HI.o
    obtain⟨V,hx⟩:=hC.x
    obtain⟨pa,pc,hpv⟩:=hx.a.row.B
    have hpl:=hC.e.pl
    have c4:wr.cell? ⟨g,4,none⟩=some (gN pa R3.pl.length pc):=by rw[←hpl,←hpv];exact hx.cellAt 4 rfl
    have lg:=hx.lt
    by_cases ja:k<R3.pl.length
    ·have hltI:(k:Int)<(R3.pl.length:Int):=by omega
     obtain⟨P,hP⟩:∃P,R3.pl[k]?=some P:=⟨_,List.getElem?_eq_getElem ja⟩
     have hr:=hx.a.row
     rw[hpv,hpl] at hr
     obtain⟨pb,rfl,_,lpb,hce,_⟩:=hr.cells (by omega)
     obtain⟨gi,mk,hat,_⟩:=hx.a.pl k P (by rw[hpl];exact hP)
     have d3:=(hce (k*5+3) (by omega)).H hat.2.2.2.1
     have HAg:=gP (fun hu=>hC.px (by omega) HR3.o hP hu cut h6)
     have HC:=gP hC
     generalize hup:P.up=up at d3 HAg
     clear hC HI hx hr hce hat hpv hpl hP hup
     cases up with
     |true=>
      have HA2:=gP (HAg.o rfl)
      clear HAg HC
      go_wp2_with fail
      refine HA2.o.L ?_
      rintro en w12 ⟨rfl,t12,W12,h12⟩
      have H12:=gP h12
      clear h12 HA2
      go_wp2
      exact⟨⟨k+1,by trivial,by go_num,by omega,⟨_,_,H12.o⟩⟩,by simp[Go.RowKit.intOf];omega⟩
     |false=>
      clear HAg
      go_wp2
      exact⟨⟨k+1,by trivial,by go_num,by omega,⟨_,_,{HC.o with iN:=by have:=HC.o.iN;have:=Nat.mul_le_mul_left rAge (show 1+2*N+1+1+80+1+80+k≤1+2*N+1+1+80+1+80+(k+1) by omega);omega,cl:=by have:=HC.o.cl;omega}⟩⟩,by simp[Go.RowKit.intOf];omega⟩
    ·have hge:¬((k:Int)<(R3.pl.length:Int)):=by omega
     have HC:=gP hC
     clear hC HI hx hpv hpl
     have HCl:=gP HC.o.kS
     clear HC
     go_wp2_with fail
     refine HCl.o.L ?_
     rintro en w13 ⟨rfl,t13,W13,h13⟩
     clear hge c4 lg
     obtain⟨Q0,hQ0,hQl⟩:∃Q0,1+2*N+1+1+80+1+80+k+1=Q0∧Q0≤300:=⟨_,rfl,by omega⟩
     rw[hQ0] at h13
     have HL3:Hid (∃q gH W R,q≤Q0+81*0∧Chd S w w13 g q gH B3 R W∧R.rds 0 (N-0)=some R5):=⟨Q0,_,_,_,Nat.le_refl _,h13,Hc.o.2.2.1⟩
     have HG:=gP Hc.o.2.2.2
     clear h13 HCl hQ0 Hc HR3 Ht Ho1 HBx2 HBx3 HU Hm
     go_wp2_with fail
     go_loopw [15,25] (fun ok iv wr=>∃k:Nat,ok= .bool true∧iv= .int .i64 k∧k≤N∧Hid (∃q gH W R,q≤Q0+81*k∧Chd S w wr g q gH B3 R W∧R.rds k (N-k)=some R5)) (fun _ iv _=>N-(Go.RowKit.intOf iv).toNat)
     case atStart=>exact⟨0,rfl,rfl,Nat.zero_le _,HL3.o⟩
     case round=>
      clear HL3
      obtain⟨i,rfl,rfl,hi,HI⟩:=hrel
      obtain⟨q,tg,Wq,R,hq,hC,hR⟩:=HI.o
      clear HI
      have hq15:q≤1600:=by omega
      by_cases ja:i<N
      ·have hltI:(i:Int)<(N:Int):=by omega
       obtain⟨r,hr⟩:∃r,N-i=r+1:=⟨N-i-1,by omega⟩
       have hr1:N-(i+1)=r:=by omega
       rw[hr] at hR
       unfold Wd.rds at hR
       obtain⟨d,hd⟩:∃d,i/8=d:=⟨_,rfl⟩
       obtain⟨a,ha⟩:∃a,d%2=a:=⟨_,rfl⟩
       obtain⟨b,hb⟩:∃b,1+a=b:=⟨_,rfl⟩
       obtain⟨z,hz⟩:∃z,i%8=z:=⟨_,rfl⟩
       have e0:Int.tdiv (i:Int) 8=(d:Int):=by rw[Int.tdiv_eq_ediv_of_nonneg (by omega)];omega
       have e1:Int.tmod (d:Int) 2=(a:Int):=by rw[Int.tmod_eq_emod_of_nonneg (by omega)];omega
       have e2:IntKind.i64.wrap (1+(a:Int))=(b:Int):=by rw[IntKind.wrap_i64];omega
       have e3:Int.tmod (i:Int) 8=(z:Int):=by rw[Int.tmod_eq_emod_of_nonneg (by omega)];omega
       have e4:IntKind.i64.wrap (d:Int)=(d:Int):=by rw[IntKind.wrap_i64];omega
       have e5:IntKind.i64.wrap (a:Int)=(a:Int):=by rw[IntKind.wrap_i64];omega
       have HCa:=gP (hC.call (by omega) 2 (b:Nat) (i:Nat) (by omega) (by unfold nO;omega) (by unfold nO;omega))
       rw[hz,hd,ha,hb] at hR
       by_cases hz7:z=7
       ·rw[if_pos hz7] at hR
        have e6:Int.tmod (i:Int) 8=7:=by rw[e3,hz7];rfl
        clear e3 hz7
        obtain⟨R6,hcm⟩:∃R6,(R.call 2 (b:Nat) (i:Nat)).calmE=some R6:=by
         cases hcm:(R.call 2 (b:Nat) (i:Nat)).calmE with
         |none=>rw[hcm] at hR;cases hR
         |some R6=>exact⟨R6,rfl⟩
        rw[hcm] at hR
        have HR:=gP hR
        have Hcm:=gP hcm
        clear hR hcm hC hd ha hb hz
        go_wp2_with fail
        refine HCa.o.L ?_
        rintro en w14 ⟨rfl,t14,W14,h14⟩
        have HCm:=gP (h14.calm (by omega) Hcm.o)
        clear h14 HCa e0 e1 e2 e4 e5
        go_wp2_with fail
        refine HCm.o.L ?_
        rintro en w15 ⟨rfl,t15,W15,h15⟩
        have H15:=gP h15
        clear h15 HCm
        have HF:Hid (∃q gH W R,q≤Q0+81*(i+1)∧Chd S w w15 g q gH B3 R W∧R.rds (i+1) (N-(i+1))=some R5):=⟨_,_,_,_,by omega,H15.o,by rw[hr1];exact HR.o⟩
        have hi1:i+1≤N:=by omega
        clear H15 HR Hcm e6
        go_wp2
        exact⟨⟨i+1,by trivial,by go_num,hi1,HF⟩,by simp[Go.RowKit.intOf];omega⟩
       ·rw[if_neg hz7] at hR
        have hz8:¬(z:Int)=7:=by omega
        have HR:=gP hR
        clear hR hC hd ha hb hz
        go_wp2_with fail
        refine HCa.o.L ?_
        rintro en w14 ⟨rfl,t14,W14,h14⟩
        have H14:=gP h14
        clear h14 HCa
        have HF:Hid (∃q gH W R,q≤Q0+81*(i+1)∧Chd S w w14 g q gH B3 R W∧R.rds (i+1) (N-(i+1))=some R5):=⟨_,_,_,_,by omega,H14.o,by rw[hr1];exact HR.o⟩
        have hi1:i+1≤N:=by omega
        clear H14 HR
        go_wp2
        exact⟨⟨i+1,by trivial,by go_num,hi1,HF⟩,by simp[Go.RowKit.intOf];omega⟩
      ·have hge:¬((i:Int)<(N:Int)):=by omega
       have hiN:i=N:=by omega
       rw[show N-i=0 by omega] at hR
       have HCm:=gP (hC.calm (by omega) (show R.calmE=some R5 from hR))
       clear hC hR
       go_wp2_with fail
       refine HCm.o.L ?_
       rintro en w16 ⟨rfl,t16,W16,h16⟩
       have H16:Hid (∃q gH W,q≤1700∧Chd S w w16 g q gH B3 R5 W):=⟨_,_,_,by omega,h16⟩
       clear h16 HCm
       go_wp2_with fail
       have HV:Hid (∀(n:Nat) W,Calls prog 40 #[.int .i64 n] W fun en w'=>en=gX (.string (jq (j4 n)))∧Bl W w'):=fun n W=>Ca W n
       go_loopw [28] (fun iv wr=>∃k:Nat,iv= .int .i64 k∧k≤N∧Hid (∃q gH W,q≤1700∧Chd S w wr g q gH B3 R5 W)) (fun iv _=>N-(Go.RowKit.intOf iv).toNat)
       case atStart=>exact⟨0,rfl,Nat.zero_le _,H16.o⟩
       case round=>
        clear H16
        obtain⟨t,rfl,ht,HI⟩:=hrel
        obtain⟨q4,tg,Wq,hq4,hC⟩:=HI.o
        clear HI
        by_cases ja:t<N
        ·have hltI:(t:Int)<(N:Int):=by omega
         obtain⟨x,hx,hwh,hval⟩:=good_of HG.o ja
         obtain⟨iQ,hI⟩:∃iQ,N+2+t=iQ:=⟨_,rfl⟩
         obtain⟨M2,hM2⟩:∃M2,N+2=M2:=⟨_,rfl⟩
         rw[hI] at hx
         have hIl:=(List.getElem?_eq_some_iff.1 hx).1
         obtain⟨cb,cc,ta,tc,ra,rc,lg8,lcb,c7,hrv,d0,d1,d2,d3,d4,d5,d6,d7,d8,d9,da⟩:=hC.callC hx
         rw[hwh] at d8
         rw[hval] at da hrv
         generalize R5.gK.length=l1 at c7 hIl
         have e1:IntKind.i64.wrap ((N:Int)+2)=(M2:Int):=by rw[IntKind.wrap_i64];omega
         have e2:IntKind.i64.wrap ((M2:Int)+(t:Int))=(iQ:Int):=by rw[IntKind.wrap_i64];omega
         have hIlI:(iQ:Int)<(l1:Int):=by omega
         have hI0:(0:Int)≤(iQ:Int):=by omega
         generalize (x.a:Int)=x0 at d0
         generalize (x.b:Int)=x1 at d1
         generalize x.kind=x2 at d2
         generalize x.pos=x3 at d3
         generalize jq x.value=x4 at d4
         generalize x.d=x6 at d6
         generalize x.fin=x7 at d7
         generalize x.r.ad=x9 at d9
         generalize x.c.length=tn at d5
         obtain⟨len,hlen⟩:∃len,(j4 t).length=len:=⟨_,rfl⟩
         rw[hlen] at da hrv
         have Hrv:=gP hrv
         have HC:=gP hC
         clear hx hwh hval hI hM2 hrv hC hlen
         go_upto_region 47 with fail
         go_cut [29] from 220 to 229 (fun y wx=>∃gb,y= .pointer (some ⟨gb,0,none⟩)∧Hid (Bl wr wx∧wr.heap.size≤gb∧wx.heap[gb]?=some (im #[.int .i64 x0,.int .i64 x1,.int .i64 x2,.int .i64 x3,.string x4,gN ta tn tc,.int .i64 x6,.int .i64 x7,.int .i64 8,.int .i64 x9,gN ra len rc] 60 (0,0))))
         case first=>
          go_wp2_with fail
          go_meet
          exact⟨_,rfl,(Bl.refl wr).alloc _,Nat.le_refl _,heap_alloc_new _ _⟩
         case rest=>
         obtain⟨gb,rfl,HGb⟩:=hcut
         obtain⟨⟨y0,y1,y2,y3,y4,y5,y6,y7,y8,y9,y10⟩,lbx⟩:=mU HGb.o.2.2
         have HCb:=gP (HC.o.bl' HGb.o.1)
         have HRb:Hid (Sl wc (gN ra len rc) ((j4 t).map B8)):=Hrv.o.bl HGb.o.1
         clear HC HGb Hrv c7 d0 d1 d2 d3 d4 d5 d6 d7 d8 d9 da lg8 lcb y0 y1 y2 y3 y4 y5 y6 y7 y9 e1 e2 hIlI hI0 hIl
         have HV2:=gP (HV.o t)
         have kc:=kX _ (j4 t) _ HRb.o
         have kd:=fun n=>kX _ (j4 t) _ (HRb.o.bl ((Bl.refl wc).drewN n))
         have ke:=kX _ (j4 t) _ (HRb.o.bl (Bl.refl wc).drew)
         have HT:=gP HRb.o
         obtain⟨sv,hsv⟩:∃sv,jq (j4 t)=sv:=⟨_,rfl⟩
         have Hsv:=gP hsv
         rw[hsv] at HV2 kc ke
         simp only[hsv] at kd
         have Hz:=gP (And.intro y8 y10)
         clear hsv HRb
         go_upto_region 48 with fail
         go_cut [242] from 230 to 242 (fun y wx=>y= .bool false∧Hid (Bl wc wx))
         case first=>
          clear HCb
          go_region_with(go_at_call 40;refine(HV2.o _).L ?_;rintro en w7 ⟨rfl,hb7⟩;have hB:Bl wc w7:=Bl.H (by first|exact Bl.refl _|exact(Bl.refl _).drew|exact(Bl.refl _).drewN _) hb7;have z8:=(hB.cell lbx).H Hz.o.1;have z10:=(hB.cell lbx).H Hz.o.2;have xc:=kX _ (j4 t) _ (HT.o.bl hB);have xd:=fun n=>kX _ (j4 t) _ (HT.o.bl (hB.drewN n));rw[Hsv.o] at xc;simp only[Hsv.o] at xd;have HB7:=gP hB;clear hb7 hB)
          all_goals(go_wp2_with fail;go_meet)
          all_goals first|exact⟨rfl,HB7.o⟩|exact⟨rfl,HB7.o.drew⟩|exact⟨rfl,HB7.o.drewN _⟩
         case rest=>
         obtain⟨rfl,HB7⟩:=hcut
         have HF:Hid (∃q gH W,q≤1700∧Chd S w wc g q gH B3 R5 W):=⟨_,_,_,hq4,HCb.o.bl' HB7.o⟩
         clear HCb HB7 HV2 HT Hsv Hz kc kd ke y8 y10 lbx
         go_wp2
         exact⟨⟨t+1,by go_num,by omega,HF⟩,by simp[Go.RowKit.intOf];omega⟩
        ·have hge:¬((t:Int)<(N:Int)):=by omega
         have HO:=gP (hC.one (by omega))
         have HF:Hid (∀w2,Bl wr w2→Bl w w2):=fun w2 hb=>hC.bl.H hb
         clear hC
         go_wp2_with fail
         refine HO.o.L ?_
         rintro en w17 ⟨rfl,hb17⟩
         have HB17:=gP hb17
         clear hb17 HO
         go_wp2
         go_ret
         exact⟨rfl,HF.o _ HB17.o⟩
end Go.Proofs.YtbghhbpacijmmaaGreat
