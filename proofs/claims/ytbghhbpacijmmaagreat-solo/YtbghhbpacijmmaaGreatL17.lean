import Derived.Test.YtbghhbpacijmmaaGreatL16
open Go.Proofs.Tryz
namespace Go.Proofs.YtbghhbpacijmmaaGreat
set_option maxRecDepth 99999
set_option maxHeartbeats 0
set_option linter.defProp false
open Go.RowKit Go.Maps
attribute [local go_sem ↓] Go.wp_at_zero Go.wp_at_succ
def Dd (w:World) (a:Option Addr) (len:Nat):Prop:=∃b o,(0<len→a=some ⟨b,o,none⟩∧b<w.heap.size)∧∀j,j<len→∃kd bb:Int,w.cell? ⟨b,o+j*5,none⟩=some (.int .i64 kd)∧w.cell? ⟨b,o+j*5+2,none⟩=some (.int .i64 bb)∧Bb kd∧Bb bb
theorem Tryz.U0:(prog.info? 9).map (fun i=>(i.zero,i.size,i.bytes))=some (some (.string {data:=#[]}),1,16):=by kernel_rfl
theorem F7 (T:Nat):List.replicate T (Value.string {data:=#[]})=wg T (fun _=>no):=by
 apply List.ext_getElem
 ·simp[wg]
 ·intro i h1 h2
  simp[wg,ou,no,ik]
  rfl
theorem MC (c u vv s:Int) (a:Option Addr) (len cap:Nat) (w:World) (h1:Bb c) (h2:Bb u) (h3:Bb vv) (h4:Bb s) (hD:Dd w a len):
 Calls prog 8 #[.int .i64 c,.int .i64 u,.int .i64 vv,.int .i64 s,dk a len cap] w fun e w'=>e=gG (.bool true)∧Bl w w':=by
 obtain⟨i9,hi9,hz0,hz1,hz2⟩:=info_parts Tryz.U0
 have r1:=kI c 3 (by decide)
 have r2:=kI u 3 (by decide)
 have r3:=kI vv 3 (by decide)
 have r4:=kI s 5 (by decide)
 obtain⟨n,hn⟩:∃n:Nat,1+pk c 3=n:=⟨(1+pk c 3).toNat,by omega⟩
 obtain⟨m,hm⟩:∃n:Nat,1+pk u 3=n:=⟨(1+pk u 3).toNat,by omega⟩
 obtain⟨v,hv⟩:∃n:Nat,1+2*pk vv 3=n:=⟨(1+2*pk vv 3).toNat,by omega⟩
 obtain⟨ce,hce⟩:∃n:Nat,1+pk s 5=n:=⟨(1+pk s 5).toNat,by omega⟩
 have hf:mI n m v ce=true:=by simp[mI];omega
 have ft:=qG (a:=(n:Int)) (d:=(ce:Int)) (by omega) (by omega) (by omega) (by omega)
 obtain⟨T,hTn⟩:∃T:Nat,n*ce=T:=⟨_,rfl⟩
 have hT:(n:Int)*ce=(T:Int):=by rw[←hTn,Int.natCast_mul]
 have HTn:=fu hTn
 have hT1:1≤T∧T≤48:=by omega
 have HSe:=fu (fun w=>BG c u vv s w h1 h2 h3 h4)
 rw[hn,hm,hv,hce] at HSe
 have hby:Hid (i9.bytes*T≤281474976710656):=by rw[hz2];unfold Hid;omega
 have hml:Hid (T≤maxLen):=by unfold Hid maxLen;omega
 have Hf:=fu hf
 have HT:=fu hT
 have HD:=fu hD
 clear h1 h2 h3 h4 r1 r2 r3 r4 hn hm hv hce hf ft hT hTn hD
 go_enter func8,ntmps8
 go_wp2_with fail
 refine(HSe.o _).L ?_
 rintro en w1 ⟨rfl,hb1⟩
 go_wp2_with fail
 refine(MZ Hf.o w1).L ?_
 rintro en w2 ⟨g,rfl,hb2,aY,cv0,ht,hX⟩
 have HX:=fu hX
 have Hb:=fu (hb1.H hb2)
 have htt:Hid (∀b,b<w.heap.size→aY b=0):=fun b hb=>ht b (Nat.lt_of_lt_of_le hb hb1.lt)
 clear hX hb1 hb2 ht
 go_wp2_with fail
 refine HX.o.lH.L ?_
 rintro en w3 ⟨rfl,hb3⟩
 rw[HT.o]
 have HX3:=fu (HX.o.bl (bp:=aY) hb3 fun _ _=>rfl)
 have HB3:=fu (Hb.o.H hb3)
 clear hb3 HX Hb
 go_wp2_with(at_make;refine wpList_make_full _ rfl _ _ 54 rfl w3.heap.size 9 i9 _ 1 underlying54 hi9 hz0 hz1 _ _ _ _ T rfl rfl rfl rfl hby.o hml.o (Nat.le_refl _) ?_)
 intro w4 hown hgrow
 have HS0:Hid (rU w w3.heap.size T w4 (gN aY w3.heap.size 0) g 1 cv0 (Wd.start n m v ce) (fun _=>no)):=by
  have hbl:Bl w3 w4:=(bz.B hgrow).qp (by simp)
  have iV:=HB3.o.lt
  refine⟨HB3.o.H hbl,fun b hb=>by rw[fz _ _ _ _ (by omega)];exact htt.o b hb,HX3.o.bl hbl fun b hb=>fz _ _ _ _ hb,⟨?_,fun b hb=> ?_⟩,iV⟩
  ·have e:=hown
   rw[toList_madeCells_one,F7] at e
   exact gL e fun b _=>Nat.zero_le _
  ·have e:w3.heap.size=b:=by simpa [Value.ownBlock] using hb
   rw[←e];exact ig _ _ _ _ (Nat.le_refl _)
 clear hown hgrow HX3 HB3 htt hby hml hz0 hz1 hz2 hi9
 obtain⟨lg,hlg⟩:∃lg,w3.heap.size=lg:=⟨_,rfl⟩
 rw[hlg] at HS0⊢
 clear hlg
 go_wp2
 go_loopw [15,16,17] (fun mk nx iv W=>∃(i x:Nat) (mark:Int),mk= .int .i64 mark∧nx= .int .i64 x∧iv= .int .i64 i∧i≤30∧x≤T∧Hid (∃L aY cv K,rU w lg T W aY g (110*i+1) cv K L∧Ps n m v ce i K L mark)) (fun _ _ iv _=>30-(Go.RowKit.intOf iv).toNat)
 case atStart=>exact⟨0,0,0,rfl,rfl,rfl,by omega,by omega,⟨_,_,_,_,HS0.o,Od Hf.o⟩⟩
 case round=>
  clear HS0
  obtain⟨i,x,mark,rfl,rfl,rfl,hi30,hxT,HI⟩:=hrel
  by_cases hgo:i<len∧i<30
  ·obtain⟨hil,hi3⟩:=hgo
   have hilI:(i:Int)<(len:Int):=by omega
   have hi3I:(i:Int)<30:=by omega
   obtain⟨db,dof,hda,hdd⟩:=HD.o
   obtain⟨kd,bb,e0,e2,hkd,hbb⟩:=hdd i hil
   obtain⟨rfl,ldb⟩:=hda (by omega)
   obtain⟨L,tagi,cvi,K,hS,hP⟩:=HI.o
   have d0:=(hS.bl.cell ldb).H e0
   have d2:=(hS.bl.cell ldb).H e2
   have ldr:db<wr.heap.size:=Nat.lt_of_lt_of_le ldb hS.bl.lt
   have hTT:=HT.o
   have HPk:=fu (fun W=>kQ kd 4 W hkd.1 hkd.2 (by decide) (by decide))
   have hkr:=kI kd 4 (by decide)
   obtain⟨k0,hk0⟩:∃k0,pk kd 4=k0:=⟨_,rfl⟩
   rw[hk0] at HPk hkr
   obtain⟨kk,hkk⟩:∃kk,1+k0=kk:=⟨_,rfl⟩
   have hwk:IntKind.i64.wrap (1+k0)=kk:=by rw[IntKind.wrap_i64];omega
   have hkk4:Hid (kk=1∨kk=2∨kk=3∨kk=4):=by unfold Hid;omega
   have har:=kI bb (n*ce) (by omega)
   obtain⟨aa,haa⟩:∃aa:Nat,pk bb (n*ce)=aa:=⟨(pk bb (n*ce)).toNat,by omega⟩
   have haT:aa<T:=by omega
   have HPa:=fu (fun W=>kQ bb T W hbb.1 hbb.2 (by omega) (by omega))
   rw[←hTT,haa,hTT] at HPa
   have HCa:=fu (Ju (k:=kk) hS.sw (by omega) hP hbb haa hkk4.o)
   have HS:=fu hS
   have HP:=fu hP
   have HL:=fu hP.ok
   have Hbb:=fu hbb
   have Hd2:=fu (And.intro e2 ldb)
   clear e0 e2 hkd hbb hS hP hTT hk0 hkk hkr har haa hda hdd hil HI
   go_wp2_with fail
   refine(HPk.o _).L ?_
   rintro en w' ⟨rfl,hw⟩
   have hw:=hw.symm
   subst hw
   go_wp2_with fail
   refine(HPa.o _).L ?_
   rintro en w' ⟨rfl,hw⟩
   have hw:=hw.symm
   subst hw
   clear hwk
   go_wp2_with fail
   refine HCa.o.L ?_
   rintro en w5 ⟨rfl,tag5,k5,cv5,K5,hs5,hK5⟩
   have hS5:=HS.o.step k5 (by unfold Pc Pg;omega) hs5
   obtain⟨lg5,cb,cc,hcv,lcb,c7⟩:=hs5.E hK5.len (by omega)
   subst hcv
   have hd2':=(hS5.bl.cell Hd2.o.2).H Hd2.o.1
   have ldr5:db<w5.heap.size:=Nat.lt_of_lt_of_le Hd2.o.2 hS5.bl.lt
   have HS5:=fu hS5
   have HK5:=fu hK5
   clear k5 hs5 hK5 hS5 d0 d2 ldr HCa HPk HPa HS HP
   go_upto_region 16 with fail
   go_quiet(fail)
   obtain⟨W6,hW6⟩:∃W6,w5.drewN nq=W6:=⟨_,rfl⟩
   have b6:Bl w5 W6:=by rw[←hW6];exact(Bl.refl _).drewN _
   rw[hW6]
   have hW:=(Bl.refl W6).alloc (gO #[.int .i64 1,.int .i64 0,dk none 0 0] 43)
   have hnew:=heap_alloc_new W6 (gO #[.int .i64 1,.int .i64 0,dk none 0 0] 43)
   obtain⟨W7,hW7⟩:∃W7,W6.alloc (gO #[.int .i64 1,.int .i64 0,dk none 0 0] 43)=W7:=⟨_,rfl⟩
   rw[hW7] at hW hnew
   have HW7:=fu hW7
   have HB7:=fu (b6.H hW)
   have Hnew:=fu hnew
   have HS6:=fu (HS5.o.TK (bp:=tag5) b6 fun _ _=>rfl)
   have l67:Hid (w5.heap.size≤W6.heap.size):=b6.lt
   clear hW hnew hW7 hW6 b6 c7 lg5 lcb hd2' ldr5
   go_upto_block 2 with fail
   rw[HW7.o]
   obtain⟨wb,hwb⟩:∃wb,W6.heap.size=wb:=⟨_,rfl⟩
   have hS7:=HS6.o.TK (bp:=gN tag5 W6.heap.size 0) (HW7.o▸(Bl.refl W6).alloc _) fun b hb=>fz _ _ _ _ hb
   have ht7:gN tag5 W6.heap.size 0 W6.heap.size=0:=ig _ _ _ _ (Nat.le_refl _)
   have hbw:w.heap.size≤W6.heap.size:=HS6.o.bl.lt
   rw[hwb] at Hnew hS7 ht7 hbw⊢
   obtain⟨tag7,htag7⟩:∃tag7,gN tag5 wb 0=tag7:=⟨_,rfl⟩
   rw[htag7] at hS7 ht7
   have HS7:=fu hS7
   have HB7:=fu (And.intro Hnew.o (And.intro ht7 hbw))
   obtain⟨cv,hcv⟩:∃cv,dk (some ⟨cb,0,none⟩) (i+1) cc=cv:=⟨_,rfl⟩
   rw[hcv] at HS7
   have Hcv:=fu hcv
   clear hS7 ht7 hbw htag7 hwb HS5 HS6 Hnew HW7 l67 hcv
   go_cut [12,15,16,22] from 89 to 189 (fun ok mk nx st wx=>∃(x':Nat) (mark':Int),ok= .bool true∧mk= .int .i64 mark'∧nx= .int .i64 x'∧x'≤T∧Hid (∃L2 tag2 K2 r,rU w lg T wx tag2 g (110*i+100) cv K2 L2∧Wb w wx tag2 wb r∧Next K2 (GP n m v ce i L2 mark' r)))
   case first=>
    rcases hkk4.o with hk1|hk1|hk1|hk1
    ·subst hk1
     have hA1:=HK5.o.app rfl
     have HI1:Hid (∃tag2 K2,rU w lg T W7 tag2 g (110*i+2+2*x) cv K2 L∧(W7.heap[wb]?=some (gO #[.int .i64 1,.int .i64 0,dk none 0 0] 43 (0,0))∧tag2 wb=0)∧Aw n m v ce i L mark K2):=⟨tag7,K5,HS7.o.L (by omega),⟨HB7.o.1,HB7.o.2.1⟩,hA1⟩
     have HwB:=fu HB7.o.2.2
     clear hA1 HS7 HB7 HK5
     go_wp2_with fail
     go_loopw [16] (fun nx W=>∃y:Nat,nx= .int .i64 y∧y≤T∧Hid (∃tag2 K2,rU w lg T W tag2 g (110*i+2+2*y) cv K2 L∧(W.heap[wb]?=some (gO #[.int .i64 1,.int .i64 0,dk none 0 0] 43 (0,0))∧tag2 wb=0)∧Aw n m v ce i L mark K2)) (fun nx _=>T-(Go.RowKit.intOf nx).toNat)
     case atStart=>exact⟨x,rfl,hxT,HI1⟩
     case round=>
      clear HI1
      obtain⟨y,rfl,hyT,HI⟩:=hrel
      obtain⟨tag2,K2,hS,hB,hA⟩:=HI.o
      have HS:=fu hS
      have HB:=fu hB
      have HA:=fu hA
      clear HI hS hB hA
      obtain⟨tk,htk⟩:∃tk,tk=decide (y<T∧((L y).kd≠0∨(y:Int)<mark)):=⟨_,rfl⟩
      have Htk:=fu htk
      clear htk
      go_upto_region 23 with fail
      go_cut [130] from 116 to 130 (fun b wx=>b= .bool tk∧Hid (wx=wr))
      case first=>
       by_cases hyl:y<T
       ·have hylI:(y:Int)<(T:Int):=by omega
        have l0:=HS.o.logAt hyl
        have llg:=HS.o.yS
        by_cases hk0:(L y).kd=0
        ·rw[(su HL.o y).2 hk0,show ik []=({data:=#[]}:ByteArray) from rfl] at l0
         have Hk0:=fu hk0
         clear hk0
         by_cases iV:(y:Int)<mark
         ·have e:tk=true:=Htk.o.H (decide_eq_true ⟨hyl,.inr iV⟩)
          subst e
          go_wp2_with fail
          go_meet
          exact⟨rfl,rfl⟩
         ·have e:tk=false:=Htk.o.H (decide_eq_false fun e=>e.2.elim (fun e=>e Hk0.o) iV)
          subst e
          go_wp2_with fail
          go_meet
          exact⟨by first|rfl|simp[iV],rfl⟩
        ·have e:tk=true:=Htk.o.H (decide_eq_true ⟨hyl,.inl hk0⟩)
         subst e
         obtain⟨n1,n2⟩:=IC (uZ HL.o y) (fun e=>hk0 ((su HL.o y).1 e))
         generalize ik (ou L y)=sv at*
         clear hk0
         go_wp2_with fail
         go_meet
         exact⟨by first|rfl|simp[n2],rfl⟩
       ·have hylI:¬(y:Int)<(T:Int):=by omega
        have e:tk=false:=Htk.o.H (decide_eq_false fun e=>hyl e.1)
        subst e
        go_wp2_with fail
        go_meet
        exact⟨rfl,rfl⟩
      case rest=>
       obtain⟨rfl,hw⟩:=hcut
       have hw':=hw.o.symm
       subst hw'
       clear hw
       cases tk
       ·have hno:¬(y<T∧((L y).kd≠0∨(y:Int)<mark)):=of_decide_eq_false Htk.o.symm
        clear Htk
        by_cases hyl:y<T
        ·as_aux_lemma=>
          have hylI:(y:Int)<(T:Int):=by omega
          have hk0:(L y).kd=0:=Classical.byContradiction fun e=>hno ⟨hyl,.inl e⟩
          have iV:¬(y:Int)<mark:=fun e=>hno ⟨hyl,.inr e⟩
          have HDo:=fu (Jl HS.o.sw (by omega) HA.o (by rw[HTn.o];omega) iV hk0)
          clear hno hk0 iV
          go_wp2_with fail
          refine HDo.o.L ?_
          rintro en w8 ⟨rfl,tag8,k8,K8,hs8,⟨hl8,c8,hc8,hv8⟩,hN8⟩
          have hS8:=HS.o.step k8 (by unfold Pc Pg;omega) hs8
          have hB8:=k8.heap HB.o.1 HB.o.2 (by unfold Pc Pg;omega)
          rw[←Hcv.o] at hs8
          obtain⟨⟨lg8,c7,lcb8⟩,ta8,tc8,ra8,rc8,⟨_,_,_,_,d4,_⟩,_⟩:=hs8.call hl8 hc8
          rw[hv8] at d4
          have llg:=hS8.yS
          have l0:=hS8.logAt hyl
          have f0:=hS8.OD (by omega) y
          have hS9:=hS8.log y ⟨8,iM 0,i,je i⟩ (s:=je i) rfl
          have hB9:=(Below.heap_setCell w8 ⟨lg,y,none⟩ (.string (ik (je i))) wb (hS8.ne hB8.1)).H hB8.1
          obtain⟨sv,hsv⟩:∃sv,ik (je i)=sv:=⟨_,rfl⟩
          rw[hsv] at d4 hS9 hB9
          obtain⟨W9,hW9⟩:∃W9,w8.setCell ⟨lg,y,none⟩ (.string sv)=W9:=⟨_,rfl⟩
          rw[hW9] at hS9 hB9
          have HW9:=fu hW9
          have HX:=fu (hS9.Ub hB9 hB8.2 HwB.o y)
          have HB9:=fu hB9
          have HN8:=fu hN8
          clear hW9 hS8 hB8 hS9 hB9 hsv hN8 hl8 hc8 hv8 k8 hs8 HDo HS HB HA
          go_upto_region 32 with fail
          rw[HW9.o]
          clear l0 f0 llg d4 c7 lg8 lcb8
          have y1:=cell_of_row W9 wb 1 _ 43 (0,0) HB9.o
          have z1:=frozen_of_row W9 wb 1 _ 43 HB9.o
          have lw9:wb<W9.heap.size:=(Array.getElem?_eq_some_iff.1 HB9.o).1
          go_wp2_with fail
          go_meet
          exact⟨y+1,mark,rfl,rfl,by go_num,by omega,⟨_,tag8,K8,_,HX.o.1.L (by omega),HX.o.2,HN8.o⟩⟩
        ·as_aux_lemma=>
          have hylI:¬(y:Int)<(T:Int):=by omega
          have HDo:=fu (Bq (t:=(y:Int)) HS.o.sw (by omega) HA.o (by rw[HTn.o];omega))
          clear hno
          go_wp2_with fail
          refine HDo.o.L ?_
          rintro en w8 ⟨rfl,tag8,k8,K8,hs8,hl8,hN8⟩
          have hS8:=HS.o.step k8 (by unfold Pc Pg;omega) hs8
          have hB8:=k8.heap HB.o.1 HB.o.2 (by unfold Pc Pg;omega)
          have HX:=fu (hS8.Uw hB8.1 hB8.2 HwB.o)
          have y0:=cell_of_row w8 wb 0 _ 43 (0,0) hB8.1
          have z0:=frozen_of_row w8 wb 0 _ 43 hB8.1
          have lw8:wb<w8.heap.size:=(Array.getElem?_eq_some_iff.1 hB8.1).1
          have HN8:=fu hN8
          clear hS8 hB8 hN8 hl8 k8 hs8 HDo HS HB HA
          go_wp2_with fail
          go_meet
          exact⟨y,mark,rfl,rfl,rfl,hyT,⟨L,tag8,K8,_,HX.o.1.L (by omega),HX.o.2,HN8.o⟩⟩
       ·as_aux_lemma=>
         have hh:y<T∧((L y).kd≠0∨(y:Int)<mark):=of_decide_eq_true Htk.o.symm
         have hyl:=hh.1
         have HAg:=fu (FD HS.o.sw (by omega) HA.o (by rw[HTn.o];omega) hh.2.symm)
         clear hh Htk
         go_wp2_with fail
         refine HAg.o.L ?_
         rintro en w8 ⟨rfl,tag8,k8,K8,hs8,hN8⟩
         have HS8:=fu (HS.o.step k8 (by unfold Pc Pg;omega) hs8)
         have HB8:=fu (k8.heap HB.o.1 HB.o.2 (by unfold Pc Pg;omega))
         have HBt:=fu (wi hs8 (by omega) hN8)
         clear k8 hs8 hN8 HAg HS HB HA
         go_wp2_with fail
         refine HBt.o.L ?_
         rintro en w9 ⟨rfl,tag9,k9,K9,hA9,hs9⟩
         have hS9:=HS8.o.step k9 (by unfold Pw;omega) hs9
         have hB9:=k9.heap HB8.o.1 HB8.o.2 (by unfold Pw;omega)
         obtain⟨hl9,c9,hc9,hf9⟩:=hA9.open
         rw[←Hcv.o] at hs9
         obtain⟨⟨lg9,c7,lcb9⟩,ta9,tc9,ra9,rc9,⟨_,_,_,_,_,_,_,d7,_⟩,_⟩:=hs9.call hl9 hc9
         rw[hf9] at d7
         have HS9:=fu (And.intro hS9 (And.intro hB9 hA9))
         clear hS9 hB9 hA9 hl9 hc9 hf9 hs9 k9 HS8 HB8 HBt
         go_upto_region 27 with fail
         go_quiet(fail)
         go_wp2
         exact⟨⟨y+1,by go_num,by omega,⟨tag9,K9,(HS9.o.1.TK (bp:=tag9) ((Bl.refl _).drewN _) fun _ _=>rfl).L (by omega),⟨(((Bl.refl w9).drewN _).heap (Array.getElem?_eq_some_iff.1 HS9.o.2.1.1).1).H HS9.o.2.1.1,HS9.o.2.1.2⟩,HS9.o.2.2⟩⟩,by simp[Go.RowKit.intOf];omega⟩
    ·as_aux_lemma=>
      subst hk1
      have l0:=HS7.o.logAt haT
      have Hby:Hid (∀d∈(ou L aa),0≤d∧d≤255):=uZ HL.o aa
      have llg:=HS7.o.yS
      have HSe2:=fu (fun W=>zD (ou L aa) (decide ((aa:Int)<mark)) Hby.o W)
      obtain⟨sv,hsv⟩:∃sv,ik (ou L aa)=sv:=⟨_,rfl⟩
      rw[hsv] at HSe2 l0
      obtain⟨r,hr⟩:∃r,oy (ou L aa) (decide ((aa:Int)<mark))=r:=⟨_,rfl⟩
      rw[hr] at HSe2
      have Hr:=fu hr
      clear hsv hr
      go_wp2_with fail
      refine(HSe2.o _).L ?_
      rintro en w8 ⟨ra,rc,rfl,hb8,hsl,hnw⟩
      have lwb:wb<W7.heap.size:=(Array.getElem?_eq_some_iff.1 HB7.o.1).1
      have hbx:=(hb8.heap lwb).H HB7.o.1
      have y0:=cell_of_row w8 wb 0 _ 43 (0,0) hbx
      have y1:=cell_of_row w8 wb 1 _ 43 (0,0) hbx
      have y2:=cell_of_row w8 wb 2 _ 43 (0,0) hbx
      have z0:=frozen_of_row w8 wb 0 _ 43 hbx
      have z1:=frozen_of_row w8 wb 1 _ 43 hbx
      have z2:=frozen_of_row w8 wb 2 _ 43 hbx
      have lw8:wb<w8.heap.size:=Nat.lt_of_lt_of_le lwb hb8.lt
      have hS8:=HS7.o.TK (bp:=gN tag7 W7.heap.size 0) hb8 fun b hb=>fz _ _ _ _ hb
      have HX:=fu (hS8.want hbx ((fz _ _ _ _ lwb).H HB7.o.2.1) HB7.o.2.2 hsl fun b hb=>⟨ig _ _ _ _ (hnw b hb).1,(hnw b hb).2,by have:=(hnw b hb).1;omega⟩)
      clear hS8 hbx hsl hnw hb8
      go_wp2_with fail
      have hX:=HX.o
      rw[show r.ad=0 by rw[←Hr.o];exact zE _ _] at hX
      go_meet
      exact⟨x,mark,rfl,rfl,rfl,hxT,⟨L,_,K5,r,hX.1.L (by omega),hX.2,by rw[←Hr.o];exact HK5.o.yU rfl⟩⟩
    ·as_aux_lemma=>
      subst hk1
      by_cases hfl:(L aa).kd=0∧mark≤(aa:Int)
      ·have l0:=HS7.o.logAt haT
       rw[(su HL.o aa).2 hfl.1,show ik []=({data:=#[]}:ByteArray) from rfl] at l0
       have llg:=HS7.o.yS
       have f0:=HS7.o.OD (by omega) aa
       have hge:mark≤(aa:Int):=hfl.2
       have Hfl:=fu hfl
       have hS8:=HS7.o.log aa ⟨9,iM 0,i,[]⟩ (s:=[106]) rfl
       have hs106:ik [106]=({data:=#[106]}:ByteArray):=rfl
       rw[hs106] at hS8
       have Hs106:=fu hs106
       have hb8:(W7.setCell ⟨lg,aa,none⟩ (.string {data:=#[106]})).heap[wb]?=some (gO #[.int .i64 1,.int .i64 0,dk none 0 0] 43 (0,0)):=(Below.heap_setCell _ _ _ _ (HS7.o.ne HB7.o.1)).H HB7.o.1
       obtain⟨W8,hW8⟩:∃W8,W7.setCell ⟨lg,aa,none⟩ (.string {data:=#[106]})=W8:=⟨_,rfl⟩
       rw[hW8] at hS8 hb8
       have HS8:=fu hS8
       have HB8:=fu (And.intro hb8 HB7.o.2)
       have HW8:=fu hW8
       have hll:Hid (nT L aa ⟨9,iM 0,i,[]⟩=LN L mark aa i):=by
        unfold Hid LN
        rw[if_pos ⟨by omega,Hfl.o.1⟩]
       have hls:ou (nT L aa ⟨9,iM 0,i,[]⟩) aa=[106]:=by simp[ou,nT]
       have Hls:=fu hls
       clear hfl hS8 hb8 hW8 hs106 hls
       go_upto_region 21 with fail
       rw[HW8.o]
       clear l0 f0 llg hge
       have l0:=HS8.o.logAt haT
       rw[Hls.o] at l0
       have Hby:Hid (∀d∈([106]:List Int),0≤d∧d≤255):=fun d hd=>by simp at hd;omega
       have llg:=HS8.o.yS
       have HSe2:=fu (fun W=>zD ([106]:List Int) (decide ((aa:Int)<mark)) Hby.o W)
       obtain⟨sv,hsv⟩:∃sv,ik ([106]:List Int)=sv:=⟨_,rfl⟩
       rw[hsv] at HSe2 l0
       obtain⟨r,hr⟩:∃r,oy ([106]:List Int) (decide ((aa:Int)<mark))=r:=⟨_,rfl⟩
       rw[hr] at HSe2
       have Hr:=fu hr
       clear hsv hr
       go_wp2_with fail
       refine(HSe2.o _).L ?_
       rintro en w8 ⟨ra,rc,rfl,hb8,hsl,hnw⟩
       have lwb:wb<W8.heap.size:=(Array.getElem?_eq_some_iff.1 HB8.o.1).1
       have hbx:=(hb8.heap lwb).H HB8.o.1
       have y0:=cell_of_row w8 wb 0 _ 43 (0,0) hbx
       have y1:=cell_of_row w8 wb 1 _ 43 (0,0) hbx
       have y2:=cell_of_row w8 wb 2 _ 43 (0,0) hbx
       have z0:=frozen_of_row w8 wb 0 _ 43 hbx
       have z1:=frozen_of_row w8 wb 1 _ 43 hbx
       have z2:=frozen_of_row w8 wb 2 _ 43 hbx
       have lw8:wb<w8.heap.size:=Nat.lt_of_lt_of_le lwb hb8.lt
       have hS8:=HS8.o.TK (bp:=gN tag7 W8.heap.size 0) hb8 fun b hb=>fz _ _ _ _ hb
       have HX:=fu (hS8.want hbx ((fz _ _ _ _ lwb).H HB8.o.2.1) HB8.o.2.2 hsl fun b hb=>⟨ig _ _ _ _ (hnw b hb).1,(hnw b hb).2,by have:=(hnw b hb).1;omega⟩)
       clear hS8 hbx hsl hnw hb8
       go_wp2_with fail
       have hX:=HX.o
       rw[show r.ad=0 by rw[←Hr.o];exact zE _ _] at hX
       go_meet
       exact⟨x,mark,rfl,rfl,rfl,hxT,⟨_,_,K5,r,hX.1.L (by omega),hX.2,by rw[←Hr.o,←Hls.o];exact HK5.o.fill rfl _ hll.o⟩⟩
      ·have hLL:Hid (L=LN L mark aa i):=by
        unfold Hid LN
        rw[if_neg (fun e=>hfl ⟨e.2,by have:=e.1;omega⟩)]
       have l0:=HS7.o.logAt haT
       have llg:=HS7.o.yS
       have Hfl:=fu hfl
       clear hfl
       go_upto_region 19 with fail
       go_cut [102] from 89 to 102 (fun b wx=>b= .bool false∧Hid (wx=W7))
       case first=>
        by_cases hk0:(L aa).kd=0
        ·rw[(su HL.o aa).2 hk0,show ik []=({data:=#[]}:ByteArray) from rfl] at l0
         have iV:(aa:Int)<mark:=Classical.byContradiction fun e=>Hfl.o ⟨hk0,by omega⟩
         have hlt2:¬mark≤(aa:Int):=by omega
         have hlt3:decide (mark≤(aa:Int))=false:=by simpa using iV
         clear hk0
         go_wp2_with fail
         go_meet
         exact⟨by first|rfl|simp[hlt3],rfl⟩
        ·obtain⟨n1,n2⟩:=IC (uZ HL.o aa) (fun e=>hk0 ((su HL.o aa).1 e))
         generalize ik (ou L aa)=sv at*
         clear hk0
         go_wp2_with fail
         go_meet
         exact⟨by first|rfl|simp[n2],rfl⟩
       case rest=>
        obtain⟨rfl,hw⟩:=hcut
        have hw':=hw.o.symm
        subst hw'
        clear llg
        have Hby:Hid (∀d∈(ou L aa),0≤d∧d≤255):=uZ HL.o aa
        have llg:=HS7.o.yS
        have HSe2:=fu (fun W=>zD (ou L aa) (decide ((aa:Int)<mark)) Hby.o W)
        obtain⟨sv,hsv⟩:∃sv,ik (ou L aa)=sv:=⟨_,rfl⟩
        rw[hsv] at HSe2 l0
        obtain⟨r,hr⟩:∃r,oy (ou L aa) (decide ((aa:Int)<mark))=r:=⟨_,rfl⟩
        rw[hr] at HSe2
        have Hr:=fu hr
        clear hsv hr
        go_wp2_with fail
        refine(HSe2.o _).L ?_
        rintro en w8 ⟨ra,rc,rfl,hb8,hsl,hnw⟩
        have lwb:wb<W7.heap.size:=(Array.getElem?_eq_some_iff.1 HB7.o.1).1
        have hbx:=(hb8.heap lwb).H HB7.o.1
        have y0:=cell_of_row w8 wb 0 _ 43 (0,0) hbx
        have y1:=cell_of_row w8 wb 1 _ 43 (0,0) hbx
        have y2:=cell_of_row w8 wb 2 _ 43 (0,0) hbx
        have z0:=frozen_of_row w8 wb 0 _ 43 hbx
        have z1:=frozen_of_row w8 wb 1 _ 43 hbx
        have z2:=frozen_of_row w8 wb 2 _ 43 hbx
        have lw8:wb<w8.heap.size:=Nat.lt_of_lt_of_le lwb hb8.lt
        have hS8:=HS7.o.TK (bp:=gN tag7 W7.heap.size 0) hb8 fun b hb=>fz _ _ _ _ hb
        have HX:=fu (hS8.want hbx ((fz _ _ _ _ lwb).H HB7.o.2.1) HB7.o.2.2 hsl fun b hb=>⟨ig _ _ _ _ (hnw b hb).1,(hnw b hb).2,by have:=(hnw b hb).1;omega⟩)
        clear hS8 hbx hsl hnw hb8
        go_wp2_with fail
        have hX:=HX.o
        rw[show r.ad=0 by rw[←Hr.o];exact zE _ _] at hX
        go_meet
        exact⟨x,mark,rfl,rfl,rfl,hxT,⟨L,_,K5,r,hX.1.L (by omega),hX.2,by rw[←Hr.o];exact HK5.o.fill rfl L hLL.o⟩⟩
    ·as_aux_lemma=>
      subst hk1
      have d2:=(HS7.o.bl.cell Hd2.o.2).H Hd2.o.1
      have ldr:db<W7.heap.size:=Nat.lt_of_lt_of_le Hd2.o.2 HS7.o.bl.lt
      have hTT:=HT.o
      have HPm:=fu (fun W=>kQ bb (T+1) W Hbb.o.1 Hbb.o.2 (by omega) (by omega))
      obtain⟨pm,hpm⟩:∃pm,pk bb (n*ce+1)=pm:=⟨_,rfl⟩
      rw[←hTT,hpm,hTT] at HPm
      have hpr:=kI bb (n*ce+1) (by omega)
      rw[hpm] at hpr
      have hw1:IntKind.i64.wrap ((T:Int)+1)=T+1:=by rw[IntKind.wrap_i64];omega
      have Hpm:=fu hpm
      clear hTT hpm
      go_wp2_with fail
      refine(HPm.o _).L ?_
      rintro en w' ⟨rfl,hw⟩
      have hw:=hw.symm
      subst hw
      go_wp2_with fail
      go_meet
      exact⟨x,max mark pm,rfl,rfl,rfl,hxT,⟨L,tag7,K5,⟨1,0,[]⟩,HS7.o.L (by omega),⟨none,0,HB7.o.1,HB7.o.2.1,HB7.o.2.2,.inl ⟨_,_,rfl,rfl⟩,fun b hb=>by simp[Value.ownBlock] at hb⟩,by rw[←Hpm.o];exact HK5.o.rV rfl⟩⟩
   case rest=>
    as_aux_lemma=>
     obtain⟨x',mark',rfl,rfl,rfl,hx'T,HJ⟩:=hcut
     obtain⟨L2,tag2,K2,r,hS,hWb,hN⟩:=HJ.o
     have HBt:=fu (wi hS.sw (by omega) hN)
     have HS:=fu hS
     have HWb:=fu hWb
     clear HJ hS hWb hN HS7 HB7 HK5 HL
     go_wp2_with fail
     refine HBt.o.L ?_
     rintro en w9 ⟨rfl,tag9,k9,K9,hTh,hs9⟩
     have HS9:=fu (HS.o.step k9 (by unfold Pw;omega) hs9)
     have HWb9:=fu (HWb.o.step k9 (by unfold Pw;omega))
     obtain⟨hPs,c9,hc9,hf9,rfl⟩:=hTh
     rw[←Hcv.o] at hs9
     obtain⟨⟨lg9,c7,lcb9⟩,ta9,tc9,ra9,rc9,⟨d0,d1,d2,d3,d4,d5,d6,d7,d8,d9,d10⟩,hsl9⟩:=hs9.call hPs.len hc9
     have HPs:=fu hPs
     have Hsl9:=fu hsl9
     clear hPs hsl9 hs9 k9 HBt HS HWb hc9
     go_upto_region 38 with fail
     go_cut [24] from 192 to 203 (fun y wx=>∃rb,y= .pointer (some ⟨rb,0,none⟩)∧Hid (Bl w9 wx∧wx.heap[rb]?=some (gO #[.int .i64 c9.a,.int .i64 c9.b,.int .i64 c9.kind,.int .i64 c9.pos,.string (ik c9.value),dk ta9 c9.c.length tc9,.int .i64 c9.d,.int .i64 c9.fin,.int .i64 c9.r.wh,.int .i64 c9.r.ad,dk ra9 c9.r.val.length rc9] 60 (0,0))))
     case first=>
      obtain⟨l1,hl1⟩:∃l1,i+1=l1:=⟨_,rfl⟩
      rw[hl1] at c7
      have hix:IntKind.i64.wrap ((l1:Int)-1)=i:=by rw[IntKind.wrap_i64];omega
      have hix2:(i:Int)<(l1:Int):=by omega
      have hix3:(0:Int)≤(i:Int):=by omega
      clear hl1
      go_region_held3(fun W=>W.cell? ⟨g,7,none⟩=some (dk (some ⟨cb,0,none⟩) l1 cc)∧W.cell? ⟨cb,i*11,none⟩=some (.int .i64 c9.a)∧W.cell? ⟨cb,i*11+1,none⟩=some (.int .i64 c9.b)∧W.cell? ⟨cb,i*11+2,none⟩=some (.int .i64 c9.kind)∧W.cell? ⟨cb,i*11+3,none⟩=some (.int .i64 c9.pos)∧W.cell? ⟨cb,i*11+4,none⟩=some (.string (ik c9.value))∧W.cell? ⟨cb,i*11+5,none⟩=some (dk ta9 c9.c.length tc9)∧W.cell? ⟨cb,i*11+6,none⟩=some (.int .i64 c9.d)∧W.cell? ⟨cb,i*11+7,none⟩=some (.int .i64 c9.fin)∧W.cell? ⟨cb,i*11+8,none⟩=some (.int .i64 c9.r.wh)∧W.cell? ⟨cb,i*11+9,none⟩=some (.int .i64 c9.r.ad)∧W.cell? ⟨cb,i*11+10,none⟩=some (dk ra9 c9.r.val.length rc9)) (go_keep) (fail)
      all_goals(go_wp2_with fail;go_meet)
      all_goals exact⟨_,rfl,((Bl.refl w9).alloc _).drew,heap_alloc_new w9 _⟩
     case rest=>
      obtain⟨rb,rfl,HR⟩:=hcut
      obtain⟨W10,rfl⟩:∃W10,W10=wc:=⟨_,rfl⟩
      obtain⟨⟨y0,y1,y2,y3,y4,y5,y6,y7,y8,y9,y10⟩,lrb⟩:=mz HR.o.2
      obtain⟨wa,wcc,hwx,_,_,hwsl,_⟩:=HWb9.o.bl (bp:=tag9) HR.o.1 fun _ _=>rfl
      have u0:=cell_of_row W10 wb 0 _ 43 (0,0) hwx
      have u1:=cell_of_row W10 wb 1 _ 43 (0,0) hwx
      have u2:=cell_of_row W10 wb 2 _ 43 (0,0) hwx
      have lwb:wb<W10.heap.size:=(Array.getElem?_eq_some_iff.1 hwx).1
      have kr:=lC _ _ W10 (Hsl9.o.bl HR.o.1)
      have kw:=lC _ _ W10 hwsl
      obtain⟨sv,hsv⟩:∃sv,ik c9.r.val=sv:=⟨_,rfl⟩
      rw[hsv] at kr kw
      have HBf:=fu (HS9.o.TK (bp:=tag9) HR.o.1 fun _ _=>rfl)
      clear hsv hwx hwsl d0 d1 d2 d3 d4 d5 d6 d7 d8 d9 d10 c7 HS9 HWb9 Hsl9
      go_wp2
      exact⟨⟨i+1,x',mark',rfl,rfl,by go_num,by omega,hx'T,⟨L2,tag9,_,K9,HBf.o.L (by omega),HPs.o⟩⟩,by simp[Go.RowKit.intOf];omega⟩
  ·have HgoN:=fu hgo
   clear hgo
   go_upto_region 9 with fail
   go_cut [49] from 42 to 49 (fun b wx=>b= .bool false∧Hid (wx=wr))
   case first=>
    by_cases hil:(i:Int)<(len:Int)
    ·have h30:¬(i:Int)<30:=fun e=>HgoN.o ⟨by omega,by omega⟩
     have h30b:decide ((i:Int)<30)=false:=by simpa using h30
     go_wp2_with fail
     go_meet
     exact⟨by first|rfl|simp[h30b],rfl⟩
    ·go_wp2_with fail
     go_meet
     exact⟨by first|rfl|simp[hil],rfl⟩
   case rest=>
    as_aux_lemma=>
     obtain⟨rfl,hw⟩:=hcut
     have hw':=hw.o.symm
     subst hw'
     clear hw
     obtain⟨L,tagi,cvi,K,hS,hP⟩:=HI.o
     have HCa:=fu (LP hS.sw (by omega) hP 0 (by decide))
     have HS:=fu hS
     clear HI hS hP
     go_wp2_with fail
     refine HCa.o.L ?_
     rintro en w5 ⟨rfl,tag5,k5,cv5,K5,hs5,hl5,hA5⟩
     have HS5:=fu (HS.o.step k5 (by unfold Pc Pg;omega) hs5)
     have HFu:=fu (Bq (t:=(T:Int)) hs5 (by omega) hA5 (by rw[HTn.o];omega))
     obtain⟨_,cb,cc,hcv,_,_⟩:=hs5.E hl5 (by omega)
     subst hcv
     clear k5 hs5 hl5 hA5 HCa HS
     go_wp2_with fail
     refine HFu.o.L ?_
     rintro en w6 ⟨rfl,tag6,k6,K6,hs6,hl6,hN6⟩
     have HS6:=fu (HS5.o.step k6 (by unfold Pc Pg;omega) hs6)
     have HBt:=fu (wi hs6 (by omega) hN6)
     clear k6 hs6 hl6 hN6 HFu HS5
     go_wp2_with fail
     refine HBt.o.L ?_
     rintro en w7 ⟨rfl,tag7,k7,K7,hTh,hs7⟩
     have HS7:=fu (HS6.o.step k7 (by unfold Pw;omega) hs7)
     obtain⟨hPs,c9,hc9,hf9,hr9⟩:=hTh
     obtain⟨⟨lg9,c7,lcb9⟩,ta9,tc9,ra9,rc9,⟨_,_,_,_,_,_,_,_,d8,_⟩,_⟩:=hs7.call hPs.len hc9
     rw[hr9] at d8
     have HOn:Hid (∀W,Bl w7 W→Calls prog 32 #[.pointer (some ⟨g,0,none⟩)] W fun en w'=>en=gG (.bool true)∧Bl W w'):=fun W hb=>(hs7.bl (bp:=tag7) hb fun _ _=>rfl).one (by omega) hPs
     have HB:=fu HS7.o.bl
     clear k7 hs7 hPs hc9 hf9 hr9 HBt HS6 HS7
     go_upto_region 44 with fail
     obtain⟨l1,hl1⟩:∃l1,i+1=l1:=⟨_,rfl⟩
     rw[hl1] at c7
     have hix:IntKind.i64.wrap ((l1:Int)-1)=i:=by rw[IntKind.wrap_i64];omega
     have hix2:(i:Int)<(l1:Int):=by omega
     have hix3:(0:Int)≤(i:Int):=by omega
     clear hl1
     go_region_held3(fun W=>W.cell? ⟨g,7,none⟩=some (dk (some ⟨cb,0,none⟩) l1 cc)∧W.cell? ⟨cb,i*11+8,none⟩=some (.int .i64 7)) (go_keep) (first|(go_at_call 32;refine(HOn.o _ ?hb).L ?_;(case hb=>first|exact Bl.refl _|exact(Bl.refl _).drew|exact(Bl.refl _).drewN _);rintro en w8 ⟨rfl,hb8⟩;have hB8:Bl w7 w8:=Bl.H (by first|exact Bl.refl _|exact(Bl.refl _).drew|exact(Bl.refl _).drewN _) hb8;have c7:=(hB8.cell (o:=7) lg9).H c7;have d8:=(hB8.cell (o:=i*11+8) lcb9).H d8;have lg9:=Nat.lt_of_lt_of_le lg9 hB8.lt;have lcb9:=Nat.lt_of_lt_of_le lcb9 hB8.lt))
     all_goals
      go_wp2
      go_ret
      exact⟨rfl,HB.o.H (hB8.H (by first|exact Bl.refl _|exact(Bl.refl _).drew|exact(Bl.refl _).drewN _))⟩
end Go.Proofs.YtbghhbpacijmmaaGreat
