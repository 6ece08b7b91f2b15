-- A node, or the client, gives out.
import Derived.Test.YtnhjmiglegdamaaGreatKPoolSFirstKPickKOut0Q
import Derived.Deep.DeepCutAuto
import Derived.Deep.RegionHeld3
import Derived.Deep.RegionLaw
namespace Go.Proofs.YtnhjmiglegdamaaGreat
open Go.RowKit Go.Maps
attribute [local go_sem ↓] Go.wp_at_zero Go.wp_at_succ
section
variable {w : World} {tag : Nat → Nat} {g p q n m v : Nat} {ce : Int} {K : KW} {pv av lv cv hv : Value} {ps cs ls : List Value}
set_option maxRecDepth 100000 in
set_option maxHeartbeats 8000000 in
theorem out_client (h : WdX w tag g p q n m v ce K pv av lv cv hv ps cs ls) (hnm : n * m + v ≤ 20) (hO : OutOk K.X) (hlen : K.X.outP.length ≤ 200) (hok : ∀ x ∈ K.X.outM, 3 ≤ x.data.length ∧ x.data.length ≤ 600) (hpool : K.pool.length ≤ 100000) :
    Calls Tryz.prog 65 #[.pointer (some ⟨g, 0, none⟩), .int .i64 ((n * m + v : Nat) : Int)] w fun en w' => en = .returned (.bool true) ∧ ∃ tag', KSt Po w tag w' tag' ∧ ∃ lv' ls', WdX w' tag' g p q n m v ce K.outC pv av lv' cv hv ps cs ls' := by
  obtain ⟨i5, ji, jz0, jz1, jz2⟩ := info_parts Tryz.info5
  obtain ⟨i135, j135, r0, r1, r2⟩ := info_parts Tryz.info135
  obtain ⟨pa, pc, hpv⟩ := h.pls.row.shape
  obtain ⟨aa, ac, rfl⟩ := h.ac.shape
  obtain ⟨ab, rfl, _, lab, hace, _⟩ := h.ac.cells (by decide)
  obtain ⟨la, lc, hlv⟩ := h.po.row.shape
  obtain ⟨N, hN⟩ : ∃ N, n * m + v = N := ⟨_, rfl⟩
  rw [hN] at hpv ⊢
  subst hpv hlv
  have HPK := hid (fun W => pick_any N (N + 1) W (by omega) (by omega) (by omega) (by omega))
  have hpk : pk N (N + 1) = N := by unfold pk; rw [if_neg (by omega)]; exact Int.emod_eq_of_lt (by omega) (by omega)
  rw [hpk] at HPK
  have a0 := hace 0 (by decide)
  have a1 := hace 1 (by decide)
  have a2 := hace 2 (by decide)
  simp only [List.getElem?_cons_zero, List.getElem?_cons_succ] at a0 a1 a2
  have c4 := h.cellAt 4 rfl
  have c5 := h.cellAt 5 rfl
  have lg := h.lt
  have H := hid h
  clear hace h hpk
  go_enter Tryz.func65, Tryz.ntmps65
  go_upto_region 1 with fail
  go_quiet ((go_at_call 15; exact Calls.quiet_of_same (HPK.out _)))
  go_upto_region 14 with fail
  obtain ⟨Wq, hWq⟩ : ∃ Wq, w.drewN nq = Wq := ⟨_, rfl⟩
  have bq : Bl w Wq := by rw [← hWq]; exact (Bl.refl w).drewN nq
  rw [hWq]
  have x0 := (bq.cell lab).trans a0
  have x1 := (bq.cell lab).trans a1
  have x2 := (bq.cell lab).trans a2
  have x4 := (bq.cell lg).trans c4
  have x5 := (bq.cell lg).trans c5
  have labq := Nat.lt_of_lt_of_le lab bq.lt
  have lgq := Nat.lt_of_lt_of_le lg bq.lt
  have HXq := hid (H.out.bl (tag' := tag) bq fun _ _ => rfl)
  have HBq := hid bq
  have lwq : w.heap.size ≤ Wq.heap.size := bq.lt
  clear bq hWq a0 a1 a2 c4 c5 H HPK
  go_cut [10] from 8 to 141 (fun y wx => ∃ g5, y = .pointer (some ⟨g5, 0, none⟩) ∧ Hid (Bl Wq wx ∧ Wq.heap.size ≤ g5 ∧ wx.heap[g5]? = some (.cells #[.int .i64 1000, .pointer (some ⟨p, 0, none⟩), .bool true] 126 (0, 0))))
  case first =>
    go_region
    all_goals (go_wp2_with fail; go_meet)
    all_goals (refine ⟨_, rfl, ?_, Nat.le_refl _, ?_⟩; (first | exact ((Bl.refl Wq).alloc _).drew | exact ((Bl.refl Wq).drew).alloc _ | exact (Bl.refl Wq).alloc _); exact heap_alloc_new _ _)
  case rest =>
  obtain ⟨g5, rfl, HG5⟩ := hcut
  have b5 := HG5.out.1
  have lg5 : g5 < wc.heap.size := (Array.getElem?_eq_some_iff.1 HG5.out.2.2).1
  have z0 : wc.cell? ⟨g5, 0, none⟩ = some (.int .i64 1000) := cell_of_row wc _ 0 _ 126 (0, 0) HG5.out.2.2
  have z1 : wc.cell? ⟨g5, 1, none⟩ = some (.pointer (some ⟨p, 0, none⟩)) := cell_of_row wc _ 1 _ 126 (0, 0) HG5.out.2.2
  have z2 : wc.cell? ⟨g5, 2, none⟩ = some (.bool true) := cell_of_row wc _ 2 _ 126 (0, 0) HG5.out.2.2
  have HX5 := hid (HXq.out.bl (tag' := tagTo tag Wq.heap.size 9) b5 fun b hb => tagTo_old _ _ _ _ hb)
  have HCl : Hid (Calls Tryz.prog 98 #[.pointer (some ⟨p, 0, none⟩)] wc fun en w' => ∃ a c' xs, en = .returned (.slice a K.X.outP.length c') ∧ PkR wc.heap.size w' (.slice a K.X.outP.length c') K.X.outP xs ∧ Cl w' (tagTo (tagTo tag Wq.heap.size 9) wc.heap.size 6) 5 p q n m v ce 1000 K.X.outX ∧ Only (Tc (tagTo tag Wq.heap.size 9) 5 wc) wc w') := by
    obtain ⟨lv, rv, vv, nv, av, bm, born, clk, hcl⟩ := HX5.out.cl
    exact fcl_out hcl hO
  have HG6 := hid HG5.out.2.2
  have t5 : Hid (tagTo tag Wq.heap.size 9 g5 = 9) := tagTo_new _ _ _ _ HG5.out.2.1
  have HB5 := hid (HBq.out.trans b5)
  clear b5 HG5 HXq HBq x0 x1 x2 x4 x5
  go_upto_region 18 with (go_at_call 98; refine HCl.out.mono ?_; rintro en w1 ⟨ma, mc, xs, rfl, hP1, hC1, hO1⟩; have HP1 := hid hP1; have HC1 := hid hC1; have HO1 := hid hO1; clear hP1 hC1 hO1)
  have k1 : KSt (fun t => t = 5) wc (tagTo tag Wq.heap.size 9) w1 (tagTo (tagTo tag Wq.heap.size 9) wc.heap.size 6) := ⟨HO1.out.mono fun _ _ e => e.1, fun b hb => tagTo_old _ _ _ _ hb⟩
  have hg1 := k1.heap HG6.out t5.out (by omega)
  have y0 : w1.cell? ⟨g5, 0, none⟩ = some (.int .i64 1000) := cell_of_row w1 _ 0 _ 126 (0, 0) hg1.1
  have lg51 : g5 < w1.heap.size := (Array.getElem?_eq_some_iff.1 hg1.1).1
  have hX1 := HX5.out.reCli k1 HC1.out
  have hP1 : PkJ w1 (tagTo (tagTo tag Wq.heap.size 9) wc.heap.size 6) 6 ma mc K.X.outP xs 0 := ⟨⟨ownsRow_base HP1.out.own fun _ _ => Nat.zero_le _, fun b hb => tagTo_new _ _ _ _ (HP1.out.own.lt b hb).1⟩, fun j z _ hz => by
    obtain ⟨y1, u, y2, y3⟩ := HP1.out.at' j z hz
    exact ⟨by rw [Nat.mul_comm]; exact y1, u, by rw [Nat.mul_comm]; exact y2, ownsRow_base y3 fun _ _ => Nat.zero_le _, fun b hb => tagTo_new _ _ _ _ (y3.lt b hb).1⟩, HP1.out.ap⟩
  have hK1' : KSt Po w tag w1 (tagTo (tagTo tag Wq.heap.size 9) wc.heap.size 6) := (KSt.of_bl' (tag' := tagTo tag Wq.heap.size 9) HB5.out fun b hb => tagTo_old _ _ _ _ (by omega)).trans (k1.mono fun t e => by unfold Po; omega)
  obtain ⟨tag0, ht0⟩ : ∃ tag0, tag0 = tagTo (tagTo tag Wq.heap.size 9) wc.heap.size 6 := ⟨_, rfl⟩
  rw [← ht0] at hX1 hP1 hK1'
  have HX0 := hid hX1
  have HP0 := hid hP1
  have HK0 := hid hK1'
  clear k1 hg1 hX1 hP1 hK1' ht0 HP1 HC1 HO1 HX5 HG6 t5 HB5 HCl z0 z1 z2
  go_upto_region 19 with fail
  obtain ⟨K1, hK1⟩ : ∃ K1, ({ K with X := K.X.outX } : KW) = K1 := ⟨_, rfl⟩
  have hp1 : K.pool.length = K1.pool.length := by rw [← hK1]
  obtain ⟨ms, hms⟩ : ∃ ms : List Ms, K.X.outM = ms := ⟨_, rfl⟩
  obtain ⟨qs, hqs⟩ : ∃ qs, K.X.outP = qs := ⟨_, rfl⟩
  obtain ⟨L, hL⟩ : ∃ L, K.X.outP.length = L := ⟨_, rfl⟩
  obtain ⟨fr, hfr⟩ : ∃ fr : Int, (1000 : Int) = fr := ⟨_, rfl⟩
  obtain ⟨ty, hty⟩ : ∃ ty : Nat, 6 = ty := ⟨_, rfl⟩
  have Hmq : Hid (ms.map (fun x => (x.to, x.data)) = qs) := by unfold Hid; rw [← hms, ← hqs]; exact CX.outM_raw K.X
  have HL : Hid (ms.length = L) := by
    unfold Hid
    have := congrArg List.length Hmq.out
    rw [List.length_map, ← hqs, hL] at this
    exact this
  have Hlen : Hid (∀ x ∈ ms, 3 ≤ x.data.length ∧ x.data.length ≤ 600) := by rw [← hms]; exact hok
  have Hfr : Hid (∀ x ∈ ms, x.fr = fr) := by rw [← hms, ← hfr]; exact outM_fr K.X
  have Hpl : Hid (K1.pool.length + L ≤ 1000000) := by unfold Hid; omega
  have HKB : Hid (∀ (Wa Wb : World) (ta tb : Nat → Nat) (po : List Ms) (lvx : Value) (lsx : List Value), WdX Wa ta g p q n m v ce { K1 with pool := po } (.slice pa N pc) (.slice (some ⟨ab, 0, none⟩) 1 ac) lvx cv hv ps cs lsx → KSt (fun t => t = ty) Wa ta Wb tb → WdX Wb tb g p q n m v ce { K1 with pool := po } (.slice pa N pc) (.slice (some ⟨ab, 0, none⟩) 1 ac) lvx cv hv ps cs lsx) := by
    intro Wa Wb ta tb po lvx lsx hX hk
    exact hX.kst hk (free_one _ _ _ _ ty (by omega))
  have HF : Hid (∀ (po : List Ms), po = K1.pool ++ ms → ({ K1 with pool := po } : KW) = K.outC) := by
    intro po hpo
    unfold KW.outC
    rw [hpo, hms, ← hK1]
  have hL2 : (L : Int) ≤ 200 := by omega
  have hty6 : ty ≠ 1 ∧ ty ≠ 8 ∧ Po ty := ⟨by omega, by omega, by unfold Po; omega⟩
  rw [hK1, hp1] at HX0
  rw [hty] at HP0
  rw [hqs] at HP0 hL ⊢
  rw [hL, hfr]
  have Hty := hid hty6
  clear hK1 hp1 hms hqs hty hok hty6 hO hlen y0 hL hfr
  go_wp2
  go_loopw [11] (fun i wx => ∃ (j : Nat) (tagx : Nat → Nat) (lax : Option Addr) (lcx : Nat) (lsx : List Value), j ≤ L ∧ i = .int .i64 j ∧ Hid (KSt Po w tag wx tagx) ∧ Hid (WdX wx tagx g p q n m v ce { K1 with pool := K1.pool ++ ms.take j } (.slice pa N pc) (.slice (some ⟨ab, 0, none⟩) 1 ac) (.slice lax (K1.pool.length + j) lcx) cv hv ps cs lsx) ∧ Hid (PkJ wx tagx ty ma mc qs xs j)) (fun i _ => L - (Go.RowKit.intOf i).toNat)
  case atStart => exact ⟨0, tag0, la, lc, ls, Nat.zero_le _, rfl, HK0, by rw [List.take_zero, List.append_nil]; exact HX0, HP0⟩
  case round =>
    clear HK0 HX0 HP0
    obtain ⟨j, tagx, lax, lcx, lsx, hj, rfl, HKx, HXx, HPx⟩ := hrel
    have hmq := Hmq.out
    have hml0 := HL.out
    by_cases hlt : j < L
    · have hltI : (j : Int) < (L : Int) := by omega
      obtain ⟨x, hx⟩ : ∃ x, ms[j]? = some x := ⟨_, List.getElem?_eq_getElem (by omega)⟩
      have hxq : qs[j]? = some (x.to, x.data) := by rw [← hmq, List.getElem?_map, hx]; rfl
      obtain ⟨hx3, hx6⟩ := Hlen.out x (List.mem_of_getElem? hx)
      have Hxf := hid (Hfr.out x (List.mem_of_getElem? hx))
      have hrow := HPx.out.row
      have hql2 : qs.length = L := by rw [← hmq, List.length_map]; exact hml0
      rw [hql2] at hrow
      obtain ⟨mb, rfl, _, lmb, hmce, _⟩ := hrow.cells (by omega)
      obtain ⟨e1, u, e2, e3⟩ := HPx.out.at' j _ (Nat.le_refl _) hxq
      obtain ⟨db, dc, darr, rfl, tdb, ldb, hdb, _, _⟩ := e3.block (by simp only; omega)
      have d0 := (hmce (j * 2) (by omega)).trans e1
      have d1 := (hmce (j * 2 + 1) (by omega)).trans e2
      simp only at d0 d1 e3
      have He2 := hid e2
      have He3 := hid e3
      have Hdb := hid hdb
      have HBs := hid (own_bs e3.own)
      have HN : Hid (wr.ownsRow wr.heap.size 5 1 (.slice none 0 0) 0 []) := World.ownsRow_nil _ _ _ _
      have hml : Hid (0 + (x.data.map B8).length ≤ maxLen) := by unfold Hid maxLen; rw [List.length_map]; omega
      have hby2 : Hid ((0 + (x.data.map B8).length) * 1 ≤ 140737488355328) := by unfold Hid; rw [List.length_map]; omega
      have Htk : Hid (ms.take (j + 1) = ms.take j ++ [x]) := by
        unfold Hid
        rw [List.take_add_one, hx]; rfl
      have Hx := hid hx
      have Hql2 := hid hql2
      clear hmce e1 e2 e3 hdb hrow hmq hml0 hx hxq hql2
      go_upto_region 23 with fail
      go_wp2_with (at_builtin; refine wpList_append_bs _ rfl _ _ 40 rfl wr.heap.size 5 i5 (.int .u8 0) 1 Tryz.underlying40 ji jz0 jz1 jz2 rfl _ 0 [] rfl HN.out _ _ rfl HBs.out (b8_one x.data) hml.out hby2.out (by simp) ?_)
      intro v' w4 hG
      obtain ⟨gd, cap, hv'⟩ : ∃ gd cap, v' = .slice (some ⟨gd, 0, none⟩) x.data.length cap := by
        rcases hG.own.2 with ⟨_, e⟩ | ⟨g, cap, cur, e, _⟩
        · omega
        · exact ⟨g, cap, by simpa using e⟩
      subst hv'
      have b4 : Bl wr w4 := hG.only.to_bl fun k _ e => by simp [Value.ownBlock] at e
      have Hgo := hid (show w4.ownsRow wr.heap.size 5 1 (.slice (some ⟨gd, 0, none⟩) x.data.length cap) x.data.length (x.data.map B8) by simpa using hG.own)
      have c6 := (b4.cell HXx.out.lt).trans (HXx.out.cellAt 6 rfl)
      have f6 : w4.frozen? ⟨g, 6, none⟩ = false := (b4.frozen HXx.out.lt).trans (frozen_of_row wr g 6 _ 66 HXx.out.hg)
      have lg4 := Nat.lt_of_lt_of_le HXx.out.lt b4.lt
      have x0 := (b4.cell lmb).trans d0
      have x1 := (b4.cell lmb).trans d1
      have lmb4 := Nat.lt_of_lt_of_le lmb b4.lt
      have hplen : ({ K1 with pool := K1.pool ++ ms.take j } : KW).pool.length = K1.pool.length + j := by have := HL.out; simp; omega
      have hpo := HXx.out.po.row.own
      rw [hplen] at hpo
      have HPO := hid ((Only.of_bl (S := fun _ => False) b4).owns hpo fun _ _ e => e)
      have ngl : Hid ((Value.slice lax (K1.pool.length + j) lcx).ownBlock ≠ some g) := own_ne_block hpo HXx.out.hg (by decide)
      have nml : Hid ((Value.slice lax (K1.pool.length + j) lcx).ownBlock ≠ some mb) := fun e => by
        obtain ⟨g', cap', cur', k1, _, _, k4, _⟩ := HPx.out.row.block (by rw [Hql2.out]; omega)
        simp only [Value.slice.injEq, Option.some.injEq, Addr.mk.injEq, and_true, true_and] at k1
        rw [← k1.1] at k4
        exact own_ne_block hpo k4 (by decide) e
      have hm2 : Hid (K1.pool.length + j + 1 ≤ maxLen) := by have := Hpl.out; unfold Hid maxLen; omega
      have hb2 : Hid ((K1.pool.length + j + 1) * 40 ≤ 140737488355328) := by have := Hpl.out; unfold Hid; omega
      have HB4 := hid b4
      have hxfr := Hxf.out
      clear b4 hG hpo d0 d1 HN HBs hml hby2
      go_upto_region 24 with fail
      go_cut [] from 92 to 138 (fun wy => ∃ gg capp tagy, Hid (KSt (fun t => t = 1 ∨ t = 8) wr tagx wy tagy) ∧ Hid (WdX wy tagy g p q n m v ce { K1 with pool := K1.pool ++ ms.take (j + 1) } (.slice pa N pc) (.slice (some ⟨ab, 0, none⟩) 1 ac) (.slice (some ⟨gg, 0, none⟩) (K1.pool.length + j + 1) capp) cv hv ps cs (lsx ++ [.int .i64 fr, .int .i64 x.to, .slice (some ⟨gd, 0, none⟩) x.data.length cap])))
      case first =>
        go_region_law
          ((refine step_append_lies _ (by rfl) _ _ _ (by rfl) 0 135 i135 _ 3 40 Tryz.underlying63 j135 r0 r1 r2 rfl (by omega) _ (K1.pool.length + j) lsx (by rfl) ((HPO.out.alloc _).drew)
              ⟨w4.heap.size, 0, none⟩ 1 1 [.int .i64 fr, .int .i64 x.to, .slice (some ⟨gd, 0, none⟩) x.data.length cap] (by rfl) (by rfl) (World.news_of_block (cs := #[.int .i64 fr, .int .i64 x.to, .slice (some ⟨gd, 0, none⟩) x.data.length cap]) (t := 135) (fr := (0, 0)) (heap_alloc_new w4 _)) (by simp [Value.oneCell'])
              (by omega) hm2.out hb2.out (by simp) (w4.heap.size + 1) (by simp) ?_; intro gg cp w5 hown5 hgrow5 hat5 hlt5; have kc := (far (((Bl.refl w4).alloc _).drew) hgrow5 (o := 6) lg4 ngl.out).1.trans c6; have kf := (far (((Bl.refl w4).alloc _).drew) hgrow5 (o := 6) lg4 ngl.out).2.trans f6; have y0 := (far (((Bl.refl w4).alloc _).drew) hgrow5 (o := j * 2) lmb4 nml.out).1.trans x0; have lg5 : g < w5.heap.size := (by have := hgrow5.size; simp at this; omega); have lmb5 : mb < w5.heap.size := (by have := hgrow5.size; simp at this; omega); have HX6 := hid (And.intro hown5 (And.intro hgrow5 (And.intro hat5 hlt5))); clear hown5 hgrow5 hat5 hlt5))
        all_goals (go_wp2_with fail; go_meet)
        all_goals
          obtain ⟨hown5, hgrow5, hat5, hlt5⟩ := HX6.out
          have hX' := HXx.out
          rw [← hplen] at hX'
          have hpp := hX'.pushPool (W := w4) (W1 := (w4.alloc (.cells #[.int .i64 fr, .int .i64 x.to, .slice (some ⟨gd, 0, none⟩) x.data.length cap] 135)).drew) HB4.out (((Bl.refl w4).alloc _).drew) x Hgo.out (gg := gg) (cp := cp) (by rw [hplen, hxfr]; exact hown5) (by rw [hplen]; exact hgrow5) (by rw [hplen]; exact hat5.imp (fun e => e) (fun e => by omega))
          rw [hplen, hxfr, List.append_assoc, ← Htk.out] at hpp
          obtain ⟨tag2, p1, p2⟩ := hpp
          exact ⟨gg, cp, tag2, p1, p2⟩
      case rest =>
        obtain ⟨gg, capp, tagy, HKy, HXy⟩ := hcut
        have lwr := HKy.out.size
        have hPy := HPx.out.kst HKy.out (by omega) (fun e => by have := Hty.out; omega)
        have e3y := He3.out.kst HKy.out (fun e => by have := Hty.out; omega)
        obtain ⟨mb', em, _, lmby, hmcy, _⟩ := (show RowT wc tagy 6 174 2 (.slice (some ⟨mb, 0, none⟩) L mc) L xs by have := hPy.row; rw [Hql2.out] at this; exact this).cells (by omega)
        simp only [Option.some.injEq, Addr.mk.injEq, and_true] at em
        subst em
        have y1 := (hmcy (j * 2 + 1) (by omega)).trans He2.out
        have HPy := hid hPy
        have HE3 := hid e3y
        have HKw := hid (HKx.out.trans (HKy.out.mono fun t e => by unfold Po; omega))
        clear hPy e3y hmcy HKy HPx HXx HKx He3 HPO ngl nml hm2 hb2 HB4 Hgo c6 f6 lg4 x0 x1 lmb4 hplen
        have tdby : tagy db = ty := HE3.out.tag db rfl
        have hmdb : mb ≠ db := fun e => by
          obtain ⟨g', cap', cur', k1, _, _, k4, _⟩ := HPy.out.row.block (by rw [Hql2.out]; omega)
          simp only [Value.slice.injEq, Option.some.injEq, Addr.mk.injEq, and_true, true_and] at k1
          rw [← k1.1] at k4
          exact own_ne_block HE3.out.own k4 (by decide) (by rw [e]; rfl)
        go_wp2
        go_loopw [13] (fun i wx => ∃ (t : Nat) (ds : List Value), t ≤ x.data.length ∧ i = .int .i64 t ∧ Hid (Only (fun b => b = db) wc wx) ∧ Hid (wx.ownsRow 0 5 1 (.slice (some ⟨db, 0, none⟩) x.data.length dc) x.data.length ds)) (fun i _ => x.data.length - (Go.RowKit.intOf i).toNat)
        case atStart => exact ⟨0, _, Nat.zero_le _, rfl, Only.refl _ _, HE3.out.own⟩
        case round =>
          obtain ⟨t, ds, ht, rfl, HOx, HRx⟩ := hrel
          have y2 := (HOx.out.cell lmby hmdb (o := j * 2 + 1)).trans y1
          have lmbr := Nat.lt_of_lt_of_le lmby HOx.out.size
          by_cases htl : t < x.data.length
          · have htI : (t : Int) < (x.data.length : Int) := by omega
            have hdl : ds.length = x.data.length := ownsRow_len HRx.out
            have y3 := (HRx.out.cellAt t (by omega)).trans (List.getElem?_eq_getElem (by omega))
            obtain ⟨g', cap', cur', k1, _, k3, k4, _⟩ := (show RowT wr (fun _ => 0) 0 5 1 (.slice (some ⟨db, 0, none⟩) x.data.length dc) x.data.length ds from ⟨HRx.out, fun _ _ => rfl⟩).block (by omega)
            simp only [Value.slice.injEq, Option.some.injEq, Addr.mk.injEq, and_true, true_and] at k1
            rw [← k1.1] at k3 k4
            have y4 := frozen_of_row _ db t _ 5 k4
            generalize ds[t] = dt at *
            clear k4 k1
            go_wp2
            exact ⟨⟨t + 1, ds.set t (.int .u8 99), by omega, by go_num, HOx.out.setCell ⟨db, t, none⟩ (.inl rfl) _, own_set HRx.out t _⟩, by simp [Go.RowKit.intOf]; omega⟩
          · have htge : ¬ ((t : Int) < (x.data.length : Int)) := by omega
            have kdb : KSt (fun s => s = ty) wc tagy wr tagy := ⟨HOx.out.mono fun b _ e => by rw [e]; exact tdby, fun _ _ => rfl⟩
            have HX9 := hid (HKB.out _ _ _ _ _ _ _ HXy.out kdb)
            have HP9 := hid (HPy.out.turn He2.out rfl (by
              obtain ⟨g', cap', cur', k1, _, _, k4, _⟩ := HE3.out.block (by omega)
              simp only [Value.slice.injEq, Option.some.injEq, Addr.mk.injEq, and_true, true_and] at k1
              rw [← k1.1] at k4
              exact ⟨_, k4⟩) HOx.out)
            have HK9 := hid (HKw.out.trans (kdb.mono fun t e => by rw [e]; exact Hty.out.2.2))
            clear kdb
            go_wp2
            exact ⟨⟨j + 1, tagy, some ⟨gg, 0, none⟩, capp, _, by omega, by go_num, HK9, HX9, HP9⟩, by simp [Go.RowKit.intOf]; omega⟩
    · have hge : ¬ ((j : Int) < (L : Int)) := by omega
      have hjn : j = L := by omega
      subst hjn
      go_wp2
      go_ret
      have hfin := HXx.out
      rw [HF.out _ (by rw [List.take_of_length_le (by have := HL.out; omega)])] at hfin
      exact ⟨rfl, tagx, HKx.out, _, _, hfin⟩
end
end Go.Proofs.YtnhjmiglegdamaaGreat
