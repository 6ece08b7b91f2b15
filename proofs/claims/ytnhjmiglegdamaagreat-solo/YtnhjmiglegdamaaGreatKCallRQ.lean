-- The client makes a call: read.
import Derived.Test.YtnhjmiglegdamaaGreatKOutVKStep0KStepKBeatKCall0Q
import Derived.Test.YtnhjmiglegdamaaGreatSCRecvSDoorsSGiveSFurKPureQ
import Derived.Deep.DeepCutAuto
import Derived.Deep.RegionHeld3
import Derived.Deep.RegionLaw
namespace Go.Proofs.YtnhjmiglegdamaaGreat
open Go.RowKit Go.Maps
attribute [local go_sem ↓] Go.wp_at_zero Go.wp_at_succ
section
variable {w : World} {tag : Nat → Nat} {g p q n m v : Nat} {ce : Int} {K : KW} {pv av lv cv hv : Value} {ps cs ls : List Value}
set_option maxRecDepth 100000 in
set_option maxHeartbeats 8000000 in
theorem call_read (h : WdX w tag g p q n m v ce K pv av lv cv hv ps cs ls) (hW : WatchOk K) (hf : fit n m v ce = true) (hnm : n * m + v ≤ 20) (hpend : K.X.pend = none) (hend : ∀ (i : Nat) (c : PK), K.watch.calls[i]? = some c → c.fin ≠ 0) (hl : K.calls.length ≤ 60) (ha : 0 ≤ K.X.asked ∧ K.X.asked ≤ 1000000) (b : Int) (hb : inI b) (X' : CX) (hX' : X' = (K.X.begin 2 1000).look n m (newC K.X 2 1000 (pk b (n * ce)))) (c : PK) (hc : c = ⟨2, pk b (n * ce), [], [], K.now + 1, 0, ⟨0, 0, []⟩⟩) (hW2 : WatchOk { K.watch with X := X', calls := K.watch.calls ++ [c] }) :
    Calls Tryz.prog 28 #[.pointer (some ⟨g, 0, none⟩), .int .i64 2, .int .i64 0, .int .i64 b] w fun en w' => en = .returned (.bool true) ∧ ∃ tag', KSt Pc w tag w' tag' ∧ ∃ q' cv' cs', WdX w' tag' g p q' n m v ce ({ K.watch with X := X', calls := K.watch.calls ++ [c] } : KW).watch pv av lv cv' hv ps cs' ls := by
  obtain ⟨i60, j60, r0, r1, r2⟩ := info_parts Tryz.info60
  obtain ⟨f1, f2, f3, f4⟩ := fit_bd hf
  have hmb := mul_bd f1 f2 f3 f4
  obtain ⟨aa, ac, rfl⟩ := h.ac.shape
  obtain ⟨ab, rfl, _, lab, hace, _⟩ := h.ac.cells (by decide)
  have a2 := hace 2 (by decide)
  simp only [List.getElem?_cons_zero, List.getElem?_cons_succ] at a2
  have c5 := h.cellAt 5 rfl
  have lg := h.lt
  have HP0 := hid (fun W => pick_any 0 1 W (by decide) (by decide) (by decide) (by decide))
  have hpk0 : pk 0 1 = 0 := by decide
  rw [hpk0] at HP0
  have HWa := hid (watch_any h hW hnm)
  obtain ⟨K1, hK1⟩ : ∃ K1, K.watch = K1 := ⟨_, rfl⟩
  have e1 : K1.X = K.X := by rw [← hK1]; rfl
  have e2 : K1.now = K.now + 1 := by rw [← hK1]; rfl
  have e3 : K1.calls.length = K.calls.length := by rw [← hK1]; simp [KW.watch, hW.len]
  have e4 : K.X.res.length = K.calls.length := hW.len.symm
  have en0 : 0 ≤ K1.now ∧ K1.now ≤ 500000 := by have := hW.n0; have := hW.n1; omega
  obtain ⟨len, hlen⟩ : ∃ len, K.calls.length = len := ⟨_, rfl⟩
  rw [hlen] at e3 e4 hl 
  rw [hK1] at HWa hend hW2 ⊢
  have HW2 := hid hW2
  have Hend := hid hend
  have He := hid (And.intro e1 (And.intro e3 e4))
  have HXp := hid hX'
  have Hc := hid hc
  rw [← e2] at Hc
  have HK1 := hid hK1
  clear h hW hK1 hW2 hend hace hX' hc e1 e2 e3 hpk0 e4
  go_enter Tryz.func28, Tryz.ntmps28
  go_upto_region 7 with (first | (go_at_call 15; refine (HP0.out _).mono ?_; rintro en w' ⟨rfl, hww⟩; have hww := hww.symm; subst hww) | (go_at_call 53; refine HWa.out.mono ?_; rintro en w1 ⟨rfl, tag1, k1, cs1, h1⟩; have HKa := hid k1; have HXa := hid h1; clear k1 h1))
  obtain ⟨ca, cc, hcv⟩ := HXa.out.ca.row.shape
  rw [He.out.2.1] at hcv
  subst hcv
  have c5 := HXa.out.cellAt 5 rfl
  have c8 := HXa.out.cellAt 8 rfl
  have lg1 := HXa.out.lt
  obtain ⟨ab', eab, _, lab1, hace, _⟩ := HXa.out.ac.cells (by decide)
  simp only [Option.some.injEq, Addr.mk.injEq, and_true] at eab
  subst eab
  have a1 := hace 1 (by decide)
  simp only [List.getElem?_cons_zero, List.getElem?_cons_succ] at a1
  have HNo : Hid (∀ W, Bl w1 W → Calls Tryz.prog 54 #[.pointer (some ⟨g, 0, none⟩), .int .i64 0] W fun en w' => en = .returned (.int .i64 len) ∧ w' = W) := fun W hb => by
    have := numberOf_any (HXa.out.bl (tag' := tag1) hb fun _ _ => rfl) (by rw [He.out.2.1]; omega)
    rw [He.out.2.1] at this
    exact this
  clear hace a2 HWa
  go_upto_region 8 with fail
  go_cut [12] from 12 to 162 (fun y wx => ∃ gb, y = .pointer (some ⟨gb, 0, none⟩) ∧ Hid (Bl w1 wx ∧ w1.heap.size ≤ gb ∧ wx.heap[gb]? = some (.cells #[.int .i64 0, .int .i64 len, .int .i64 2, .int .i64 0, .string { data := #[] }, .slice none 0 0, .int .i64 K1.now, .int .i64 0, .int .i64 0, .int .i64 0, .slice none 0 0] 60 (0, 0))))
  case first =>
    go_region_with (go_at_call 54; refine (HNo.out _ ?hb).mono ?_; (case hb => repeat (first | exact Bl.refl _ | refine Bl.drew ?_ | refine Bl.drewN ?_ _ | refine Bl.alloc ?_ _)); rintro en w2 ⟨rfl, rfl⟩)
    all_goals (go_wp2_with fail; go_meet)
    all_goals (refine ⟨_, rfl, ?_, Nat.le_refl _, heap_alloc_new _ _⟩; (first | exact ((Bl.refl w1).alloc _).drew | exact ((Bl.refl w1).drew).alloc _ | exact (Bl.refl w1).alloc _))
  case rest =>
    obtain ⟨gb, rfl, HG⟩ := hcut
    have bc := HG.out.1
    have lgb : gb < wc.heap.size := (Array.getElem?_eq_some_iff.1 HG.out.2.2).1
    have hXc := HXa.out.bl (tag' := tagTo tag1 w1.heap.size 9) bc fun b hb => tagTo_old _ _ _ _ hb
    have tgb : tagTo tag1 w1.heap.size 9 gb = 9 := tagTo_new _ _ _ _ HG.out.2.1
    have HTo : Hid (∀ W, Bl wc W → Calls Tryz.prog 27 #[.pointer (some ⟨g, 0, none⟩)] W fun en w' => en = .returned (.int .i64 (n * ce)) ∧ Bl W w') := fun W hb => total_any (hXc.bl (tag' := tagTo tag1 w1.heap.size 9) hb fun _ _ => rfl) hf
    have HPb := hid (fun W => pick_any b (n * ce) W hb.1 hb.2 (by omega) (by omega))
    have HXc := hid hXc
    have HGb := hid HG.out.2.2
    have HKc := hid (HKa.out.trans (KSt.of_bl' (P := P14) (tag' := tagTo tag1 w1.heap.size 9) bc fun b hb => tagTo_old _ _ _ _ hb))
    clear hXc bc HG HNo a1 c5 c8
    go_upto_region 19 with (first | (go_at_call 27; refine (HTo.out _ (Bl.refl _)).mono ?_; rintro en w3 ⟨rfl, hb3⟩; have hg3 := (hb3.heap lgb).trans HGb.out; have z3 : w3.cell? ⟨gb, 3, none⟩ = some (.int .i64 0) := (cell_of_row w3 gb 3 _ 60 (0, 0) hg3); have zf3 := frozen_of_row w3 gb 3 _ 60 hg3; have lgb3 : gb < w3.heap.size := (Array.getElem?_eq_some_iff.1 hg3).1; have HB3 := hid hb3; have HG3 := hid hg3; clear hb3 hg3) | (go_at_call 15; refine (HPb.out _).mono ?_; rintro en w' ⟨rfl, hww⟩; have hww := hww.symm; subst hww))
    obtain ⟨at0, hat0⟩ : ∃ at0, pk b (n * ce) = at0 := ⟨_, rfl⟩
    have hrg := pk_range b (n * ce) (by omega)
    rw [hat0] at hrg HXp Hc ⊢
    obtain ⟨W4, hW4⟩ : ∃ W4, w3.setCell ⟨gb, 3, none⟩ (.int .i64 at0) = W4 := ⟨_, rfl⟩
    have hX3 := HXc.out.bl (tag' := tagTo tag1 w1.heap.size 9) HB3.out fun _ _ => rfl
    have k4 : KSt (fun s => s = 9) w3 (tagTo tag1 w1.heap.size 9) (w3.setCell ⟨gb, 3, none⟩ (.int .i64 at0)) (tagTo tag1 w1.heap.size 9) := kst_set tgb _ _
    have hX4 := hX3.kst k4 (free_one _ _ _ _ 9 (by omega))
    have hg4 := heap_setCell_same w3 gb 3 _ 60 (.int .i64 at0) HG3.out
    have hK4 : KSt Pc w tag (w3.setCell ⟨gb, 3, none⟩ (.int .i64 at0)) (tagTo tag1 w1.heap.size 9) := ((HKc.out.mono fun t e => by unfold P14 at e; unfold Pc; omega).trans (KSt.of_bl' (tag' := tagTo tag1 w1.heap.size 9) HB3.out fun _ _ => rfl)).trans (k4.mono fun t e => by unfold Pc; omega)
    rw [hW4] at hX4 hg4 hK4 ⊢
    have z3 : W4.cell? ⟨gb, 3, none⟩ = some (.int .i64 at0) := cell_of_row W4 gb 3 _ 60 (0, 0) hg4
    have lgb4 : gb < W4.heap.size := (Array.getElem?_eq_some_iff.1 hg4).1
    have HCl : Hid (Calls Tryz.prog 19 #[.pointer (some ⟨p, 0, none⟩), .int .i64 at0] W4 fun en w' => en = .returned (.tuple #[.int .i64 len, .int .i64 0]) ∧ ∃ q', CStep W4 (tagTo tag1 w1.heap.size 9) 5 p q' n m v ce 1000 X' w') := by
      obtain ⟨lv, rv, vv, nv, av, bm, born, clk, hcl⟩ := hX4.cl
      rw [He.out.1] at hcl
      refine fcl_two19 at0 len _ ?_
      rw [HXp.out, ← He.out.2.2]
      exact cl_read hcl hpend (by rw [He.out.2.2]; omega) at0 ⟨hf, hrg.1, hrg.2⟩ ha.1 ha.2
    have HX4 := hid hX4
    have HG4 := hid hg4
    have HK4 := hid hK4
    clear hX3 k4 hX4 hg4 hK4 hW4 HB3 HG3 zf3 HXc HKc HGb HTo HPb
    go_upto_region 26 with (go_at_call 19; refine HCl.out.mono ?_; rintro en w5 ⟨rfl, q', hS⟩; have HS := hid hS; clear hS)
    have hk5 := HS.out.kst
    have hX5 := HX4.out.reCli hk5 HS.out.1
    have hg5 := hk5.heap HG4.out tgb (by omega)
    have hP5 := pending_any hX5 (by simp only; rw [He.out.2.1]; omega) Hend.out
    have c7 := hX5.cellAt 7 rfl
    have f7 := frozen_of_row w5 g 7 _ 66 hX5.hg
    have lg5 := hX5.lt
    have lgb5 : gb < w5.heap.size := (Array.getElem?_eq_some_iff.1 hg5.1).1
    have b0 := cell_of_row w5 gb 0 _ 60 (0, 0) hg5.1
    have b1 := cell_of_row w5 gb 1 _ 60 (0, 0) hg5.1
    have b2 := cell_of_row w5 gb 2 _ 60 (0, 0) hg5.1
    have b3 := cell_of_row w5 gb 3 _ 60 (0, 0) hg5.1
    have b4 := cell_of_row w5 gb 4 _ 60 (0, 0) hg5.1
    have b5 := cell_of_row w5 gb 5 _ 60 (0, 0) hg5.1
    have b6 := cell_of_row w5 gb 6 _ 60 (0, 0) hg5.1
    have b7 := cell_of_row w5 gb 7 _ 60 (0, 0) hg5.1
    have b8 := cell_of_row w5 gb 8 _ 60 (0, 0) hg5.1
    have b9 := cell_of_row w5 gb 9 _ 60 (0, 0) hg5.1
    have b10 := cell_of_row w5 gb 10 _ 60 (0, 0) hg5.1
    simp at b0 b1 b2 b3 b4 b5 b6 b7 b8 b9 b10
    have hrow5 := hX5.ca.row.own
    have hcl5 : ({ K1 with X := X' } : KW).calls.length = len := He.out.2.1
    rw [hcl5] at hrow5
    have ngc : Hid ((Value.slice ca len cc).ownBlock ≠ some g) := own_ne_block hrow5 hX5.hg (by decide)
    have nbc : Hid ((Value.slice ca len cc).ownBlock ≠ some gb) := fun e => by
      have t1 := hX5.ca.row.tag gb e
      rw [hg5.2] at t1
      omega
    have HP5 := hid hP5
    have HX5 := hid hX5
    have HG5 := hid hg5
    have HR5 := hid hrow5
    have HK5 := hid (HK4.out.trans (hk5.mono (Q := Pc) fun t e => by unfold Pc; omega))
    have hm2 : Hid (len + 1 ≤ maxLen) := by unfold Hid maxLen; omega
    have hb2 : Hid ((len + 1) * 128 ≤ 140737488355328) := by unfold Hid; omega
    clear hk5 hX5 hg5 hrow5 hP5 HS HX4 HG4 HK4 HCl
    go_upto_region 28 with (go_at_call 55; refine HP5.out.mono ?_; rintro en w' ⟨rfl, hww⟩; have hww := hww.symm; subst hww)
    go_cut [] from 53 to 162 (fun wy => ∃ gg capp tagy, Hid (KSt (fun t => t = 1 ∨ t = 4) w5 (tagTo (tagTo tag1 w1.heap.size 9) W4.heap.size 5) wy tagy) ∧ Hid (WdX wy tagy g p q' n m v ce { K1 with X := X', calls := K1.calls ++ [c] } pv (.slice (some ⟨ab, 0, none⟩) 1 ac) lv (.slice (some ⟨gg, 0, none⟩) (len + 1) capp) hv ps (cs1 ++ callR len c) ls))
    case first =>
      go_region_law
        ((refine step_append_lies _ (by rfl) _ _ _ (by rfl) 0 60 i60 _ 11 128 Tryz.underlying64 j60 r0 r1 r2 rfl (by omega) _ len cs1 (by rfl) ((HR5.out.alloc _).drew)
            ⟨w5.heap.size, 0, none⟩ 1 1 [.int .i64 0, .int .i64 len, .int .i64 2, .int .i64 at0, .string { data := #[] }, .slice none 0 0, .int .i64 K1.now, .int .i64 0, .int .i64 0, .int .i64 0, .slice none 0 0] (by rfl) (by rfl) (World.news_of_block (cs := #[.int .i64 0, .int .i64 len, .int .i64 2, .int .i64 at0, .string { data := #[] }, .slice none 0 0, .int .i64 K1.now, .int .i64 0, .int .i64 0, .int .i64 0, .slice none 0 0]) (t := 60) (fr := (0, 0)) (heap_alloc_new w5 _)) (by simp [Value.oneCell'])
            (by omega) hm2.out hb2.out (by simp) (w5.heap.size + 1) (by simp) ?_; intro gg cp w6 hown6 hgrow6 hat6 hlt6; have kc := (far (((Bl.refl w5).alloc _).drew) hgrow6 (o := 7) lg5 ngc.out).1.trans c7; have kf := (far (((Bl.refl w5).alloc _).drew) hgrow6 (o := 7) lg5 ngc.out).2.trans f7; have lg6 : g < w6.heap.size := (by have := hgrow6.size; simp at this; omega); have HX6 := hid (And.intro hown6 (And.intro hgrow6 (And.intro hat6 hlt6))); clear hown6 hgrow6 hat6 hlt6))
      all_goals (go_wp2_with fail; go_meet)
      all_goals
        obtain ⟨hown6, hgrow6, hat6, hlt6⟩ := HX6.out
        have hX' := HX5.out
        rw [← hcl5] at hX'
        have hnews : callR len c = [.int .i64 0, .int .i64 len, .int .i64 2, .int .i64 at0, .string { data := #[] }, .slice none 0 0, .int .i64 K1.now, .int .i64 0, .int .i64 0, .int .i64 0, .slice none 0 0] := by rw [Hc.out]; rfl
        have hpp := hX'.pushCall (((Bl.refl w5).alloc (.cells #[.int .i64 0, .int .i64 len, .int .i64 2, .int .i64 at0, .string { data := #[] }, .slice none 0 0, .int .i64 K1.now, .int .i64 0, .int .i64 0, .int .i64 0, .slice none 0 0] 60)).drew) (c := c) (by rw [Hc.out]) (by rw [Hc.out]) (gg := gg) (cp := cp) (by rw [hcl5, hnews]; exact hown6) (by rw [hcl5]; exact hgrow6) (by rw [hcl5]; exact hat6.imp (fun e => e) (fun e => by omega))
        rw [hcl5] at hpp
        obtain ⟨tag2, p1, p2⟩ := hpp
        exact ⟨gg, cp, tag2, p1, p2⟩
    case rest =>
      obtain ⟨gg, capp, tagy, HKy, HXy⟩ := hcut
      have hgy := HKy.out.heap HG5.out.1 HG5.out.2 (by omega)
      have y1 := cell_of_row wc gb 1 _ 60 (0, 0) hgy.1
      simp at y1
      have lgby : gb < wc.heap.size := (Array.getElem?_eq_some_iff.1 hgy.1).1
      have HWb := hid (watch_any HXy.out HW2.out hnm)
      have HKz := hid (HK5.out.trans (HKy.out.mono fun t e => by unfold Pc; omega))
      clear hgy HKy HX5 HG5 HR5 HK5 HP5 b0 b1 b2 b3 b4 b5 b6 b7 b8 b9 b10 c7 f7
      go_wp2_with (go_at_call 53; refine HWb.out.mono ?_; rintro en w9 ⟨rfl, tag9, k9, cs9, h9⟩; have HK9 := hid k9; have HX9 := hid h9; clear k9 h9)
      go_ret
      exact ⟨rfl, tag9, HKz.out.trans (HK9.out.mono fun t e => by unfold P14 at e; unfold Pc; omega), _, _, _, HX9.out⟩

end
end Go.Proofs.YtnhjmiglegdamaaGreat
