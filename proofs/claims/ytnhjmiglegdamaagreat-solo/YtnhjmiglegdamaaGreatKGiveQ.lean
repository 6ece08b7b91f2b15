-- A token is given.
import Derived.Test.YtnhjmiglegdamaaGreatKGive0Q
import Derived.Test.YtnhjmiglegdamaaGreatSCRecvSDoorsSGiveSFurKPureQ
import Derived.Deep.DeepCutAuto
import Derived.Deep.RegionHeld3
import Derived.Deep.RegionLaw
namespace Go.Proofs.YtnhjmiglegdamaaGreat
open Go.RowKit Go.Maps
attribute [local go_sem ↓] Go.wp_at_zero Go.wp_at_succ
section
variable {w : World} {tag : Nat → Nat} {g p q n m v : Nat} {ce : Int} {K : KW} {pv av lv cv hv : Value} {ps cs ls : List Value}
set_option maxRecDepth 100000 in
set_option maxHeartbeats 8000000 in
theorem give_any (h : WdX w tag g p q n m v ce K pv av lv cv hv ps cs ls) (hnm : n * m + v ≤ 20) (hl : K.calls.length ≤ 60) {i : Nat} {d : PK} (hd : K.calls[i]? = some d) (hdk : d.kind = 1) (hdf : d.fin = 0) (hdt : d.tokens.length ≤ 1000) {c : PC} (hc : K.X.pend = some c) (hw : c.wants = true) (hnum : c.num = i) (t : Int) (X' : CX)
    (hG : ∀ (W : World) (tagW : Nat → Nat), Cl W tagW 5 p q n m v ce 1000 K.X → Calls Tryz.prog 25 #[.pointer (some ⟨p, 0, none⟩), .int .i64 i, .int .i64 t] W fun en w' => en = .returned (.int .i64 0) ∧ CStep W tagW 5 p q n m v ce 1000 X' w') (hhad : K.had ≤ 100000) (hW : WatchOk { K with X := X', calls := K.calls.set i { d with tokens := d.tokens ++ [t] }, had := K.had + 1 }) :
    Calls Tryz.prog 29 #[.pointer (some ⟨g, 0, none⟩), .int .i64 0, .int .i64 0, .int .i64 t] w fun en w' => en = .returned (.bool true) ∧ ∃ tag', KSt Pc w tag w' tag' ∧ ∃ hv' cs', WdX w' tag' g p q n m v ce ({ K with X := X', calls := K.calls.set i { d with tokens := d.tokens ++ [t] }, had := K.had + 1 } : KW).watch pv av lv cv hv' ps cs' ls := by
  obtain ⟨i3, j3, r0, r1, r2⟩ := info_parts Tryz.info3
  obtain ⟨aa, ac, rfl⟩ := h.ac.shape
  obtain ⟨ab, rfl, _, lab, hace, _⟩ := h.ac.cells (by decide)
  obtain ⟨ca, cc, rfl⟩ := h.ca.row.shape
  obtain ⟨hs0, hh0⟩ := h.ha
  obtain ⟨hva, hvc, rfl⟩ := hh0.shape
  have hil := (List.getElem?_eq_some_iff.1 hd).1
  obtain ⟨cb, rfl, _⟩ := h.ca.row.cells (by omega)
  have a1 := hace 1 (by decide)
  have a2 := hace 2 (by decide)
  simp only [List.getElem?_cons_zero, List.getElem?_cons_succ] at a1 a2
  have c5 := h.cellAt 5 rfl
  have lg := h.lt
  have HP0 := hid (fun W => pick_any 0 1 W (by decide) (by decide) (by decide) (by decide))
  have hpk0 : pk 0 1 = 0 := by decide
  rw [hpk0] at HP0
  have hwl : K.X.wantsL = [i] := by unfold CX.wantsL; rw [hc]; simp [hw, hnum]
  have HWa : Hid (Calls Tryz.prog 24 #[.pointer (some ⟨p, 0, none⟩)] w fun en w' => ∃ gl wc, en = .returned (.slice (some ⟨gl, 0, none⟩) 1 wc) ∧ Bl w w' ∧ gl < w'.heap.size ∧ w'.cell? ⟨gl, 0, none⟩ = some (.int .i64 i)) := by
    obtain ⟨lv, rv, vv, nv, av, bm, born, clk, hcl⟩ := h.cl
    refine (cl_wantsF hcl).mono ?_
    rintro en w' ⟨a, c', e1, e2, e3⟩
    rw [hwl] at e1 e3
    obtain ⟨gl, rfl, e4, e5⟩ := e3 i rfl
    exact ⟨gl, c', e1, e2, e4, e5⟩
  obtain ⟨len, hlen⟩ : ∃ len, K.calls.length = len := ⟨_, rfl⟩
  have H := hid h
  have HG := hid hG
  have HW := hid hW
  have Hd := hid hd
  have HL := hid hlen
  rw [hlen] at hl hil ⊢
  obtain ⟨dd, hdd⟩ : ∃ dd, ({ d with tokens := d.tokens ++ [t] } : PK) = dd := ⟨_, rfl⟩
  rw [hdd] at HW ⊢
  clear h hG hW hd hace hpk0 hc hw hnum hwl hlen hh0
  go_enter Tryz.func29, Tryz.ntmps29
  go_upto_region 5 with (first | (go_at_call 15; refine (HP0.out _).mono ?_; rintro en w' ⟨rfl, hww⟩; have hww := hww.symm; subst hww) | (go_at_call 24; refine HWa.out.mono ?_; rintro en w1 ⟨gl, wcap, rfl, hb1, lgl, xgl⟩; have HB1 := hid hb1; clear hb1))
  clear HWa c5 a1 a2 HP0
  have HP1 := hid (fun W => pick_any 0 1 W (by decide) (by decide) (by decide) (by decide))
  rw [show pk 0 1 = 0 by decide] at HP1
  go_wp2
  go_loopw [11] (fun j wr => ∃ k : Int, (k = 0 ∨ k = 1) ∧ j = .int .i64 k ∧ Hid (Bl w1 wr)) (fun j _ => 1 - (Go.RowKit.intOf j).toNat)
  case atStart => exact ⟨0, .inl rfl, rfl, Bl.refl _⟩
  case round =>
    obtain ⟨k, hk, rfl, HB⟩ := hrel
    have bW := HB1.out.trans HB.out
    have xr := (HB.out.cell lgl).trans xgl
    have lgr := Nat.lt_of_lt_of_le lgl HB.out.lt
    have hX := H.out.bl (tag' := tagTo tag w.heap.size 9) bW fun b hb => tagTo_old _ _ _ _ hb
    rcases hk with rfl | rfl
    · have HWn := hid (wants_any hX (by rw [HL.out]; omega) Hd.out hdk hdf)
      clear hX
      go_upto_region 9 with (go_at_call 56; refine HWn.out.mono ?_; rintro en w2 ⟨rfl, hb2⟩; have HB2 := hid hb2; clear hb2)
      go_quiet (fail)
      go_wp2
      exact ⟨⟨1, .inr rfl, by go_num, (HB.out.trans HB2.out).drewN _⟩, by simp [Go.RowKit.intOf]⟩
    · have HX := hid hX
      have HBW := hid bW
      clear hX bW
      go_upto_region 14 with (go_at_call 15; refine (HP1.out _).mono ?_; rintro en w' ⟨rfl, hww⟩; have hww := hww.symm; subst hww)
      obtain ⟨d2, hd2⟩ : ∃ d2, dd = d2 := ⟨_, rfl⟩
      have HKw : Hid (KSt Pc w tag wr (tagTo tag w.heap.size 9)) := KSt.of_bl' HBW.out fun b hb => tagTo_old _ _ _ _ hb
      clear HBW HB xr lgr HB1 xgl lgl
      subst hd2
      have hd2 := hdd
      go_wp2
      go_loopw [14] (fun j wx => ∃ (k : Nat) (tag' : Nat → Nat) (cs' : List Value), k ≤ len ∧ j = .int .i64 k ∧ Hid (KSt Pc w tag wx tag') ∧ (i < k → Hid (WdX wx tag' g p q n m v ce { K with calls := K.calls.set i dd } pv (.slice (some ⟨ab, 0, none⟩) 1 ac) lv (.slice (some ⟨cb, 0, none⟩) len cc) (.slice hva K.had hvc) ps cs' ls)) ∧ (¬ i < k → Hid (WdX wx tag' g p q n m v ce K pv (.slice (some ⟨ab, 0, none⟩) 1 ac) lv (.slice (some ⟨cb, 0, none⟩) len cc) (.slice hva K.had hvc) ps cs' ls))) (fun j _ => len - (Go.RowKit.intOf j).toNat)
      case atStart => exact ⟨0, _, cs, Nat.zero_le _, rfl, HKw, fun e => by omega, fun _ => by have := HX.out; rw [HL.out] at this; exact this⟩
      case round =>
        clear HX HKw
        obtain ⟨j, tag', cs', hj, rfl, HKx, HA, HB⟩ := hrel
        obtain ⟨Kc, HXc, hKcl, hKc⟩ : ∃ Kc, Hid (WdX wr tag' g p q n m v ce Kc pv (.slice (some ⟨ab, 0, none⟩) 1 ac) lv (.slice (some ⟨cb, 0, none⟩) len cc) (.slice hva K.had hvc) ps cs' ls) ∧ Kc.calls.length = len ∧ (¬ i < j → Kc.calls = K.calls) := by
          by_cases e : i < j
          · exact ⟨_, HA e, by simp only [List.length_set]; exact HL.out, fun e' => absurd e e'⟩
          · exact ⟨_, HB e, HL.out, fun _ => rfl⟩
        have c7 := HXc.out.cellAt 7 rfl
        have c9 := HXc.out.cellAt 9 rfl
        have lgr := HXc.out.lt
        have HAB := hid (And.intro HA HB)
        clear HA HB
        by_cases hjl : j < len
        · have hjI : (j : Int) < (len : Int) := by omega
          obtain ⟨x, hx⟩ : ∃ x, Kc.calls[j]? = some x := ⟨_, List.getElem?_eq_getElem (by omega)⟩
          have hrow := HXc.out.ca.row
          rw [hKcl] at hrow
          obtain ⟨cb', ecb, _, lcb, hce, hfr⟩ := hrow.cells (by omega)
          simp only [Option.some.injEq, Addr.mk.injEq, and_true] at ecb
          subst ecb
          obtain ⟨tv, rv, e0, e1, e2, e3, e4, e5, e6, e7, e8, e9, e10, e11, e12⟩ := HXc.out.ca.c j x hx
          have d0 := (hce (j * 11) (by omega)).trans e0
          have d1 := (hce (j * 11 + 1) (by omega)).trans e1
          have d5 := (hce (j * 11 + 5) (by omega)).trans e5
          have f5 := hfr (j * 11 + 5)
          by_cases hij : j = i
          · subst hij
            have hxd : x = d := by
              have := hKc (by omega)
              rw [this, Hd.out] at hx
              simpa using hx.symm
            subst hxd
            obtain ⟨ta, tc, rfl⟩ := e11.shape
            have HT := hid e11
            have He5 := hid e5
            have ntc : Hid ((Value.slice ta x.tokens.length tc).ownBlock ≠ some cb) := fun e => by
              have t1 := e11.tag cb e
              have t2 := HXc.out.ca.row.tag cb rfl
              omega
            have ntg : Hid ((Value.slice ta x.tokens.length tc).ownBlock ≠ some g) := fun e => by
              have t1 := e11.tag g e
              have t2 := HXc.out.tg
              omega
            have hm2 : Hid (x.tokens.length + 1 ≤ maxLen) := by unfold Hid maxLen; omega
            have hb2 : Hid ((x.tokens.length + 1) * 8 ≤ 140737488355328) := by unfold Hid; omega
            clear hce hfr e0 e1 e2 e3 e4 e5 e6 e7 e8 e9 e10 e11 e12 hrow hx
            go_upto_region 18 with fail
            go_region_law
              ((refine step_append_lies _ (by rfl) _ _ _ (by rfl) 0 3 i3 _ 1 8 Tryz.underlying24 j3 r0 r1 r2 rfl (by omega) _ x.tokens.length (x.tokens.map (Value.int .i64)) (by rfl) ((HT.out.own.alloc _).drew)
                  ⟨wr.heap.size, 0, none⟩ 1 1 [.int .i64 t] (by rfl) (by rfl) (World.news_of_block (cs := #[.int .i64 t]) (t := 3) (fr := (0, 0)) (heap_alloc_new wr _)) (by simp [Value.oneCell'])
                  (by omega) hm2.out hb2.out (by simp) (wr.heap.size + 1) (by simp) ?_; intro gg cp w6 hown6 hgrow6 hat6 hlt6; have kc5 := (far (((Bl.refl wr).alloc _).drew) hgrow6 (o := j * 11 + 5) lcb ntc.out).1.trans d5; have kf5 := (far (((Bl.refl wr).alloc _).drew) hgrow6 (o := j * 11 + 5) lcb ntc.out).2.trans f5; have kc7 := (far (((Bl.refl wr).alloc _).drew) hgrow6 (o := 7) lgr ntg.out).1.trans c7; have lg6 : g < w6.heap.size := (by have := hgrow6.size; simp at this; omega); have lcb6 : cb < w6.heap.size := (by have := hgrow6.size; simp at this; omega); have HX6 := hid (And.intro hown6 (And.intro hgrow6 (And.intro hat6 hlt6))); clear hown6 hgrow6 hat6 hlt6))
            all_goals (go_wp2_with fail)
            all_goals
              obtain ⟨hown6, hgrow6, hat6, hlt6⟩ := HX6.out
              obtain ⟨tag2, p1, p2⟩ := (HAB.out.2 (by omega)).out.pushTok HL.out hnm Hd.out He5.out (((Bl.refl wr).alloc (.cells #[.int .i64 t] 3)).drew) (gg := gg) (cp := cp) hown6 hgrow6 (hat6.imp (fun e => e) (fun e => by omega))
              rw [hd2] at p2
              exact ⟨⟨j + 1, tag2, _, by omega, by go_num, HKx.out.trans (p1.mono fun s e => by unfold Pc; omega), fun _ => p2, fun e => absurd (Nat.lt_succ_self j) e⟩, by simp [Go.RowKit.intOf]; omega⟩
          · have hne : ¬ ((j : Int) = (i : Int)) := by omega
            clear hce hfr e0 e1 e2 e3 e4 e5 e6 e7 e8 e9 e10 e11 e12 hrow hx
            go_wp2
            exact ⟨⟨j + 1, tag', cs', by omega, by go_num, HKx, fun e => HAB.out.1 (by omega), fun e => HAB.out.2 (by omega)⟩, by simp [Go.RowKit.intOf]; omega⟩
        · have hjge : ¬ ((j : Int) < (len : Int)) := by omega
          have HXd := HAB.out.1 (by omega)
          obtain ⟨hs, hh⟩ := HXd.out.ha
          have ngh : Hid ((Value.slice hva K.had hvc).ownBlock ≠ some g) := own_ne_block hh.own HXd.out.hg (by decide)
          have f9 := frozen_of_row wr g 9 _ 66 HXd.out.hg
          have HH := hid hh
          have hm2 : Hid (K.had + 1 ≤ maxLen) := by unfold Hid maxLen; omega
          have hb2 : Hid ((K.had + 1) * 8 ≤ 140737488355328) := by unfold Hid; omega
          clear hh HAB HXc hKc hKcl Kc
          go_upto_region 19 with fail
          go_upto_region 20 with (at_builtin; refine wpList_append_lies _ rfl _ _ 24 rfl 0 3 i3 (.int .i64 0) 1 8 Tryz.underlying24 j3 r0 r1 r2 rfl (by decide) _ K.had hs rfl (HH.out.own.alloc _) ⟨wr.heap.size, 0, none⟩ 1 1 [.int .i64 t] rfl rfl (cell_one_new _ _ _) (by simp [Value.oneCell']) (by decide) hm2.out hb2.out (by simp) (wr.heap.size + 1) (by simp) ?_; intro gg cp w6 hown6 hgrow6 hat6 hlt6; have kc9 := (far ((Bl.refl wr).alloc _) hgrow6 (o := 9) lgr ngh.out).1.trans c9; have kf9 := (far ((Bl.refl wr).alloc _) hgrow6 (o := 9) lgr ngh.out).2.trans f9; have lg6 : g < w6.heap.size := (by have := hgrow6.size; simp at this; omega); have HX6 := hid (And.intro hown6 (And.intro hgrow6 (And.intro hat6 hlt6))); clear hown6 hgrow6 hat6 hlt6)
          obtain ⟨hown6, hgrow6, hat6, hlt6⟩ := HX6.out
          obtain ⟨tag7, k7, h7⟩ := HXd.out.pushHad ((Bl.refl wr).alloc (.cells #[.int .i64 t] 3)) (gg := gg) (cp := cp) hown6 hgrow6 (hat6.imp (fun e => e) (fun e => by omega))
          obtain ⟨W7, hW7⟩ : ∃ W7, w6.setCell ⟨g, 9, none⟩ (.slice (some ⟨gg, 0, none⟩) (K.had + 1) cp) = W7 := ⟨_, rfl⟩
          rw [hW7] at k7 h7
          rw [hW7]
          have c5 := h7.cellAt 5 rfl
          have lg7 := h7.lt
          obtain ⟨ab', eab, _, lab7, hace, _⟩ := h7.ac.cells (by decide)
          simp only [Option.some.injEq, Addr.mk.injEq, and_true] at eab
          subst eab
          have a1 := hace 1 (by decide)
          simp only [List.getElem?_cons_zero, List.getElem?_cons_succ] at a1
          have HGv := hid (HG.out W7 tag7 h7.cl)
          have H7 := hid h7
          have HK7 := hid (HKx.out.trans (k7.mono (Q := Pc) fun s e => by unfold Pc; omega))
          clear hown6 hgrow6 hat6 hlt6 HX6 k7 h7 hW7 hace kc9 kf9 c7 c9 f9 HXd HKx HH
          go_wp2_with (first | (go_at_call 25; refine HGv.out.mono ?_; rintro en w8 ⟨rfl, hS⟩; have hX8 := H7.out.reCli hS.kst hS.1; have HWb := hid (watch_any hX8 HW.out hnm); have HK8 := hid (HK7.out.trans (hS.kst.mono (Q := Pc) fun s e => by unfold Pc; omega)); clear hS hX8) | (go_at_call 53; refine HWb.out.mono ?_; rintro en w9 ⟨rfl, tag9, k9, cs9, h9⟩; have HK9 := hid k9; have HX9 := hid h9; clear k9 h9))
          go_ret
          exact ⟨rfl, tag9, HK8.out.trans (HK9.out.mono fun s e => by unfold P14 at e; unfold Pc; omega), _, _, HX9.out⟩
end
end Go.Proofs.YtnhjmiglegdamaaGreat
