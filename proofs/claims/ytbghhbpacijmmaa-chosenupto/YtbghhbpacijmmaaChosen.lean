-- Chosen.
import Derived.Test.YtbghhbpacijmmaaProw
import Derived.Deep.DeepCutAuto
namespace Go.Proofs.Ytbghhbpacijmmaa
open Go.RowKit Go.Maps
attribute [local go_sem ↓] Go.wp_at_zero Go.wp_at_succ

set_option maxRecDepth 100000 in
set_option maxHeartbeats 60000000 in
theorem chosen_any (vo eo : Int) (ta : Option Addr) (m tc : Nat) (w : World) (hvo : -9223372036854775808 ≤ vo ∧ vo ≤ 9223372036854775807) (heo : -9223372036854775808 ≤ eo ∧ eo ≤ 9223372036854775807) (hts : Trs w ta m) (hm : m ≤ 500000) :
    Calls Try.prog 4 #[.int .i64 vo, .int .i64 eo, .slice ta m tc] w fun en w' => en = .returned (.bool true) ∧ Bl w w' := by
  have Hts := hid hts
  have K1 := hid (pick_nat vo 3 w hvo (by omega) (by omega))
  have K2 := hid (pick_nat eo 1000 w heo (by omega) (by omega))
  have l1 := pk_lt vo 3 (by omega)
  have l2 := pk_lt eo 1000 (by omega)
  obtain ⟨i43, ji, jz0, jz1, jz2⟩ := info_parts Try.info43
  clear hts hvo heo
  generalize (pk vo (3 : Nat)).toNat = v0 at *
  generalize (pk eo (1000 : Nat)).toNat = e0 at *
  go_enter Try.func4, Try.ntmps4
  go_wp2_with fail
  refine K1.out.mono ?_
  rintro en w1 ⟨rfl, rfl⟩
  clear K1
  go_wp2_with fail
  refine K2.out.mono ?_
  rintro en w2 ⟨rfl, rfl⟩
  clear K2
  go_wp2
  generalize hn : (1 + 2 * (v0 : Int)) = nI
  obtain ⟨n, rfl⟩ : ∃ n : Nat, nI = (n : Int) := ⟨1 + 2 * v0, by omega⟩
  generalize he : 1 + (e0 : Int) = e
  have hn1 : 1 ≤ n := by omega
  have hn5 : n ≤ 5 := by omega
  have he1 : 1 ≤ e := by omega
  have he2 : e ≤ 1000 := by omega
  clear hn he
  go_loopw [9, 10] (fun sv iv wr => ∃ i : Nat, i ≤ n ∧ iv = .int .i64 i ∧ Hid (Mk w2 i e sv wr)) (fun _ iv _ => n - (intOf iv).toNat)
  case atStart => exact ⟨0, Nat.zero_le _, rfl, mk_zero w2 e⟩
  case round =>
    obtain ⟨i, hi, rfl, HM⟩ := hrel
    by_cases hlt : i < n
    · have hlt' : (i : Int) < (n : Int) := by omega
      have HP := hid (mk_open HM.out)
      go_wp2_with fail
      refine HP.out.mono ?_
      rintro en w1 ⟨p, rfl, hM1⟩
      have HP1 := hid (mk_prep hM1 (by omega) (by omega) he2)
      clear HP hM1
      go_wp2_with fail
      refine HP1.out.mono ?_
      rintro en w3 ⟨va, vc, rfl, hM2⟩
      have HP2 : Hid (∀ W v, Bl w3 W → Bs W v (otherB.map B8) → (∀ g, v.ownBlock = some g → w3.heap.size ≤ g ∧ g < W.heap.size) → _) := hid (fun W v h1 h2 h3 => mk_acc hM2 h1 (by omega) (by omega) he2 v h2 h3)
      clear HP1 hM2
      unfold voteR
      have kc := conv22 #[.int .u8 111, .int .u8 116, .int .u8 104, .int .u8 101, .int .u8 114] 5 5 w3 (.cells #[.int .i64 1, .int .i64 1, .int .i64 0, .slice va 0 vc] 48)
      go_wp2_with fail
      refine (HP2.out _ _ (((Bl.refl w3).alloc _).alloc _) (.inr ⟨⟨w3.heap.size + 1, 0, none⟩, 5, rfl, fun j u hj => ?_⟩) (fun g hg => ?_)).mono ?_
      · rw [add_eq, Nat.zero_add, cell_of_row _ _ j _ 5 _ (heap_alloc_new' w3 _ _)]
        simpa [otherB, B8] using hj
      · simp [Value.ownBlock] at hg
        subst hg
        simp
      rintro en w4 ⟨rfl, hM3, hK⟩
      have n0 := (hK w3.heap.size (by omega) (by simp; omega)).trans ((((Bl.refl _).alloc _).heap (by simp)).trans (heap_alloc_new w3 _))
      have n1 := cell_of_row w4 w3.heap.size 0 _ 48 (0, 0) n0
      have n2 : w3.heap.size < w4.heap.size := (Array.getElem?_eq_some_iff.1 n0).1
      obtain ⟨xs, hown, hnext⟩ := (hM3.turn ((Bl.refl w4).alloc (.cells #[.int .i64 1, .int .i64 1, .int .i64 0, .slice none 0 0] 48))).own (by omega)
      have Hown := hid hown
      have Hnext := hid hnext
      have lw : w2.heap.size ≤ w4.heap.size := hM3.bl.lt
      have kn := hid (cell_one_new' w4 (.cells #[.int .i64 1, .int .i64 1, .int .i64 0, .slice none 0 0] 48) (.pointer (some ⟨p, 0, none⟩)) 43)
      have hby : Hid ((i + 1) * 8 ≤ 140737488355328) := by unfold Hid; omega
      have hml : Hid (i + 1 ≤ maxLen) := by unfold Hid maxLen; omega
      clear HP2 kc hK n0 hM3 HM hown hnext
      unfold voteR
      go_wp2_with (at_builtin; refine wpList_append_lies _ rfl _ _ 42 rfl w2.heap.size 43 i43 (.pointer none) 1 8 Try.underlying42 ji jz0 jz1 jz2 rfl (by decide) _ i _ rfl (Hown.out.alloc _) ⟨w4.heap.size + 1, 0, none⟩ 1 1 [.pointer (some ⟨p, 0, none⟩)] rfl rfl kn.out (by simp [Value.oneCell']) (by decide) hml.out hby.out (by simp; omega) (w4.heap.size + 2) (by simp) ?_)
      intro g cap w5 hown5 hgrow hat hlt5
      have HF := hid (Hnext.out _ _ (Grew.of_lies' hown5 hgrow hat))
      clear hown5 hgrow hat Hown Hnext kn
      go_wp2
      go_roundw
      case rel => exact ⟨i + 1, by omega, by go_num, HF.out⟩
      case measure => simp [intOf]; omega
    · obtain rfl : n = i := by omega
      have hown : ∃ vb cap, u9 = .slice (some ⟨vb, 0, none⟩) n cap := by
        obtain ⟨tag, P, _, _, _, h4⟩ := HM.out.ex
        exact own_shape h4 (by omega)
      obtain ⟨vb, vcp, rfl⟩ := hown
      obtain ⟨w6, rfl⟩ : ∃ w6, w6 = wr := ⟨_, rfl⟩
      go_wp2
      go_loopw [17] (fun iv wr2 => ∃ j : Nat, j ≤ 3 ∧ iv = .int .i64 j ∧ wr2 = loadedTo w6 j) (fun iv _ => 3 - (intOf iv).toNat)
      case atStart => exact ⟨0, Nat.zero_le _, rfl, rfl⟩
      case round =>
        obtain ⟨j, hj, rfl, hw9⟩ := hrel
        have hcase : j = 0 ∨ j = 1 ∨ j = 2 ∨ j = 3 := by omega
        rcases hcase with rfl | rfl | rfl | rfl
        · simp only [loadedTo, prow, nmRow] at hw9
          simp at hw9
          subst hw9
          go_wp2
          go_roundw
          case rel => exact ⟨1, by omega, by go_num, by simp [loadedTo, prow, nmRow]⟩
          case measure => simp [intOf]
        · simp only [loadedTo, prow, nmRow] at hw9
          simp at hw9
          subst hw9
          go_wp2
          go_roundw
          case rel => exact ⟨2, by omega, by go_num, by simp [loadedTo, prow, nmRow]⟩
          case measure => simp [intOf]
        · simp only [loadedTo, prow, nmRow] at hw9
          simp at hw9
          subst hw9
          go_wp2
          go_roundw
          case rel => exact ⟨3, by omega, by go_num, by simp [loadedTo, prow, nmRow]⟩
          case measure => simp [intOf]
        · have HC := hid (cm_start HM.out)
          have HSt := hid (Sc.start n (fun _ => nop) (fun _ => rfl))
          subst hw9
          generalize loadedTo w6 3 = w7 at *
          generalize w6.heap.size + 1 = nb at *
          generalize w6.heap.size = psb at *
          clear HM
          go_wp2
          go_loopw [18, 19, 20] (fun cv rv iv wr => ∃ (i : Nat) (ep : Nat → Ep) (ps : Nat → PS) (rd : Int) (ch : List Int), i ≤ m ∧ cv = .string (strOf ch) ∧ rv = .int .i64 rd ∧ iv = .int .i64 i ∧ Hid (Sc n i ep ps rd ch) ∧ Hid (Cm w2 n e vb psb nb (2 * n + i) ep ps wr)) (fun _ _ iv _ => m - (intOf iv).toNat)
          case atStart => exact ⟨0, _, _, 0, [], Nat.zero_le _, rfl, rfl, rfl, HSt.out, HC.out⟩
          case round =>
            clear HC HSt
            obtain ⟨i, ep, ps, rd, ch, him, rfl, rfl, rfl, HSt, HC⟩ := hrel
            by_cases hlt : i < m
            · obtain ⟨b, o, hb, hc⟩ := Hts.out
              obtain ⟨rfl, hbl⟩ := hb (by omega)
              obtain ⟨x, y, z, ⟨d0, d1, d2⟩, hx, hy, hz⟩ := hc i hlt
              have g0 := (HC.out.bl.cell hbl).trans d0
              have g1 := (HC.out.bl.cell hbl).trans d1
              have g2 := (HC.out.bl.cell hbl).trans d2
              have hlt' : (i : Int) < (m : Int) := by omega
              have K0 := hid (fun W => pick_nat x 3 W hx (by omega) (by omega))
              have K1 := hid (fun W => pick_nat y n W hy (by omega) (by omega))
              have K2 := hid (fun W => pick_nat z 4 W hz (by omega) (by omega))
              have hq := pk_lt x 3 (by omega)
              have hk := pk_lt y n (by omega)
              have hd := pk_lt z 4 (by omega)
              clear hb hc d0 d1 d2 hx hy hz
              generalize (pk x (3 : Nat)).toNat = q at *
              generalize (pk y n).toNat = k at *
              generalize (pk z (4 : Nat)).toNat = d at *
              go_wp2_with fail
              refine (K0.out _).mono ?_
              rintro en w8 ⟨rfl, rfl⟩
              go_wp2_with fail
              refine (K1.out _).mono ?_
              rintro en w9 ⟨rfl, rfl⟩
              go_wp2_with fail
              refine (K2.out _).mono ?_
              rintro en w9 ⟨rfl, rfl⟩
              clear K0 K1 K2 g0 g1 g2
              have hcase : d = 0 ∨ d = 1 ∨ d = 2 ∨ d = 3 := by omega
              rcases hcase with rfl | rfl | rfl | rfl
              · obtain ⟨lv, lp, ln⟩ := HC.out.lt
                have pc := HC.out.pc q hq
                have hnm := HC.out.name q hq
                have f := pc.fr
                have c0 := pc.ask
                have c1 := pc.bal
                have c2 := pc.prm 0 (by omega)
                have c3 := pc.prm 1 (by omega)
                have c4 := pc.prm 2 (by omega)
                have c5 := pc.prm 3 (by omega)
                have c6 := pc.prm 4 (by omega)
                have c7 := pc.vot 0 (by omega)
                have c8 := pc.vot 1 (by omega)
                have c9 := pc.vot 2 (by omega)
                have c10 := pc.vot 3 (by omega)
                have c11 := pc.vot 4 (by omega)
                have c12 := pc.bst
                have c13 := pc.val
                simp only [Nat.add_assoc, Nat.reduceAdd] at c2 c3 c4 c5 c6 c7 c8 c9 c10 c11
                have r0 := HSt.out.r0
                have r1 := HSt.out.r1
                have HF := hid (HC.out.fresh hn5 q hq (3 * (rd + 1) + q))
                have HS2 := hid (HSt.out.fresh q hq)
                clear pc HC HSt
                go_wp2
                go_roundw
                case rel => ((repeat apply Exists.intro); exact ⟨⟨i + 1, _, _, rd + 1, ch, by omega, rfl, by go_num, by go_num, HS2.out, HF.out.mono (by omega)⟩, rfl⟩)
                case measure => simp [intOf]; omega
              · obtain ⟨lv, lp, ln⟩ := HC.out.lt
                have pc := HC.out.pc q hq
                have c0 := pc.ask
                have c1 := pc.bal
                clear pc
                cases ha : (ps q).asks with
                | true =>
                  as_aux_lemma =>
                  rw [ha] at c0
                  have HS2 := hid HSt.out.next
                  have HF := hid (HC.out.mono (Nat.le_succ _))
                  clear ha HSt HC
                  go_wp2
                  go_roundw
                  case rel => ((repeat apply Exists.intro); exact ⟨⟨i + 1, _, _, rd, ch, by omega, rfl, rfl, by go_num, HS2.out, HF.out⟩, rfl⟩)
                  case measure => simp [intOf]; omega
                | false =>
                  rw [ha] at c0
                  have hbal := HSt.out.bal q hq
                  have hlow := HSt.out.low k hk
                  obtain ⟨p, hp, hyes, hno⟩ := cm_prep HC.out hk hn5 (ps q).ballot he1 (Go.WalkArith.wf_i64 (by omega)) (Go.WalkArith.wf_i64 (by omega)) (by omega)
                  have nv : w9.heap.size ≠ vb := Nat.ne_of_gt lv
                  have np : w9.heap.size ≠ psb := Nat.ne_of_gt lp
                  have hsz := hid (fun o => (by simp : w9.heap.size < ((w9.alloc o).drew).heap.size))
                  by_cases hb : 1 ≤ (ps q).ballot ∧ (ep k).pr < (ps q).ballot
                  · as_aux_lemma =>
                    have HP := hid (hyes hb.1 hb.2)
                    have HS1 := hid (HSt.out.promNo q k hq hk ha (by omega) hb.2)
                    have HS2 := hid (HSt.out.promYes q k hq hk ha (by omega) hb.2)
                    have Hhb := hid hb
                    clear ha hyes hno HSt HC hlow hb
                    go_upto_region 39 with fail
                    go_cut [24] (fun r wx => ∃ g va vc, r = .pointer (some ⟨g, 0, none⟩) ∧ Hid (An w9 wx g (.int .i64 1) (.int .i64 (ps q).ballot) (.int .i64 (ep k).ba) (.slice va (ep k).val.length vc)) ∧ Hid (wx.ownsRow w9.heap.size 5 1 (.slice va (ep k).val.length vc) (ep k).val.length ((ep k).val.map B8)) ∧ Hid (Cm w2 n e vb psb nb (2 * n + i + 1) (upN ep k ⟨(ps q).ballot, (ep k).ba, (ep k).val⟩) ps wx))
                    case first =>
                      go_region_held3 (fun W => W.cell? ⟨vb, k, none⟩ = some (.pointer (some ⟨p, 0, none⟩)) ∧ W.cell? ⟨psb, q * 14 + 1, none⟩ = some (.int .i64 (ps q).ballot)) (go_keep)
                        (first | (go_at_call 16; refine (HP.out _ ?hb).mono ?_; (case hb => first | exact ((Bl.refl _).alloc _).drew | exact (Bl.refl _).drew | exact ((Bl.refl _).alloc _).drewN _ | exact (Bl.refl _).drewN _ | exact Bl.refl _ | exact (Bl.refl _).alloc _); rintro en w10 ⟨va, vc, rfl, hs, hcm, z0, hsi, hK⟩; have z1 := (hcm.pc q hq).bal; have nv2 : w10.heap.size ≠ vb := Nat.ne_of_gt hcm.lt.1; have np2 : w10.heap.size ≠ psb := Nat.ne_of_gt hcm.lt.2.1; have HBs := hid hsi; (first | (have hN : w10.heap[w9.heap.size]? = some (.cells blankV 48 (0, 0)) := (hK _ (Nat.le_refl _) (hsz.out _)).1.trans (heap_alloc_new w9 _); have lN : w9.heap.size < w10.heap.size := (Array.getElem?_eq_some_iff.1 hN).1; have HKK := hid (hK _ (Nat.le_refl _) (hsz.out _)).2; obtain ⟨n0, n1, n2, n3, f0, f1, f2, f3⟩ := blankV_row hN; have HN := hid hN; clear hN) | skip); have HS := hid hs; have HM := hid hcm; clear hs hcm hK hsi; unfold voteR))
                      all_goals (go_wp2_with fail; go_meet)
                      all_goals first
                        | exact ⟨_, va, vc, rfl, an_set _ _ _ _ HN.out, (HKK.out _ (on_set _ _ _ _ _ _)).2, (HKK.out _ (on_set _ _ _ _ _ _)).1⟩
                        | exact ⟨_, va, vc, rfl, an_new _ _ _ _ HBs.out, HS.out.alloc _, HM.out.turn ((Bl.refl _).alloc _)⟩
                    case rest =>
                      obtain ⟨g, va, vc, rfl, HAn, HSl, HM⟩ := hcut
                      obtain ⟨a0, a2, a3⟩ := HAn.out.cells
                      have lg := HAn.out.lt
                      have pc := HM.out.pc q hq
                      have y1 := pc.bal
                      have y2 := pc.prm k (by omega)
                      have y3 := pc.fr
                      have lp2 := HM.out.lt.2.1
                      have gne : ¬ g = psb := by have := HAn.out.lo; omega
                      have hpos : 0 < (ps q).ballot := by have := Hhb.out.1; omega
                      clear pc HP hsz
                      go_upto_region 42 with fail
                      have O5 : Only (fun b => b = psb) wc (wc.setCell ⟨psb, q * 14 + 2 + k, none⟩ (.bool true)) := (Only.refl (fun b => b = psb) wc).setCell ⟨psb, q * 14 + 2 + k, none⟩ (.inl rfl) (.bool true)
                      have M5 := HM.out.setPrm hn5 q k hq (by omega) true
                      have A5 := HAn.out.only O5 gne
                      have S5 := O5.owns HSl.out fun b hb e => by have := (HSl.out.lt b hb).1; omega
                      obtain ⟨W5, hW5⟩ : ∃ W5, W5 = wc.setCell ⟨psb, q * 14 + 2 + k, none⟩ (.bool true) := ⟨_, rfl⟩
                      rw [← hW5] at M5 A5 S5
                      rw [← hW5]
                      clear hW5 O5 HM HAn HSl a0 a2 a3 lg y1 y2 y3 lp2
                      obtain ⟨a0, a2, a3⟩ := A5.cells
                      have lg := A5.lt
                      have pc := M5.pc q hq
                      rw [upN_same] at pc
                      have y4 : W5.cell? ⟨psb, q * 14 + 12, none⟩ = some (.int .i64 (ps q).best) := pc.bst
                      have y5 : W5.cell? ⟨psb, q * 14 + 13, none⟩ = some (.string (strOf (ps q).value)) := pc.val
                      have y3 := pc.fr
                      have lp2 := M5.lt.2.1
                      have HM := hid M5
                      have HAn := hid A5
                      have HSl := hid S5
                      clear M5 A5 S5 pc
                      by_cases hgt : (ps q).best < (ep k).ba
                      · have HS3 := hid (HS2.out (by omega))
                        clear HS1 HS2
                        go_quiet (fail)
                        go_upto_region 44 with fail
                        have O6 : Only (fun b => b = psb) W5 ((W5.drewN nq).setCell ⟨psb, q * 14 + 12, none⟩ (.int .i64 (ep k).ba)) := ((Only.refl (fun b => b = psb) W5).drewN nq).setCell ⟨psb, q * 14 + 12, none⟩ (.inl rfl) _
                        have M6 := (HM.out.turn ((Bl.refl _).drewN nq)).setBst hn5 q hq (ep k).ba
                        have A6 := HAn.out.only O6 gne
                        have S6 := O6.owns HSl.out fun b hb e => by have := (HSl.out.lt b hb).1; omega
                        obtain ⟨W6, hW6⟩ : ∃ W6, W6 = (W5.drewN nq).setCell ⟨psb, q * 14 + 12, none⟩ (.int .i64 (ep k).ba) := ⟨_, rfl⟩
                        rw [← hW6] at M6 A6 S6
                        rw [← hW6]
                        clear hW6 O6 HM HAn HSl a0 a2 a3 lg y3 y4 y5 lp2
                        rw [upN_upN, upN_same] at M6
                        obtain ⟨a0, a2, a3⟩ := A6.cells
                        have lg := A6.lt
                        have pc := M6.pc q hq
                        rw [upN_same] at pc
                        have y5 : W6.cell? ⟨psb, q * 14 + 13, none⟩ = some (.string (strOf (ps q).value)) := pc.val
                        have y3 := pc.fr
                        have lp2 := M6.lt.2.1
                        have kc := conv_any _ (ep k).val W6 (ownsRow_sl S6)
                        have M7 := M6.setVal hn5 q hq (ep k).val
                        rw [upN_upN, upN_same] at M7
                        have HM := hid M7
                        clear M6 M7 A6 S6 pc
                        go_wp2
                        go_roundw
                        case rel => ((repeat apply Exists.intro); exact ⟨⟨i + 1, _, _, rd, ch, by omega, rfl, rfl, by go_num, HS3.out, HM.out⟩, rfl⟩)
                        case measure => simp [intOf]; omega
                      · have HS3 := hid (HS1.out (by omega))
                        clear HS1 HS2
                        go_quiet (fail)
                        go_wp2
                        go_roundw
                        case rel => ((repeat apply Exists.intro); exact ⟨⟨i + 1, _, _, rd, ch, by omega, rfl, rfl, by go_num, HS3.out, HM.out.turn ((Bl.refl _).drewN _)⟩, rfl⟩)
                        case measure => simp [intOf]; omega
                  · as_aux_lemma =>
                    have HP := hid (hno (by omega))
                    have HS2 := hid HSt.out.next
                    have HF := hid (HC.out.mono (Nat.le_succ _))
                    have Hha := hid ha
                    clear ha hyes hno HSt HC hb hlow
                    generalize (ps q).ballot = B at *
                    generalize (ep k).pr = pr at *
                    go_upto_region 39 with fail
                    go_cut [24] (fun r wx => ∃ g, r = .pointer (some ⟨g, 0, none⟩) ∧ Hid (An w9 wx g (.int .i64 6) (.int .i64 pr) (.int .i64 0) (.slice none 0 0)) ∧ Hid (Bl w9 wx))
                    case first =>
                      go_region_held3 (fun W => W.cell? ⟨vb, k, none⟩ = some (.pointer (some ⟨p, 0, none⟩)) ∧ W.cell? ⟨psb, q * 14 + 1, none⟩ = some (.int .i64 B)) (go_keep)
                        (first | (go_at_call 16; refine (HP.out _ ?hb).mono ?_; (case hb => first | exact ((Bl.refl _).alloc _).drew | exact (Bl.refl _).drew | exact ((Bl.refl _).alloc _).drewN _ | exact (Bl.refl _).drewN _ | exact Bl.refl _ | exact (Bl.refl _).alloc _); rintro en w10 ⟨rfl, hbw, hbW⟩; have z0 := (hbw.cell lv).trans hp; have z1 := (hbw.cell lp).trans c1; have nv2 : w10.heap.size ≠ vb := Nat.ne_of_gt (Nat.lt_of_lt_of_le lv hbw.lt); have np2 : w10.heap.size ≠ psb := Nat.ne_of_gt (Nat.lt_of_lt_of_le lp hbw.lt); (first | (have hN : w10.heap[w9.heap.size]? = some (.cells blankV 48 (0, 0)) := (hbW.heap (hsz.out _)).trans (heap_alloc_new w9 _); have lN : w9.heap.size < w10.heap.size := (Array.getElem?_eq_some_iff.1 hN).1; obtain ⟨n0, n1, n2, n3, f0, f1, f2, f3⟩ := blankV_row hN; have HN := hid hN; clear hN) | skip); have HB := hid hbw; clear hbw hbW; unfold voteR))
                      all_goals (go_wp2_with fail; go_meet)
                      all_goals first
                        | exact ⟨_, rfl, an_set _ _ _ _ HN.out, bl_set _ _ _ _ HB.out⟩
                        | exact ⟨_, rfl, an_new _ _ _ _ HB.out.lt, HB.out.alloc _⟩
                    case rest =>
                      obtain ⟨g, rfl, HAn, HBw⟩ := hcut
                      obtain ⟨a0, a2, a3⟩ := HAn.out.cells
                      have lg := HAn.out.lt
                      have HF2 := hid (HF.out.turn HBw.out)
                      clear HF HP hsz
                      go_wp2
                      go_roundw
                      case rel => ((repeat apply Exists.intro); exact ⟨⟨i + 1, _, _, rd, ch, by omega, rfl, rfl, by go_num, HS2.out, HF2.out⟩, rfl⟩)
                      case measure => simp [intOf]; omega
              · obtain ⟨lv, lp, ln⟩ := HC.out.lt
                have pc := HC.out.pc q hq
                have c0 := pc.ask
                have c1 := pc.bal
                have c2 := pc.prm 0 (by omega)
                have c3 := pc.prm 1 (by omega)
                have c4 := pc.prm 2 (by omega)
                have c5 := pc.prm 3 (by omega)
                have c6 := pc.prm 4 (by omega)
                have c13 := pc.val
                have f := pc.fr
                simp only [Nat.add_assoc, Nat.reduceAdd] at c2 c3 c4 c5 c6
                clear pc
                have HK := hid (fun W => count_any (ps q).prom W)
                have hcn := HSt.out.cntP hn5 q hq
                have hle := cnt_le 5 (ps q).prom
                go_wp2_with fail
                refine (HK.out _).mono ?_
                rintro en w10 ⟨rfl, hb10⟩
                have HC10 := hid (HC.out.turn hb10)
                clear HC HK c0 c1 c2 c3 c4 c5 c6 c13 f hb10 lv lp ln
                by_cases hm2 : n < 2 * cnt 5 (ps q).prom
                · have hsk := HSt.out.ask q hq (by rw [← hcn]; exact hm2)
                  have HSk := hid hsk
                  obtain ⟨lv, lp, ln⟩ := HC10.out.lt
                  have pc := HC10.out.pc q hq
                  have c0 := pc.ask
                  have f := pc.fr
                  have Hcn := hid hcn
                  have hm3 : (n : Int) < 2 * (cnt 5 (ps q).prom : Nat) := by omega
                  clear pc hsk HSt hcn
                  go_upto_region 48 with fail
                  have M5 := HC10.out.setAsk hn5 q hq true
                  obtain ⟨W5, hW5⟩ : ∃ W5, W5 = w10.setCell ⟨psb, q * 14, none⟩ (.bool true) := ⟨_, rfl⟩
                  rw [← hW5] at M5
                  rw [← hW5]
                  clear hW5 HC10 c0 f lv lp ln
                  have HM5 := hid M5
                  have HS5 := hid HSk.out
                  clear HSk M5
                  obtain ⟨X, hX⟩ : ∃ X, X = ({ ps q with asks := true } : PS) := ⟨_, rfl⟩
                  have hask : Hid (X.asks = true) := by rw [hX]; exact rfl
                  rw [← hX] at HM5 HS5
                  have hXq : Hid (upN ps q X q = X) := upN_same _ _ _
                  generalize upN ps q X = ps5 at *
                  clear hX hle hm2 hm3 Hcn
                  obtain ⟨lv, lp, ln⟩ := HM5.out.lt
                  have pc := HM5.out.pc q hq
                  have HG := hid (HS5.out.pv q hq)
                  have hbal := HS5.out.bal q hq
                  have hlow := HS5.out.low k hk
                  obtain ⟨p, hp, hyes, hno⟩ := cm_acc HM5.out hk hn5 X.ballot he1 (Go.WalkArith.wf_i64 (by omega)) (Go.WalkArith.wf_i64 (by rw [hXq.out] at hbal; omega)) (by omega) hlow.2.1
                  rw [hXq.out] at pc HG hbal
                  have c1 := pc.bal
                  have c13 := pc.val
                  have kc : ∀ W, (convert 9 22 (.string (strOf X.value))).run Try.prog W = _ := fun W => run_bytes_of_string (P := Try.prog) W 9 22 5 (strOf X.value) Try.underlying9 Try.underlying22 Try.underlying5
                  simp only [strOf_size] at kc
                  have nv : W5.heap.size ≠ vb := Nat.ne_of_gt lv
                  have np : W5.heap.size ≠ psb := Nat.ne_of_gt lp
                  have nv1 : W5.heap.size + 1 ≠ vb := by omega
                  have np1 : W5.heap.size + 1 ≠ psb := by omega
                  have hszA := hid (fun o o' => (by simp; omega : W5.heap.size < ((W5.alloc o).alloc o').heap.size))
                  have hszB := hid (fun o o' => (by simp : W5.heap.size + 1 < ((W5.alloc o).alloc o').heap.size))
                  clear pc
                  go_cut [25] (fun r wx => ∃ g wh pr ba, r = .pointer (some ⟨g, 0, none⟩) ∧ Hid (An W5 wx g (.int .i64 wh) (.int .i64 pr) (.int .i64 ba) (.slice none 0 0)) ∧ Hid ((wh = 1 ∧ (ep k).pr ≤ X.ballot ∧ Cm w2 n e vb psb nb (2 * n + i + 1) (upN ep k ⟨X.ballot, X.ballot, X.value⟩) ps5 wx) ∨ (wh = 6 ∧ Cm w2 n e vb psb nb (2 * n + i + 1) ep ps5 wx)))
                  case first =>
                    by_cases hb : 1 ≤ X.ballot ∧ (ep k).pr ≤ X.ballot
                    · as_aux_lemma =>
                      have HP := hid (hyes hb.1 hb.2)
                      have Hhb := hid hb
                      clear hyes hno hlow hb
                      go_region_held (fun W => W.cell? ⟨vb, k, none⟩ = some (.pointer (some ⟨p, 0, none⟩)) ∧ W.cell? ⟨psb, q * 14 + 1, none⟩ = some (.int .i64 X.ballot) ∧ W.cell? ⟨psb, q * 14 + 13, none⟩ = some (.string (strOf X.value))) (go_keep)
                        (first | (go_at_call 17; refine (HP.out _ _ _ ?h1 ?h2 ?h3 HG.out).mono ?_; (case h1 => repeat (first | exact Bl.refl _ | refine Bl.drew ?_ | refine Bl.drewN ?_ _ | refine Bl.alloc ?_ _)); (case h2 => first | exact bs_row HG.out.2.2 (heap_alloc_new _ _) | exact bs_row HG.out.2.2 (heap_alloc_new' _ _ _) | exact bs_row HG.out.2.2 (heap_first _ _ _)); (case h3 => intro g hg; simp [Value.ownBlock] at hg; subst hg; refine ⟨by omega, ?_⟩; simp; try omega); rintro en w11 ⟨rfl, hcm, z0, hsi, hK⟩; have z1 := (hcm.pc q hq).bal; have z2 := (hcm.pc q hq).val; rw [hXq.out] at z1 z2; have nv2 : w11.heap.size ≠ vb := Nat.ne_of_gt hcm.lt.1; have np2 : w11.heap.size ≠ psb := Nat.ne_of_gt hcm.lt.2.1; have HBs := hid hsi; (first | (have hN : w11.heap[W5.heap.size]? = some (.cells blankV 48 (0, 0)) := (hK _ (Nat.le_refl _) (hszA.out _ _)).1.trans (heap_first W5 _ _); have lN : W5.heap.size < w11.heap.size := (Array.getElem?_eq_some_iff.1 hN).1; have HKK := hid (hK _ (Nat.le_refl _) (hszA.out _ _)).2; obtain ⟨n0, n1, n2, n3, f0, f1, f2, f3⟩ := blankV_row hN; have HN := hid hN; clear hN) | (have hN : w11.heap[W5.heap.size + 1]? = some (.cells blankV 48 (0, 0)) := (hK _ (Nat.le_succ _) (hszB.out _ _)).1.trans (heap_alloc_new' W5 _ _); have lN : W5.heap.size + 1 < w11.heap.size := (Array.getElem?_eq_some_iff.1 hN).1; have HKK := hid (hK _ (Nat.le_succ _) (hszB.out _ _)).2; obtain ⟨n0, n1, n2, n3, f0, f1, f2, f3⟩ := blankV_row hN; have HN := hid hN; clear hN) | skip); have HM := hid hcm; clear hcm hK hsi; unfold voteR))
                      all_goals (go_wp2_with fail; go_meet)
                      all_goals first
                        | exact ⟨_, 1, _, _, rfl, an_setg _ _ _ _ (Nat.le_refl _) HN.out, .inl ⟨rfl, Hhb.out.2, HKK.out _ (on_setg _ _ _ _ _ _)⟩⟩
                        | exact ⟨_, 1, _, _, rfl, an_setg _ _ _ _ (Nat.le_succ _) HN.out, .inl ⟨rfl, Hhb.out.2, HKK.out _ (on_setg _ _ _ _ _ _)⟩⟩
                        | exact ⟨_, 1, _, _, rfl, an_new _ _ _ _ HBs.out, .inl ⟨rfl, Hhb.out.2, HM.out.turn ((Bl.refl _).alloc _)⟩⟩
                    · as_aux_lemma =>
                      have HP := hid (hno (by omega))
                      have hg5 : Hid (X.value.length ≤ 255) := by have := HG.out.2.1; exact (by omega : X.value.length ≤ 255)
                      clear hyes hno hlow hb
                      go_region_held (fun W => W.cell? ⟨vb, k, none⟩ = some (.pointer (some ⟨p, 0, none⟩)) ∧ W.cell? ⟨psb, q * 14 + 1, none⟩ = some (.int .i64 X.ballot) ∧ W.cell? ⟨psb, q * 14 + 13, none⟩ = some (.string (strOf X.value))) (go_keep)
                        (first | (go_at_call 17; refine (HP.out _ _ _ _ ?h1 hg5.out).mono ?_; (case h1 => repeat (first | exact Bl.refl _ | refine Bl.drew ?_ | refine Bl.drewN ?_ _ | refine Bl.alloc ?_ _)); rintro en w11 ⟨rfl, hbw, hbW⟩; have z0 := (hbw.cell lv).trans hp; have z1 := (hbw.cell lp).trans c1; have z2 := (hbw.cell lp).trans c13; have nv2 : w11.heap.size ≠ vb := Nat.ne_of_gt (Nat.lt_of_lt_of_le lv hbw.lt); have np2 : w11.heap.size ≠ psb := Nat.ne_of_gt (Nat.lt_of_lt_of_le lp hbw.lt); (first | (have hN : w11.heap[W5.heap.size]? = some (.cells blankV 48 (0, 0)) := (hbW.heap (hszA.out _ _)).trans (heap_first W5 _ _); have lN : W5.heap.size < w11.heap.size := (Array.getElem?_eq_some_iff.1 hN).1; obtain ⟨n0, n1, n2, n3, f0, f1, f2, f3⟩ := blankV_row hN; have HN := hid hN; clear hN) | (have hN : w11.heap[W5.heap.size + 1]? = some (.cells blankV 48 (0, 0)) := (hbW.heap (hszB.out _ _)).trans (heap_alloc_new' W5 _ _); have lN : W5.heap.size + 1 < w11.heap.size := (Array.getElem?_eq_some_iff.1 hN).1; obtain ⟨n0, n1, n2, n3, f0, f1, f2, f3⟩ := blankV_row hN; have HN := hid hN; clear hN) | skip); have HB := hid hbw; clear hbw hbW; unfold voteR))
                      all_goals (go_wp2_with fail; go_meet)
                      all_goals first
                        | exact ⟨_, 6, _, _, rfl, an_setg _ _ _ _ (Nat.le_refl _) HN.out, .inr ⟨rfl, (HM5.out.mono (Nat.le_succ _)).turn (bl_setg _ _ _ _ (Nat.le_refl _) HB.out)⟩⟩
                        | exact ⟨_, 6, _, _, rfl, an_setg _ _ _ _ (Nat.le_succ _) HN.out, .inr ⟨rfl, (HM5.out.mono (Nat.le_succ _)).turn (bl_setg _ _ _ _ (Nat.le_succ _) HB.out)⟩⟩
                        | exact ⟨_, 6, _, _, rfl, an_new _ _ _ _ HB.out.lt, .inr ⟨rfl, (HM5.out.mono (Nat.le_succ _)).turn (HB.out.alloc _)⟩⟩
                  case rest =>
                    obtain ⟨g, wh, pr, ba, rfl, HAn, Hor⟩ := hcut
                    obtain ⟨a0, a2, a3⟩ := HAn.out.cells
                    have lg := HAn.out.lt
                    clear hyes hno hlow hp c1 c13 kc nv np nv1 np1 hszA hszB lv lp ln
                    go_upto_if 225 with fail
                    go_cut [] (fun wx => ∃ ep6 ps6, Hid (Sc n i ep6 ps6 rd ch) ∧ Hid (Cm w2 n e vb psb nb (2 * n + i + 1) ep6 ps6 wx) ∧ Hid ((ps6 q).asks = true))
                    case first =>
                      as_aux_lemma =>
                      rcases Hor.out with ⟨rfl, hpr, hcm⟩ | ⟨rfl, hcm⟩
                      · have lp := hcm.lt.2.1
                        have pc := hcm.pc q hq
                        have y2 := pc.vot k (by omega)
                        have y3 := pc.fr
                        have HS6 := hid (HS5.out.vote q k hq hk (by rw [hXq.out]; exact hask.out) (by rw [hXq.out]; exact hpr))
                        have HM6 := hid (hcm.setVot hn5 q k hq (by omega) true)
                        rw [hXq.out] at HS6 HM6
                        clear pc hcm Hor HS5 HM5 hpr
                        go_wp2_with fail
                        go_meet
                        exact ⟨_, _, HS6.out, HM6.out, by rw [upN_same]; exact hask.out⟩
                      · have HM6 := hid hcm
                        clear hcm Hor HM5
                        go_wp2_with fail
                        go_meet
                        exact ⟨_, _, HS5.out, HM6.out, by rw [hXq.out]; exact hask.out⟩
                    case rest =>
                      as_aux_lemma =>
                      obtain ⟨ep6, ps6, HS6, HM6, Hask6⟩ := hcut
                      clear Hor HS5 HM5 HAn a0 a2 a3 lg hXq hask HG hbal
                      have pc := HM6.out.pc q hq
                      have c7 := pc.vot 0 (by omega)
                      have c8 := pc.vot 1 (by omega)
                      have c9 := pc.vot 2 (by omega)
                      have c10 := pc.vot 3 (by omega)
                      have c11 := pc.vot 4 (by omega)
                      have c13 := pc.val
                      have hlp := HM6.out.lt.2.1
                      simp only [Nat.add_assoc, Nat.reduceAdd] at c7 c8 c9 c10 c11
                      clear pc
                      have HK := hid (fun W => count_any (ps6 q).vot W)
                      have hcn := hid (HS6.out.cntV hn5 q hq)
                      have hle := cnt_le 5 (ps6 q).vot
                      by_cases hmaj : n < 2 * cnt 5 (ps6 q).vot
                      · have hmI : (n : Int) < 2 * (cnt 5 (ps6 q).vot : Nat) := by omega
                        have Hmaj : Hid (n < 2 * cnt n (ps6 q).vot) := by rw [← hcn.out]; exact hmaj
                        clear hmaj
                        by_cases hch : ch = []
                        · as_aux_lemma =>
                          subst hch
                          have e2 : (strOf []).toList.isEmpty = true := by rw [Go.ByteArray.toList_eq, strOf_list]; rfl
                          have HS7 := hid (HS6.out.choose q hq Hask6.out Hmaj.out).next
                          go_wp2_with fail
                          refine (HK.out _).mono ?_
                          rintro en w11 ⟨rfl, hb1⟩
                          have z7 := (hb1.cell hlp).trans c7
                          have z8 := (hb1.cell hlp).trans c8
                          have z9 := (hb1.cell hlp).trans c9
                          have z10 := (hb1.cell hlp).trans c10
                          have z11 := (hb1.cell hlp).trans c11
                          have z13 := (hb1.cell hlp).trans c13
                          have zl := Nat.lt_of_lt_of_le hlp hb1.lt
                          have HB1 := hid hb1
                          clear hb1 c7 c8 c9 c10 c11 c13 hlp
                          go_wp2_with fail
                          refine (HK.out _).mono ?_
                          rintro en w12 ⟨rfl, hb2⟩
                          have y13 := (hb2.cell zl).trans z13
                          have yl := Nat.lt_of_lt_of_le zl hb2.lt
                          have HM7 := hid (HM6.out.turn (HB1.out.trans hb2))
                          clear hb2 z7 z8 z9 z10 z11 z13 zl HM6 HB1 HK
                          go_wp2
                          go_roundw
                          case rel => ((repeat apply Exists.intro); exact ⟨⟨i + 1, _, _, rd, _, by omega, rfl, rfl, by go_num, HS7.out, HM7.out⟩, rfl⟩)
                          case measure => simp [intOf]; omega
                        · as_aux_lemma =>
                          have hag := HS6.out.agree q hq Hask6.out Hmaj.out hch
                          have HS7 := hid HS6.out.next
                          subst hag
                          have e3 : (strOf (ps6 q).value).toList.isEmpty = false := by
                            rw [Go.ByteArray.toList_eq, strOf_list]
                            have := (HS6.out.pv q hq).1
                            cases hv : (ps6 q).value with
                            | nil => rw [hv] at this; simp at this
                            | cons a b => rfl
                          go_wp2_with fail
                          refine (HK.out _).mono ?_
                          rintro en w11 ⟨rfl, hb1⟩
                          have z7 := (hb1.cell hlp).trans c7
                          have z8 := (hb1.cell hlp).trans c8
                          have z9 := (hb1.cell hlp).trans c9
                          have z10 := (hb1.cell hlp).trans c10
                          have z11 := (hb1.cell hlp).trans c11
                          have z13 := (hb1.cell hlp).trans c13
                          have zl := Nat.lt_of_lt_of_le hlp hb1.lt
                          have HB1 := hid hb1
                          clear hb1 c7 c8 c9 c10 c11 c13 hlp
                          go_wp2_with fail
                          refine (HK.out _).mono ?_
                          rintro en w12 ⟨rfl, hb2⟩
                          have y13 := (hb2.cell zl).trans z13
                          have yl := Nat.lt_of_lt_of_le zl hb2.lt
                          have HM7 := hid (HM6.out.turn (HB1.out.trans hb2))
                          clear hb2 z7 z8 z9 z10 z11 z13 zl HM6 HB1 HK
                          go_wp2
                          go_roundw
                          case rel => ((repeat apply Exists.intro); exact ⟨⟨i + 1, _, _, rd, _, by omega, rfl, rfl, by go_num, HS7.out, HM7.out⟩, rfl⟩)
                          case measure => simp [intOf]; omega
                      · as_aux_lemma =>
                        have hmI : ¬ (n : Int) < 2 * (cnt 5 (ps6 q).vot : Nat) := by omega
                        have HS7 := hid HS6.out.next
                        clear hmaj
                        go_wp2_with fail
                        refine (HK.out _).mono ?_
                        rintro en w11 ⟨rfl, hb1⟩
                        have z7 := (hb1.cell hlp).trans c7
                        have z8 := (hb1.cell hlp).trans c8
                        have z9 := (hb1.cell hlp).trans c9
                        have z10 := (hb1.cell hlp).trans c10
                        have z11 := (hb1.cell hlp).trans c11
                        have z13 := (hb1.cell hlp).trans c13
                        have zl := Nat.lt_of_lt_of_le hlp hb1.lt
                        have HB1 := hid hb1
                        clear hb1 c7 c8 c9 c10 c11 c13 hlp
                        go_wp2_with fail
                        refine (HK.out _).mono ?_
                        rintro en w12 ⟨rfl, hb2⟩
                        have y13 := (hb2.cell zl).trans z13
                        have yl := Nat.lt_of_lt_of_le zl hb2.lt
                        have HM7 := hid (HM6.out.turn (HB1.out.trans hb2))
                        clear hb2 z7 z8 z9 z10 z11 z13 zl HM6 HB1 HK
                        go_wp2
                        go_roundw
                        case rel => ((repeat apply Exists.intro); exact ⟨⟨i + 1, _, _, rd, _, by omega, rfl, rfl, by go_num, HS7.out, HM7.out⟩, rfl⟩)
                        case measure => simp [intOf]; omega
                · as_aux_lemma =>
                  have HS2 := hid HSt.out.next
                  have HF := hid (HC10.out.mono (Nat.le_succ _))
                  have hm3 : ¬ (n : Int) < 2 * (cnt 5 (ps q).prom : Nat) := by omega
                  clear HSt HC10 hcn hm2
                  go_wp2
                  go_roundw
                  case rel => ((repeat apply Exists.intro); exact ⟨⟨i + 1, _, _, rd, ch, by omega, rfl, rfl, by go_num, HS2.out, HF.out⟩, rfl⟩)
                  case measure => simp [intOf]; omega
              · as_aux_lemma =>
                obtain ⟨lv, lp, ln⟩ := HC.out.lt
                obtain ⟨p, hp, hfr, lvb, hcal⟩ := cm_open HC.out hk hn5 (by omega)
                have Hcal := hid hcal
                have HS2 := hid HSt.out.next
                clear hcal HSt HC
                go_wp2_with fail
                refine (Hcal.out _ (Bl.refl _)).mono ?_
                rintro en w10 ⟨ad, nn, cc, rfl, hb1, hop⟩
                have Hb1 := hid hb1
                have Hop := hid hop
                clear hb1 hop Hcal
                go_wp2_with fail
                refine Hop.out.mono ?_
                rintro en w11 ⟨p', rfl, hb2, hfin⟩
                have z0 := (hb2.cell lvb).trans hp
                have z1 := (hb2.frozen lvb).trans hfr
                have z2 := Nat.lt_of_lt_of_le lvb hb2.lt
                have Hfin := hid hfin
                clear Hop hb2 hfin hp hfr
                go_wp2
                go_roundw
                case rel => ((repeat apply Exists.intro); exact ⟨⟨i + 1, _, _, rd, ch, by omega, rfl, rfl, by go_num, HS2.out, (Hfin.out _ (Bl.refl _)).mono (by omega)⟩, rfl⟩)
                case measure => simp [intOf]; omega
            · as_aux_lemma =>
              obtain rfl : m = i := by omega
              have hlow := HSt.out.low
              have r0 := HSt.out.r0
              have r1 := HSt.out.r1
              have HA := hid (cm_alone HC.out vcp (3 * rd + 9) hn1 hn5 he1 (Go.WalkArith.wf_i64 (by omega)) (Go.WalkArith.wf_i64 (by omega)) (by omega) (by omega) (fun j hj => by have := hlow j hj; omega) HSt.out.vv)
              clear hlow HC
              go_wp2_with fail
              refine HA.out.mono ?_
              rintro en w10 ⟨bb, v, rfl, hbest, hgood, hbl⟩
              have HBl := hid hbl
              have e1 : (strOf v).toList.isEmpty = false := by
                rw [Go.ByteArray.toList_eq, strOf_list]
                have := hgood.1
                cases v with
                | nil => simp at this
                | cons a b => rfl
              by_cases hc : ch = []
              · subst hc
                have e2 : (strOf []).toList.isEmpty = true := by rw [Go.ByteArray.toList_eq, strOf_list]; rfl
                clear HSt HA hbest hgood hbl
                go_wp2
                go_ret
                exact ⟨rfl, HBl.out⟩
              · have hv := HSt.out.last hbest hn1 hc
                subst hv
                clear HSt HA hbest hgood hbl
                go_wp2
                go_ret
                exact ⟨rfl, HBl.out⟩
end Go.Proofs.Ytbghhbpacijmmaa
