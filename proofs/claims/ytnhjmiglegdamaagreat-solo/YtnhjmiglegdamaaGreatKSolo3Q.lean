-- Solo: one client against the log that it ought to be.
import Derived.Test.YtnhjmiglegdamaaGreatKSeenKSolo2bQ
import Derived.Test.YtnhjmiglegdamaaGreatKOne5Q
import Derived.Deep.DeepCutAuto
import Derived.Deep.CutBlock
import Derived.Deep.RegionWith
import Derived.BigQuiet
namespace Go.Proofs.YtnhjmiglegdamaaGreat
open Go.RowKit Go.Maps
attribute [local go_sem ↓] Go.wp_at_zero Go.wp_at_succ
/-- The deeds: of each its kind and its place. -/
def Dd (w : World) (a : Option Addr) (len : Nat) : Prop := ∃ b o, (0 < len → a = some ⟨b, o, none⟩ ∧ b < w.heap.size) ∧ ∀ j, j < len → ∃ kd bb : Int, w.cell? ⟨b, o + j * 5, none⟩ = some (.int .i64 kd) ∧ w.cell? ⟨b, o + j * 5 + 2, none⟩ = some (.int .i64 bb) ∧ inI kd ∧ inI bb
theorem Tryz.info9 : (Tryz.prog.info? 9).map (fun i => (i.zero, i.size, i.bytes)) = some (some (.string { data := #[] }), 1, 16) := by kernel_rfl
theorem logRow_nil (T : Nat) : List.replicate T (Value.string { data := #[] }) = logRow T (fun _ => no) := by
  apply List.ext_getElem
  · simp [logRow]
  · intro i h1 h2
    simp [logRow, logS, no, strOf]
    rfl
set_option maxRecDepth 100000 in
set_option maxHeartbeats 16000000 in
theorem solo_any (c u vv s : Int) (a : Option Addr) (len cap : Nat) (w : World) (h1 : inI c) (h2 : inI u) (h3 : inI vv) (h4 : inI s) (hD : Dd w a len) :
    Calls Tryz.prog 8 #[.int .i64 c, .int .i64 u, .int .i64 vv, .int .i64 s, .slice a len cap] w fun e w' => e = .returned (.bool true) ∧ Bl w w' := by
  obtain ⟨i9, hi9, hz0, hz1, hz2⟩ := info_parts Tryz.info9
  have r1 := pk_range c 3 (by decide)
  have r2 := pk_range u 3 (by decide)
  have r3 := pk_range vv 3 (by decide)
  have r4 := pk_range s 5 (by decide)
  obtain ⟨n, hn⟩ : ∃ n : Nat, 1 + pk c 3 = n := ⟨(1 + pk c 3).toNat, by omega⟩
  obtain ⟨m, hm⟩ : ∃ n : Nat, 1 + pk u 3 = n := ⟨(1 + pk u 3).toNat, by omega⟩
  obtain ⟨v, hv⟩ : ∃ n : Nat, 1 + 2 * pk vv 3 = n := ⟨(1 + 2 * pk vv 3).toNat, by omega⟩
  obtain ⟨ce, hce⟩ : ∃ ce, 1 + pk s 5 = ce := ⟨_, rfl⟩
  have hf : fit n m v ce = true := by simp [fit]; omega
  have ft := fit_t hf
  obtain ⟨T, hT⟩ : ∃ T : Nat, n * ce = (T : Int) := ⟨(n * ce).toNat, by omega⟩
  have hT1 : 1 ≤ T ∧ T ≤ 48 := by omega
  have HSe := hid (fun w => settings_any c u vv s w h1 h2 h3 h4)
  rw [hn, hm, hv, hce] at HSe
  have hby : Hid (i9.bytes * T ≤ 281474976710656) := by rw [hz2]; unfold Hid; omega
  have hml : Hid (T ≤ maxLen) := by unfold Hid maxLen; omega
  have Hf := hid hf
  have HT := hid hT
  have HD := hid hD
  clear h1 h2 h3 h4 r1 r2 r3 r4 hn hm hv hce hf ft hT hD
  go_enter Tryz.func8, Tryz.ntmps8
  go_wp2_with fail
  refine (HSe.out _).mono ?_
  rintro en w1 ⟨rfl, hb1⟩
  go_wp2_with fail
  refine (begin_any w1 Hf.out).mono ?_
  rintro en w2 ⟨g, rfl, hb2, tag, p, pv, av, ps, ht, hX⟩
  have HX := hid (hX 0)
  have Hb := hid (hb1.trans hb2)
  have htt : Hid (∀ b, b < w.heap.size → tag b = 0) := fun b hb => ht b (Nat.lt_of_lt_of_le hb hb1.lt)
  clear hX hb1 hb2 ht
  go_wp2_with fail
  refine (total_any HX.out Hf.out).mono ?_
  rintro en w3 ⟨rfl, hb3⟩
  rw [HT.out]
  have HX3 := hid (HX.out.bl (tag' := tag) hb3 fun _ _ => rfl)
  have HB3 := hid (Hb.out.trans hb3)
  clear hb3 HX Hb
  go_wp2_with (at_make; refine wpList_make_full _ rfl _ _ 54 rfl w3.heap.size 9 i9 _ 1 Tryz.underlying54 hi9 hz0 hz1 _ _ _ _ T rfl rfl rfl rfl hby.out hml.out (Nat.le_refl _) ?_)
  intro w4 hown hgrow
  have HS0 : Hid (So w w3.heap.size T w4 (tagTo tag w3.heap.size 0) g p n m v ce (.slice none 0 0) (kw0 n m) (fun _ => no)) := by
    have hbl : Bl w3 w4 := (Only.of_grown hgrow).to_bl (by simp)
    have hlt := HB3.out.lt
    refine ⟨HB3.out.trans hbl, fun b hb => by rw [tagTo_old _ _ _ _ (by omega)]; exact htt.out b hb, SW.bl ⟨0, pv, av, _, ps, _, HX3.out⟩ hbl fun b hb => tagTo_old _ _ _ _ hb, ⟨?_, fun b hb => ?_⟩, hlt⟩
    · have e := hown
      rw [toList_madeCells_one, logRow_nil] at e
      exact ownsRow_base e fun b _ => Nat.zero_le _
    · have e : w3.heap.size = b := by simpa [Value.ownBlock] using hb
      rw [← e]; exact tagTo_new _ _ _ _ (Nat.le_refl _)
  clear hown hgrow HX3 HB3 htt hby hml hz0 hz1 hz2 hi9
  obtain ⟨lg, hlg⟩ : ∃ lg, w3.heap.size = lg := ⟨_, rfl⟩
  rw [hlg] at HS0 ⊢
  clear hlg
  go_wp2
  go_loopw [15, 16, 17] (fun mk nx iv W => ∃ (i x : Nat) (mark : Int), mk = .int .i64 mark ∧ nx = .int .i64 x ∧ iv = .int .i64 i ∧ i ≤ 30 ∧ x ≤ T ∧ Hid (∃ L tag cv K, So w lg T W tag g p n m v ce cv K L ∧ Ps n m ce i x K L mark)) (fun _ _ iv _ => 30 - (Go.RowKit.intOf iv).toNat)
  case atStart => exact ⟨0, 0, 0, rfl, rfl, rfl, by omega, by omega, ⟨_, _, _, _, HS0.out, ps0⟩⟩
  case round =>
    clear HS0
    obtain ⟨i, x, mark, rfl, rfl, rfl, hi30, hxT, HI⟩ := hrel
    by_cases hgo : i < len ∧ i < 30
    · obtain ⟨hil, hi3⟩ := hgo
      have hilI : (i : Int) < (len : Int) := by omega
      have hi3I : (i : Int) < 30 := by omega
      obtain ⟨db, dof, hda, hdd⟩ := HD.out
      obtain ⟨kd, bb, e0, e2, hkd, hbb⟩ := hdd i hil
      obtain ⟨rfl, ldb⟩ := hda (by omega)
      obtain ⟨L, tagi, cvi, K, hS, hP⟩ := HI.out
      have d0 := (hS.bl.cell ldb).trans e0
      have d2 := (hS.bl.cell ldb).trans e2
      have ldr : db < wr.heap.size := Nat.lt_of_lt_of_le ldb hS.bl.lt
      have hTT := HT.out
      have HPk := hid (fun W => pick_any kd 4 W hkd.1 hkd.2 (by decide) (by decide))
      have hkr := pk_range kd 4 (by decide)
      obtain ⟨k0, hk0⟩ : ∃ k0, pk kd 4 = k0 := ⟨_, rfl⟩
      rw [hk0] at HPk hkr
      obtain ⟨kk, hkk⟩ : ∃ kk, 1 + k0 = kk := ⟨_, rfl⟩
      have hwk : IntKind.i64.wrap (1 + k0) = kk := by rw [IntKind.wrap_i64]; omega
      have hkk4 : Hid (kk = 1 ∨ kk = 2 ∨ kk = 3 ∨ kk = 4) := by unfold Hid; omega
      have har := pk_range bb (n * ce) (by omega)
      obtain ⟨aa, haa⟩ : ∃ aa : Nat, pk bb (n * ce) = aa := ⟨(pk bb (n * ce)).toNat, by omega⟩
      have haT : aa < T := by omega
      have HPa := hid (fun W => pick_any bb T W hbb.1 hbb.2 (by omega) (by omega))
      rw [← hTT, haa, hTT] at HPa
      have HCa := hid (solo_call (k := kk) hS.sw hP Hf.out (by omega) (by omega) hbb haa hkk4.out)
      have HS := hid hS
      have HP := hid hP
      have HL := hid hP.idle.L
      have Hbb := hid hbb
      have Hd2 := hid (And.intro e2 ldb)
      clear e0 e2 hkd hbb hS hP hTT hk0 hkk hkr har haa hda hdd hil HI
      go_wp2_with fail
      refine (HPk.out _).mono ?_
      rintro en w' ⟨rfl, hw⟩
      have hw := hw.symm
      subst hw
      go_wp2_with fail
      refine (HPa.out _).mono ?_
      rintro en w' ⟨rfl, hw⟩
      have hw := hw.symm
      subst hw
      clear hwk
      go_wp2_with fail
      refine HCa.out.mono ?_
      rintro en w5 ⟨rfl, tag5, k5, cv5, K5, hs5, hK5⟩
      have hS5 := HS.out.step k5 (by unfold Pc; omega) hs5
      obtain ⟨q5, pv5, av5, hv5, ps5, cs5, hX5⟩ := hs5
      have c7 := hX5.cellAt 7 rfl
      have lg5 := hX5.lt
      obtain ⟨ca, cc, hcv⟩ := hX5.ca.row.shape
      rw [hK5.len] at hcv
      subst hcv
      have hrow := hX5.ca.row
      rw [hK5.len] at hrow
      obtain ⟨cb, ecb, _, lcb, _, _⟩ := hrow.cells (by omega)
      subst ecb
      clear hrow
      have hd2' := (hS5.bl.cell Hd2.out.2).trans Hd2.out.1
      have ldr5 : db < w5.heap.size := Nat.lt_of_lt_of_le Hd2.out.2 hS5.bl.lt
      have HS5 := hid hS5
      have HK5 := hid hK5
      clear k5 hX5 hK5 hS5 d0 d2 ldr HCa HPk HPa HS HP
      go_upto_region 16 with fail
      go_quiet (fail)
      obtain ⟨W6, hW6⟩ : ∃ W6, w5.drewN nq = W6 := ⟨_, rfl⟩
      have b6 : Bl w5 W6 := by rw [← hW6]; exact (Bl.refl _).drewN _
      rw [hW6]
      have hW := (Bl.refl W6).alloc (.cells #[.int .i64 1, .int .i64 0, .slice none 0 0] 43)
      have hnew := heap_alloc_new W6 (.cells #[.int .i64 1, .int .i64 0, .slice none 0 0] 43)
      obtain ⟨W7, hW7⟩ : ∃ W7, W6.alloc (.cells #[.int .i64 1, .int .i64 0, .slice none 0 0] 43) = W7 := ⟨_, rfl⟩
      rw [hW7] at hW hnew
      have HW7 := hid hW7
      have HB7 := hid (b6.trans hW)
      have Hnew := hid hnew
      have HS6 := hid (HS5.out.bl' (tag' := tag5) b6 fun _ _ => rfl)
      have l67 : Hid (w5.heap.size ≤ W6.heap.size) := b6.lt
      clear hW hnew hW7 hW6 b6 c7 lg5 lcb hd2' ldr5
      go_upto_block 2 with fail
      rw [HW7.out]
      obtain ⟨wb, hwb⟩ : ∃ wb, W6.heap.size = wb := ⟨_, rfl⟩
      have hS7 := HS6.out.bl' (tag' := tagTo tag5 W6.heap.size 0) (HW7.out ▸ (Bl.refl W6).alloc _) fun b hb => tagTo_old _ _ _ _ hb
      have ht7 : tagTo tag5 W6.heap.size 0 W6.heap.size = 0 := tagTo_new _ _ _ _ (Nat.le_refl _)
      have hbw : w.heap.size ≤ W6.heap.size := HS6.out.bl.lt
      rw [hwb] at Hnew hS7 ht7 hbw ⊢
      obtain ⟨tag7, htag7⟩ : ∃ tag7, tagTo tag5 wb 0 = tag7 := ⟨_, rfl⟩
      rw [htag7] at hS7 ht7
      have HS7 := hid hS7
      have HB7 := hid (And.intro Hnew.out (And.intro ht7 hbw))
      obtain ⟨cv, hcv⟩ : ∃ cv, Value.slice (some ⟨cb, 0, none⟩) (i + 1) cc = cv := ⟨_, rfl⟩
      rw [hcv] at HS7
      have Hcv := hid hcv
      clear hS7 ht7 hbw htag7 hwb HS5 HS6 Hnew HW7 l67 hcv
      go_cut [12, 15, 16, 22] from 89 to 189 (fun ok mk nx st wx => ∃ (x' : Nat) (mark' : Int), ok = .bool true ∧ mk = .int .i64 mark' ∧ nx = .int .i64 x' ∧ x' ≤ T ∧ Hid (∃ L2 tag2 K2 r, So w lg T wx tag2 g p n m v ce cv K2 L2 ∧ Wb w wx tag2 wb r ∧ K2.calls.length = i + 1 ∧ Next n m v ce K2 (Then n m ce i x' L2 mark' r)))
      case first =>
        rcases hkk4.out with hk1 | hk1 | hk1 | hk1
        · subst hk1
          have hA1 := HK5.out.app rfl
          have HI1 : Hid (∃ tag2 K2, So w lg T W7 tag2 g p n m v ce cv K2 L ∧ (W7.heap[wb]? = some (.cells #[.int .i64 1, .int .i64 0, .slice none 0 0] 43 (0, 0)) ∧ tag2 wb = 0) ∧ Aw n m ce i x L mark K2) := ⟨tag7, K5, HS7.out, ⟨HB7.out.1, HB7.out.2.1⟩, hA1⟩
          have HwB := hid HB7.out.2.2
          clear hA1 HS7 HB7 HK5
          go_wp2_with fail
          go_loopw [16] (fun nx W => ∃ y : Nat, nx = .int .i64 y ∧ y ≤ T ∧ Hid (∃ tag2 K2, So w lg T W tag2 g p n m v ce cv K2 L ∧ (W.heap[wb]? = some (.cells #[.int .i64 1, .int .i64 0, .slice none 0 0] 43 (0, 0)) ∧ tag2 wb = 0) ∧ Aw n m ce i y L mark K2)) (fun nx _ => T - (Go.RowKit.intOf nx).toNat)
          case atStart => exact ⟨x, rfl, hxT, HI1⟩
          case round =>
            clear HI1
            obtain ⟨y, rfl, hyT, HI⟩ := hrel
            obtain ⟨tag2, K2, hS, hB, hA⟩ := HI.out
            have HS := hid hS
            have HB := hid hB
            have HA := hid hA
            clear HI hS hB hA
            obtain ⟨tk, htk⟩ : ∃ tk, tk = decide (y < T ∧ ((L y).kd ≠ 0 ∨ (y : Int) < mark)) := ⟨_, rfl⟩
            have Htk := hid htk
            clear htk
            go_upto_region 23 with fail
            go_cut [130] from 116 to 130 (fun b wx => b = .bool tk ∧ Hid (wx = wr))
            case first =>
              by_cases hyl : y < T
              · have hylI : (y : Int) < (T : Int) := by omega
                have l0 := HS.out.logAt hyl
                have llg := HS.out.logLt
                by_cases hk0 : (L y).kd = 0
                · rw [(logS_nil HL.out y).2 hk0, show strOf [] = ({ data := #[] } : ByteArray) from rfl] at l0
                  have Hk0 := hid hk0
                  clear hk0
                  by_cases hlt : (y : Int) < mark
                  · have e : tk = true := Htk.out.trans (decide_eq_true ⟨hyl, .inr hlt⟩)
                    subst e
                    go_wp2_with fail
                    go_meet
                    exact ⟨rfl, rfl⟩
                  · have e : tk = false := Htk.out.trans (decide_eq_false fun e => e.2.elim (fun e => e Hk0.out) hlt)
                    subst e
                    go_wp2_with fail
                    go_meet
                    exact ⟨by first | rfl | simp [hlt], rfl⟩
                · have e : tk = true := Htk.out.trans (decide_eq_true ⟨hyl, .inl hk0⟩)
                  subst e
                  obtain ⟨n1, n2⟩ := str_nil (logS_byt HL.out y) (fun e => hk0 ((logS_nil HL.out y).1 e))
                  generalize strOf (logS L y) = sv at *
                  clear hk0
                  go_wp2_with fail
                  go_meet
                  exact ⟨by first | rfl | simp [n2], rfl⟩
              · have hylI : ¬ (y : Int) < (T : Int) := by omega
                have e : tk = false := Htk.out.trans (decide_eq_false fun e => hyl e.1)
                subst e
                go_wp2_with fail
                go_meet
                exact ⟨rfl, rfl⟩
            case rest =>
              obtain ⟨rfl, hw⟩ := hcut
              have hw' := hw.out.symm
              subst hw'
              clear hw
              cases tk
              · have hno : ¬ (y < T ∧ ((L y).kd ≠ 0 ∨ (y : Int) < mark)) := of_decide_eq_false Htk.out.symm
                clear Htk
                by_cases hyl : y < T
                · as_aux_lemma =>
                    have hylI : (y : Int) < (T : Int) := by omega
                    have hk0 : (L y).kd = 0 := Classical.byContradiction fun e => hno ⟨hyl, .inl e⟩
                    have hlt : ¬ (y : Int) < mark := fun e => hno ⟨hyl, .inr e⟩
                    have HDo := hid (solo_done HS.out.sw HA.out Hf.out (by omega) (by omega) (by rw [HT.out]; omega) hlt hk0)
                    clear hno hk0 hlt
                    go_wp2_with fail
                    refine HDo.out.mono ?_
                    rintro en w8 ⟨rfl, tag8, k8, K8, hs8, ⟨hl8, c8, hc8, hv8⟩, hN8⟩
                    have hS8 := HS.out.step k8 (by unfold Pc; omega) hs8
                    have hB8 := k8.heap HB.out.1 HB.out.2 (by unfold Pc; omega)
                    rw [← Hcv.out] at hs8
                    obtain ⟨⟨lg8, c7, lcb8⟩, ta8, tc8, ra8, rc8, ⟨_, _, _, _, d4, _⟩, _⟩ := hs8.call hl8 hc8
                    rw [hv8] at d4
                    have llg := hS8.logLt
                    have l0 := hS8.logAt hyl
                    have f0 := hS8.logFrz (by omega) y
                    have hS9 := hS8.log y ⟨8, 1000, i, valB i⟩ (s := valB i) rfl
                    have hB9 := (Below.heap_setCell w8 ⟨lg, y, none⟩ (.string (strOf (valB i))) wb (hS8.ne hB8.1)).trans hB8.1
                    obtain ⟨sv, hsv⟩ : ∃ sv, strOf (valB i) = sv := ⟨_, rfl⟩
                    rw [hsv] at d4 hS9 hB9
                    obtain ⟨W9, hW9⟩ : ∃ W9, w8.setCell ⟨lg, y, none⟩ (.string sv) = W9 := ⟨_, rfl⟩
                    rw [hW9] at hS9 hB9
                    have HW9 := hid hW9
                    have HX := hid (hS9.want1 hB9 hB8.2 HwB.out y)
                    have HB9 := hid hB9
                    have HN8 := hid (And.intro hN8 hl8)
                    clear hW9 hS8 hB8 hS9 hB9 hsv hN8 hl8 hc8 hv8 k8 hs8 HDo HS HB HA
                    go_upto_region 32 with fail
                    rw [HW9.out]
                    clear l0 f0 llg d4 c7 lg8 lcb8
                    have y1 := cell_of_row W9 wb 1 _ 43 (0, 0) HB9.out
                    have z1 := frozen_of_row W9 wb 1 _ 43 HB9.out
                    have lw9 : wb < W9.heap.size := (Array.getElem?_eq_some_iff.1 HB9.out).1
                    go_wp2_with fail
                    go_meet
                    exact ⟨y + 1, mark, rfl, rfl, by go_num, by omega, ⟨_, tag8, K8, _, HX.out.1, HX.out.2, HN8.out.2, HN8.out.1⟩⟩
                · as_aux_lemma =>
                    have hylI : ¬ (y : Int) < (T : Int) := by omega
                    have HDo := hid (solo_full (t := (y : Int)) HS.out.sw HA.out Hf.out (by omega) (by omega) (by rw [HT.out]; omega))
                    clear hno
                    go_wp2_with fail
                    refine HDo.out.mono ?_
                    rintro en w8 ⟨rfl, tag8, k8, K8, hs8, hl8, hN8⟩
                    have hS8 := HS.out.step k8 (by unfold Pc; omega) hs8
                    have hB8 := k8.heap HB.out.1 HB.out.2 (by unfold Pc; omega)
                    have HX := hid (hS8.want7 hB8.1 hB8.2 HwB.out)
                    have y0 := cell_of_row w8 wb 0 _ 43 (0, 0) hB8.1
                    have z0 := frozen_of_row w8 wb 0 _ 43 hB8.1
                    have lw8 : wb < w8.heap.size := (Array.getElem?_eq_some_iff.1 hB8.1).1
                    have HN8 := hid (And.intro hN8 hl8)
                    clear hS8 hB8 hN8 hl8 k8 hs8 HDo HS HB HA
                    go_wp2_with fail
                    go_meet
                    exact ⟨y, mark, rfl, rfl, rfl, hyT, ⟨L, tag8, K8, _, HX.out.1, HX.out.2, HN8.out.2, HN8.out.1⟩⟩
              · as_aux_lemma =>
                  have hh : y < T ∧ ((L y).kd ≠ 0 ∨ (y : Int) < mark) := of_decide_eq_true Htk.out.symm
                  have hyl := hh.1
                  have HAg := hid (solo_again HS.out.sw HA.out Hf.out (by omega) (by omega) (by rw [HT.out]; omega) hh.2.symm)
                  clear hh Htk
                  go_wp2_with fail
                  refine HAg.out.mono ?_
                  rintro en w8 ⟨rfl, tag8, k8, K8, hs8, hl8, hN8⟩
                  have HS8 := hid (HS.out.step k8 (by unfold Pc; omega) hs8)
                  have HB8 := hid (k8.heap HB.out.1 HB.out.2 (by unfold Pc; omega))
                  have HBt := hid (solo_beat hs8 Hf.out hN8)
                  clear k8 hs8 hN8 hl8 HAg HS HB HA
                  go_wp2_with fail
                  refine HBt.out.mono ?_
                  rintro en w9 ⟨rfl, tag9, k9, K9, hA9, hs9⟩
                  have hS9 := HS8.out.step k9 (by unfold Pw; omega) hs9
                  have hB9 := k9.heap HB8.out.1 HB8.out.2 (by unfold Pw; omega)
                  obtain ⟨hl9, c9, hc9, hf9⟩ := hA9.open
                  rw [← Hcv.out] at hs9
                  obtain ⟨⟨lg9, c7, lcb9⟩, ta9, tc9, ra9, rc9, ⟨_, _, _, _, _, _, _, d7, _⟩, _⟩ := hs9.call hl9 hc9
                  rw [hf9] at d7
                  have HS9 := hid (And.intro hS9 (And.intro hB9 hA9))
                  clear hS9 hB9 hA9 hl9 hc9 hf9 hs9 k9 HS8 HB8 HBt
                  go_upto_region 27 with fail
                  go_quiet (fail)
                  go_wp2
                  exact ⟨⟨y + 1, by go_num, by omega, ⟨tag9, K9, HS9.out.1.bl' ((Bl.refl _).drewN _) fun _ _ => rfl, ⟨(((Bl.refl w9).drewN _).heap (Array.getElem?_eq_some_iff.1 HS9.out.2.1.1).1).trans HS9.out.2.1.1, HS9.out.2.1.2⟩, HS9.out.2.2⟩⟩, by simp [Go.RowKit.intOf]; omega⟩
        · as_aux_lemma =>
            subst hk1
            have l0 := HS7.out.logAt haT
            have Hby : Hid (∀ d ∈ (logS L aa), 0 ≤ d ∧ d ≤ 255) := logS_byt HL.out aa
            have llg := HS7.out.logLt
            have HSe2 := hid (fun W => seen_any (logS L aa) (decide ((aa : Int) < mark)) Hby.out W)
            obtain ⟨sv, hsv⟩ : ∃ sv, strOf (logS L aa) = sv := ⟨_, rfl⟩
            rw [hsv] at HSe2 l0
            obtain ⟨r, hr⟩ : ∃ r, seenS (logS L aa) (decide ((aa : Int) < mark)) = r := ⟨_, rfl⟩
            rw [hr] at HSe2
            have Hr := hid hr
            clear hsv hr
            go_wp2_with fail
            refine (HSe2.out _).mono ?_
            rintro en w8 ⟨ra, rc, rfl, hb8, hsl, hnw⟩
            have lwb : wb < W7.heap.size := (Array.getElem?_eq_some_iff.1 HB7.out.1).1
            have hbx := (hb8.heap lwb).trans HB7.out.1
            have y0 := cell_of_row w8 wb 0 _ 43 (0, 0) hbx
            have y1 := cell_of_row w8 wb 1 _ 43 (0, 0) hbx
            have y2 := cell_of_row w8 wb 2 _ 43 (0, 0) hbx
            have z0 := frozen_of_row w8 wb 0 _ 43 hbx
            have z1 := frozen_of_row w8 wb 1 _ 43 hbx
            have z2 := frozen_of_row w8 wb 2 _ 43 hbx
            have lw8 : wb < w8.heap.size := Nat.lt_of_lt_of_le lwb hb8.lt
            have hS8 := HS7.out.bl' (tag' := tagTo tag7 W7.heap.size 0) hb8 fun b hb => tagTo_old _ _ _ _ hb
            have HX := hid (hS8.want hbx ((tagTo_old _ _ _ _ lwb).trans HB7.out.2.1) HB7.out.2.2 hsl fun b hb => ⟨tagTo_new _ _ _ _ (hnw b hb).1, (hnw b hb).2, by have := (hnw b hb).1; omega⟩)
            clear hS8 hbx hsl hnw hb8
            go_wp2_with fail
            have hX := HX.out
            rw [show r.ad = 0 by rw [← Hr.out]; exact seenS_ad _ _] at hX
            go_meet
            exact ⟨x, mark, rfl, rfl, rfl, hxT, ⟨L, _, K5, r, hX.1, hX.2, HK5.out.len, by rw [← Hr.out]; exact HK5.out.read rfl⟩⟩
        · as_aux_lemma =>
            subst hk1
            by_cases hfl : (L aa).kd = 0 ∧ mark ≤ (aa : Int)
            · have l0 := HS7.out.logAt haT
              rw [(logS_nil HL.out aa).2 hfl.1, show strOf [] = ({ data := #[] } : ByteArray) from rfl] at l0
              have llg := HS7.out.logLt
              have f0 := HS7.out.logFrz (by omega) aa
              have hge : mark ≤ (aa : Int) := hfl.2
              have Hfl := hid hfl
              have hS8 := HS7.out.log aa ⟨9, 1000, i, []⟩ (s := [106]) rfl
              have hs106 : strOf [106] = ({ data := #[106] } : ByteArray) := rfl
              rw [hs106] at hS8
              have Hs106 := hid hs106
              have hb8 : (W7.setCell ⟨lg, aa, none⟩ (.string { data := #[106] })).heap[wb]? = some (.cells #[.int .i64 1, .int .i64 0, .slice none 0 0] 43 (0, 0)) := (Below.heap_setCell _ _ _ _ (HS7.out.ne HB7.out.1)).trans HB7.out.1
              obtain ⟨W8, hW8⟩ : ∃ W8, W7.setCell ⟨lg, aa, none⟩ (.string { data := #[106] }) = W8 := ⟨_, rfl⟩
              rw [hW8] at hS8 hb8
              have HS8 := hid hS8
              have HB8 := hid (And.intro hb8 HB7.out.2)
              have HW8 := hid hW8
              have hll : Hid (updL L aa ⟨9, 1000, i, []⟩ = if (aa : Int) < mark then L else updL L aa (fillC L aa ⟨9, 1000, i, []⟩)) := by
                unfold Hid
                rw [if_neg (by omega)]
                unfold fillC
                rw [if_pos Hfl.out.1]
              have hls : logS (updL L aa ⟨9, 1000, i, []⟩) aa = [106] := by simp [logS, updL]
              have Hls := hid hls
              clear hfl hS8 hb8 hW8 hs106 hls
              go_upto_region 21 with fail
              rw [HW8.out]
              clear l0 f0 llg hge
              have l0 := HS8.out.logAt haT
              rw [Hls.out] at l0
              have Hby : Hid (∀ d ∈ ([106] : List Int), 0 ≤ d ∧ d ≤ 255) := fun d hd => by simp at hd; omega
              have llg := HS8.out.logLt
              have HSe2 := hid (fun W => seen_any ([106] : List Int) (decide ((aa : Int) < mark)) Hby.out W)
              obtain ⟨sv, hsv⟩ : ∃ sv, strOf ([106] : List Int) = sv := ⟨_, rfl⟩
              rw [hsv] at HSe2 l0
              obtain ⟨r, hr⟩ : ∃ r, seenS ([106] : List Int) (decide ((aa : Int) < mark)) = r := ⟨_, rfl⟩
              rw [hr] at HSe2
              have Hr := hid hr
              clear hsv hr
              go_wp2_with fail
              refine (HSe2.out _).mono ?_
              rintro en w8 ⟨ra, rc, rfl, hb8, hsl, hnw⟩
              have lwb : wb < W8.heap.size := (Array.getElem?_eq_some_iff.1 HB8.out.1).1
              have hbx := (hb8.heap lwb).trans HB8.out.1
              have y0 := cell_of_row w8 wb 0 _ 43 (0, 0) hbx
              have y1 := cell_of_row w8 wb 1 _ 43 (0, 0) hbx
              have y2 := cell_of_row w8 wb 2 _ 43 (0, 0) hbx
              have z0 := frozen_of_row w8 wb 0 _ 43 hbx
              have z1 := frozen_of_row w8 wb 1 _ 43 hbx
              have z2 := frozen_of_row w8 wb 2 _ 43 hbx
              have lw8 : wb < w8.heap.size := Nat.lt_of_lt_of_le lwb hb8.lt
              have hS8 := HS8.out.bl' (tag' := tagTo tag7 W8.heap.size 0) hb8 fun b hb => tagTo_old _ _ _ _ hb
              have HX := hid (hS8.want hbx ((tagTo_old _ _ _ _ lwb).trans HB8.out.2.1) HB8.out.2.2 hsl fun b hb => ⟨tagTo_new _ _ _ _ (hnw b hb).1, (hnw b hb).2, by have := (hnw b hb).1; omega⟩)
              clear hS8 hbx hsl hnw hb8
              go_wp2_with fail
              have hX := HX.out
              rw [show r.ad = 0 by rw [← Hr.out]; exact seenS_ad _ _] at hX
              go_meet
              exact ⟨x, mark, rfl, rfl, rfl, hxT, ⟨_, _, K5, r, hX.1, hX.2, HK5.out.len, by rw [← Hr.out, ← Hls.out]; exact HK5.out.fill rfl _ hll.out⟩⟩
            · have hLL : Hid (L = if (aa : Int) < mark then L else updL L aa (fillC L aa ⟨9, 1000, i, []⟩)) := by
                unfold Hid
                split
                · rfl
                · unfold fillC
                  rw [if_neg (fun e => hfl ⟨e, by omega⟩), updL_self]
              have l0 := HS7.out.logAt haT
              have llg := HS7.out.logLt
              have Hfl := hid hfl
              clear hfl
              go_upto_region 19 with fail
              go_cut [102] from 89 to 102 (fun b wx => b = .bool false ∧ Hid (wx = W7))
              case first =>
                by_cases hk0 : (L aa).kd = 0
                · rw [(logS_nil HL.out aa).2 hk0, show strOf [] = ({ data := #[] } : ByteArray) from rfl] at l0
                  have hlt : (aa : Int) < mark := Classical.byContradiction fun e => Hfl.out ⟨hk0, by omega⟩
                  have hlt2 : ¬ mark ≤ (aa : Int) := by omega
                  have hlt3 : decide (mark ≤ (aa : Int)) = false := by simpa using hlt
                  clear hk0
                  go_wp2_with fail
                  go_meet
                  exact ⟨by first | rfl | simp [hlt3], rfl⟩
                · obtain ⟨n1, n2⟩ := str_nil (logS_byt HL.out aa) (fun e => hk0 ((logS_nil HL.out aa).1 e))
                  generalize strOf (logS L aa) = sv at *
                  clear hk0
                  go_wp2_with fail
                  go_meet
                  exact ⟨by first | rfl | simp [n2], rfl⟩
              case rest =>
                obtain ⟨rfl, hw⟩ := hcut
                have hw' := hw.out.symm
                subst hw'
                clear llg
                have Hby : Hid (∀ d ∈ (logS L aa), 0 ≤ d ∧ d ≤ 255) := logS_byt HL.out aa
                have llg := HS7.out.logLt
                have HSe2 := hid (fun W => seen_any (logS L aa) (decide ((aa : Int) < mark)) Hby.out W)
                obtain ⟨sv, hsv⟩ : ∃ sv, strOf (logS L aa) = sv := ⟨_, rfl⟩
                rw [hsv] at HSe2 l0
                obtain ⟨r, hr⟩ : ∃ r, seenS (logS L aa) (decide ((aa : Int) < mark)) = r := ⟨_, rfl⟩
                rw [hr] at HSe2
                have Hr := hid hr
                clear hsv hr
                go_wp2_with fail
                refine (HSe2.out _).mono ?_
                rintro en w8 ⟨ra, rc, rfl, hb8, hsl, hnw⟩
                have lwb : wb < W7.heap.size := (Array.getElem?_eq_some_iff.1 HB7.out.1).1
                have hbx := (hb8.heap lwb).trans HB7.out.1
                have y0 := cell_of_row w8 wb 0 _ 43 (0, 0) hbx
                have y1 := cell_of_row w8 wb 1 _ 43 (0, 0) hbx
                have y2 := cell_of_row w8 wb 2 _ 43 (0, 0) hbx
                have z0 := frozen_of_row w8 wb 0 _ 43 hbx
                have z1 := frozen_of_row w8 wb 1 _ 43 hbx
                have z2 := frozen_of_row w8 wb 2 _ 43 hbx
                have lw8 : wb < w8.heap.size := Nat.lt_of_lt_of_le lwb hb8.lt
                have hS8 := HS7.out.bl' (tag' := tagTo tag7 W7.heap.size 0) hb8 fun b hb => tagTo_old _ _ _ _ hb
                have HX := hid (hS8.want hbx ((tagTo_old _ _ _ _ lwb).trans HB7.out.2.1) HB7.out.2.2 hsl fun b hb => ⟨tagTo_new _ _ _ _ (hnw b hb).1, (hnw b hb).2, by have := (hnw b hb).1; omega⟩)
                clear hS8 hbx hsl hnw hb8
                go_wp2_with fail
                have hX := HX.out
                rw [show r.ad = 0 by rw [← Hr.out]; exact seenS_ad _ _] at hX
                go_meet
                exact ⟨x, mark, rfl, rfl, rfl, hxT, ⟨L, _, K5, r, hX.1, hX.2, HK5.out.len, by rw [← Hr.out]; exact HK5.out.fill rfl L hLL.out⟩⟩
        · as_aux_lemma =>
            subst hk1
            have d2 := (HS7.out.bl.cell Hd2.out.2).trans Hd2.out.1
            have ldr : db < W7.heap.size := Nat.lt_of_lt_of_le Hd2.out.2 HS7.out.bl.lt
            have hTT := HT.out
            have HPm := hid (fun W => pick_any bb (T + 1) W Hbb.out.1 Hbb.out.2 (by omega) (by omega))
            obtain ⟨pm, hpm⟩ : ∃ pm, pk bb (n * ce + 1) = pm := ⟨_, rfl⟩
            rw [← hTT, hpm, hTT] at HPm
            have hpr := pk_range bb (n * ce + 1) (by omega)
            rw [hpm] at hpr
            have hw1 : IntKind.i64.wrap ((T : Int) + 1) = T + 1 := by rw [IntKind.wrap_i64]; omega
            have Hpm := hid hpm
            clear hTT hpm
            go_wp2_with fail
            refine (HPm.out _).mono ?_
            rintro en w' ⟨rfl, hw⟩
            have hw := hw.symm
            subst hw
            go_wp2_with fail
            go_meet
            exact ⟨x, max mark pm, rfl, rfl, rfl, hxT, ⟨L, tag7, K5, ⟨1, 0, []⟩, HS7.out, ⟨none, 0, HB7.out.1, HB7.out.2.1, HB7.out.2.2, .inl ⟨_, _, rfl, rfl⟩, fun b hb => by simp [Value.ownBlock] at hb⟩, HK5.out.len, by rw [← Hpm.out]; exact HK5.out.trim rfl⟩⟩
      case rest =>
        as_aux_lemma =>
          obtain ⟨x', mark', rfl, rfl, rfl, hx'T, HJ⟩ := hcut
          obtain ⟨L2, tag2, K2, r, hS, hWb, hl2, hN⟩ := HJ.out
          have HBt := hid (solo_beat hS.sw Hf.out hN)
          have HS := hid hS
          have HWb := hid hWb
          clear HJ hS hWb hN hl2 HS7 HB7 HK5 HL
          go_wp2_with fail
          refine HBt.out.mono ?_
          rintro en w9 ⟨rfl, tag9, k9, K9, hTh, hs9⟩
          have HS9 := hid (HS.out.step k9 (by unfold Pw; omega) hs9)
          have HWb9 := hid (HWb.out.step k9 (by unfold Pw; omega))
          obtain ⟨hPs, c9, hc9, hf9, rfl⟩ := hTh
          rw [← Hcv.out] at hs9
          obtain ⟨⟨lg9, c7, lcb9⟩, ta9, tc9, ra9, rc9, ⟨d0, d1, d2, d3, d4, d5, d6, d7, d8, d9, d10⟩, hsl9⟩ := hs9.call hPs.len hc9
          have HPs := hid hPs
          have Hsl9 := hid hsl9
          clear hPs hsl9 hs9 k9 HBt HS HWb hc9
          go_upto_region 38 with fail
          go_cut [24] from 192 to 203 (fun y wx => ∃ rb, y = .pointer (some ⟨rb, 0, none⟩) ∧ Hid (Bl w9 wx ∧ wx.heap[rb]? = some (.cells #[.int .i64 0, .int .i64 i, .int .i64 c9.kind, .int .i64 c9.pos, .string (strOf c9.value), .slice ta9 c9.tokens.length tc9, .int .i64 c9.beg, .int .i64 c9.fin, .int .i64 c9.r.wh, .int .i64 c9.r.ad, .slice ra9 c9.r.val.length rc9] 60 (0, 0))))
          case first =>
            obtain ⟨l1, hl1⟩ : ∃ l1, i + 1 = l1 := ⟨_, rfl⟩
            rw [hl1] at c7
            have hix : IntKind.i64.wrap ((l1 : Int) - 1) = i := by rw [IntKind.wrap_i64]; omega
            have hix2 : (i : Int) < (l1 : Int) := by omega
            have hix3 : (0 : Int) ≤ (i : Int) := by omega
            clear hl1
            go_region_held3 (fun W => W.cell? ⟨g, 7, none⟩ = some (.slice (some ⟨cb, 0, none⟩) l1 cc) ∧ W.cell? ⟨cb, i * 11, none⟩ = some (.int .i64 0) ∧ W.cell? ⟨cb, i * 11 + 1, none⟩ = some (.int .i64 i) ∧ W.cell? ⟨cb, i * 11 + 2, none⟩ = some (.int .i64 c9.kind) ∧ W.cell? ⟨cb, i * 11 + 3, none⟩ = some (.int .i64 c9.pos) ∧ W.cell? ⟨cb, i * 11 + 4, none⟩ = some (.string (strOf c9.value)) ∧ W.cell? ⟨cb, i * 11 + 5, none⟩ = some (.slice ta9 c9.tokens.length tc9) ∧ W.cell? ⟨cb, i * 11 + 6, none⟩ = some (.int .i64 c9.beg) ∧ W.cell? ⟨cb, i * 11 + 7, none⟩ = some (.int .i64 c9.fin) ∧ W.cell? ⟨cb, i * 11 + 8, none⟩ = some (.int .i64 c9.r.wh) ∧ W.cell? ⟨cb, i * 11 + 9, none⟩ = some (.int .i64 c9.r.ad) ∧ W.cell? ⟨cb, i * 11 + 10, none⟩ = some (.slice ra9 c9.r.val.length rc9)) (go_keep) (fail)
            all_goals (go_wp2_with fail; go_meet)
            all_goals exact ⟨_, rfl, ((Bl.refl w9).alloc _).drew, heap_alloc_new w9 _⟩
          case rest =>
            obtain ⟨rb, rfl, HR⟩ := hcut
            obtain ⟨W10, rfl⟩ : ∃ W10, W10 = wc := ⟨_, rfl⟩
            obtain ⟨⟨y0, y1, y2, y3, y4, y5, y6, y7, y8, y9, y10⟩, lrb⟩ := row11 HR.out.2
            obtain ⟨wa, wcc, hwx, _, _, hwsl, _⟩ := HWb9.out.bl (tag' := tag9) HR.out.1 fun _ _ => rfl
            have u0 := cell_of_row W10 wb 0 _ 43 (0, 0) hwx
            have u1 := cell_of_row W10 wb 1 _ 43 (0, 0) hwx
            have u2 := cell_of_row W10 wb 2 _ 43 (0, 0) hwx
            have lwb : wb < W10.heap.size := (Array.getElem?_eq_some_iff.1 hwx).1
            have kr := conv_any _ _ W10 (Hsl9.out.bl HR.out.1)
            have kw := conv_any _ _ W10 hwsl
            obtain ⟨sv, hsv⟩ : ∃ sv, strOf c9.r.val = sv := ⟨_, rfl⟩
            rw [hsv] at kr kw
            have HBf := hid (HS9.out.bl' (tag' := tag9) HR.out.1 fun _ _ => rfl)
            clear hsv hwx hwsl d0 d1 d2 d3 d4 d5 d6 d7 d8 d9 d10 c7 HS9 HWb9 Hsl9
            go_wp2
            exact ⟨⟨i + 1, x', mark', rfl, rfl, by go_num, by omega, hx'T, ⟨L2, tag9, _, K9, HBf.out, HPs.out⟩⟩, by simp [Go.RowKit.intOf]; omega⟩
    · have HgoN := hid hgo
      clear hgo
      go_upto_region 9 with fail
      go_cut [49] from 42 to 49 (fun b wx => b = .bool false ∧ Hid (wx = wr))
      case first =>
        by_cases hil : (i : Int) < (len : Int)
        · have h30 : ¬ (i : Int) < 30 := fun e => HgoN.out ⟨by omega, by omega⟩
          have h30b : decide ((i : Int) < 30) = false := by simpa using h30
          go_wp2_with fail
          go_meet
          exact ⟨by first | rfl | simp [h30b], rfl⟩
        · go_wp2_with fail
          go_meet
          exact ⟨by first | rfl | simp [hil], rfl⟩
      case rest =>
        as_aux_lemma =>
          obtain ⟨rfl, hw⟩ := hcut
          have hw' := hw.out.symm
          subst hw'
          clear hw
          obtain ⟨L, tagi, cvi, K, hS, hP⟩ := HI.out
          have HCa := hid (solo_app hS.sw hP Hf.out hi30 (by omega) 0 (by decide))
          have HS := hid hS
          clear HI hS hP
          go_wp2_with fail
          refine HCa.out.mono ?_
          rintro en w5 ⟨rfl, tag5, k5, cv5, K5, hs5, hl5, hA5⟩
          have HS5 := hid (HS.out.step k5 (by unfold Pc; omega) hs5)
          have HFu := hid (solo_full (t := (T : Int)) hs5 hA5 Hf.out hi30 (by omega) (by rw [HT.out]; omega))
          have hsh : ∃ cb cc, cv5 = .slice (some ⟨cb, 0, none⟩) (i + 1) cc := by
            obtain ⟨q5, pv5, av5, hv5, ps5, cs5, hX5⟩ := hs5
            obtain ⟨ca, cc, hcv⟩ := hX5.ca.row.shape
            rw [hl5] at hcv
            subst hcv
            have hrow := hX5.ca.row
            rw [hl5] at hrow
            obtain ⟨cb, ecb, _⟩ := hrow.cells (by omega)
            exact ⟨cb, cc, by rw [ecb]⟩
          obtain ⟨cb, cc, hcv⟩ := hsh
          subst hcv
          clear k5 hs5 hl5 hA5 HCa HS
          go_wp2_with fail
          refine HFu.out.mono ?_
          rintro en w6 ⟨rfl, tag6, k6, K6, hs6, hl6, hN6⟩
          have HS6 := hid (HS5.out.step k6 (by unfold Pc; omega) hs6)
          have HBt := hid (solo_beat hs6 Hf.out hN6)
          clear k6 hs6 hl6 hN6 HFu HS5
          go_wp2_with fail
          refine HBt.out.mono ?_
          rintro en w7 ⟨rfl, tag7, k7, K7, hTh, hs7⟩
          have HS7 := hid (HS6.out.step k7 (by unfold Pw; omega) hs7)
          obtain ⟨hPs, c9, hc9, hf9, hr9⟩ := hTh
          obtain ⟨⟨lg9, c7, lcb9⟩, ta9, tc9, ra9, rc9, ⟨_, _, _, _, _, _, _, _, d8, _⟩, _⟩ := hs7.call hPs.len hc9
          rw [hr9] at d8
          have HOn : Hid (∀ W, Bl w7 W → Calls Tryz.prog 32 #[.pointer (some ⟨g, 0, none⟩)] W fun en w' => en = .returned (.bool true) ∧ Bl W w') := fun W hb => by
            obtain ⟨q7, pv7, av7, hv7, ps7, cs7, hX7⟩ := hs7
            have hl := hPs.len
            exact one_any (hX7.bl (tag' := tag7) hb fun _ _ => rfl) Hf.out (by omega) (hPs.inv.one (by omega))
          have HB := hid HS7.out.bl
          clear k7 hs7 hPs hc9 hf9 hr9 HBt HS6 HS7
          go_upto_region 44 with fail
          obtain ⟨l1, hl1⟩ : ∃ l1, i + 1 = l1 := ⟨_, rfl⟩
          rw [hl1] at c7
          have hix : IntKind.i64.wrap ((l1 : Int) - 1) = i := by rw [IntKind.wrap_i64]; omega
          have hix2 : (i : Int) < (l1 : Int) := by omega
          have hix3 : (0 : Int) ≤ (i : Int) := by omega
          clear hl1
          go_region_held3 (fun W => W.cell? ⟨g, 7, none⟩ = some (.slice (some ⟨cb, 0, none⟩) l1 cc) ∧ W.cell? ⟨cb, i * 11 + 8, none⟩ = some (.int .i64 7)) (go_keep) (first | (go_at_call 32; refine (HOn.out _ ?hb).mono ?_; (case hb => first | exact Bl.refl _ | exact (Bl.refl _).drew | exact (Bl.refl _).drewN _); rintro en w8 ⟨rfl, hb8⟩; have hB8 : Bl w7 w8 := Bl.trans (by first | exact Bl.refl _ | exact (Bl.refl _).drew | exact (Bl.refl _).drewN _) hb8; have c7 := (hB8.cell (o := 7) lg9).trans c7; have d8 := (hB8.cell (o := i * 11 + 8) lcb9).trans d8; have lg9 := Nat.lt_of_lt_of_le lg9 hB8.lt; have lcb9 := Nat.lt_of_lt_of_le lcb9 hB8.lt))
          all_goals
            go_wp2
            go_ret
            exact ⟨rfl, HB.out.trans (hB8.trans (by first | exact Bl.refl _ | exact (Bl.refl _).drew | exact (Bl.refl _).drewN _))⟩
end Go.Proofs.YtnhjmiglegdamaaGreat
