-- A unit of the script is called: it is trimmed.
-- A unit of the script is called: it is read.
import Derived.Test.YtkgjpfamjedncaaGreatCellHFrAccByte4AgainC
namespace Go.Proofs.YtkgjpfamjedncaaGreat
open Go.RowKit Go.Maps
attribute [local go_sem ↓] Go.wp_at_zero Go.wp_at_succ

set_option maxRecDepth 100000 in
set_option maxHeartbeats 4000000 in
theorem cellTrim_any (bw j q : Nat) (kl vl : Value) (nb m nn : Nat) (rs : List Rc) (S : Nat → St) (tag : Nat → Nat) (ka kb kc kd u ch : Int) (a b c q1 q2 q3 q4 : Int) (la : Option Addr) (ln lc : Nat) (ua : Option Addr) (un uc : Nat) (s : ByteArray) (t1 t2 t3 : Int) (va : Option Addr) (vn vc : Nat) (w : World)
    (hB : Bt w tag bw kl vl nb w.heap.size) (hO : ObC w tag j q ka kb kc kd u ch rs S m nn) (hl : (flat rs).length ≤ 29000000) (hnb : nb + 1 < 4000000) (hm : m ≤ 4000000) (hnn : nn + 1 < 4000000) (hbw : (Lit.int .i64 b).wf = true) (hcw : (Lit.int .i64 c).wf = true) :
    Calls Tryz.prog 14 #[.pointer (some ⟨bw, 0, none⟩), .agg (opR 7 a b c q1 q2 q3 q4 la ln lc ua un uc s t1 t2 t3 va vn vc), .pointer (some ⟨q, 0, none⟩)] w fun en w' => en = .returned (.bool true) ∧
      (∃ tag' rs' S', (∀ g, g < w.heap.size → tag' g = tag g) ∧ Bt w' tag' bw kl vl (nb + 2) w'.heap.size ∧ ObC w' tag' j q ka kb kc kd u ch rs' S' (m + 1) (nn + 1) ∧ rs'.length ≤ rs.length + 1 ∧ (flat rs').length ≤ (flat rs).length + 60) ∧ Only (fun g => tag g = 2 ∨ Mine j (tag g)) w w' := by
  obtain ⟨hcha, p, y, hOr, hKt, hDt⟩ := hO
  obtain ⟨cx, cy, lq, tq⟩ := hOr.cells
  have lbw := hB.lt.1
  have hF := Fr.lay1 (j := j) hB (opR 7 a b c q1 q2 q3 q4 la ln lc ua un uc s t1 t2 t3 va vn vc) 44
  have bB : Bl w (w.alloc (.cells (opR 7 a b c q1 q2 q3 q4 la ln lc ua un uc s t1 t2 t3 va vn vc) 44)) := (Bl.refl w).alloc _
  have hT : TriC _ (tagTo tag w.heap.size 3) j q p y ka kb kc kd u ch rs S m rs S (S rs.length) nn := TriC.bl (⟨hOr, hKt, hDt⟩ : TriC w tag j q p y ka kb kc kd u ch rs S m rs S (S rs.length) nn) bB 3
  have cx3 := (bB.cell lq).trans cx
  have HI := hid (fr_imageK hF hT.kt (by omega) 4 (.inr rfl))
  have HT := hid hT
  have hvals := hid (hKt.way.vals _ (Nat.le_refl _))
  have Hcha := hid hcha
  obtain ⟨d1, d2, d3, d4, d5, _⟩ := tP_ne j
  have nvr : tV j ≠ tR j := Ne.symm d4
  have nq0 : ¬ q = w.heap.size := by omega
  clear hB hOr hKt hDt hF hT bB hcha d1 d2 d3 d4 d5
  unfold opR at HI HT cx3
  unfold opR
  go_enter Tryz.func14, Tryz.ntmps14
  go_wp2_with fail
  refine HI.out.mono ?_
  rintro en w2 ⟨ia, ic, rfl, hb2, hF2⟩
  have hT2 := HT.out.bl hb2 4
  obtain ⟨OP, o0, o2, o3, tag2, hF2, hT2⟩ : ∃ OP : Array Value, OP[0]? = some (.int .i64 7) ∧ OP[2]? = some (.int .i64 b) ∧ OP[3]? = some (.int .i64 c) ∧ ∃ tag2, Fr w tag j bw kl vl w2 tag2 nb w.heap.size [(w.heap.size, OP, 44)] [(.slice ia (flat rs).length ic, flat rs, 4)] ∧ TriC w2 tag2 j q p y ka kb kc kd u ch rs S m rs S (S rs.length) nn := ⟨_, rfl, rfl, rfl, _, hF2, hT2⟩
  have hF3 := hF2.boxed blank blank 98 98
  have hb3 : Bl w2 ((w2.alloc (.cells blank 98)).alloc (.cells blank 98)) := ((Bl.refl w2).alloc _).alloc _
  have hT3 := hT2.bl hb3 3
  have lw2 : w.heap.size < w2.heap.size := hF2.bo.lt (.head _)
  have lq2 := hT2.orr.cells.2.2.1
  clear HI HT cx cy cx3 hF2 hT2 hb2 hb3
  unfold blank at hF3 hT3
  have u0 := (hF3.bo.cell (.head _) 0).trans o0
  have u2 := (hF3.bo.cell (.head _) 2).trans o2
  have u3 := (hF3.bo.cell (.head _) 3).trans o3
  have ex := hT3.orr.cells.1
  have lq3 := hT3.orr.cells.2.2.1
  have HF3 := hid hF3
  have HT3 := hid hT3
  clear hF3 hT3
  go_upto_region 6 with fail
  generalize hW3 : (w2.alloc (.cells #[.int .i64 0, .int .i64 0, .int .i64 0, .int .i64 0, .int .i64 0, .int .i64 0, .slice none 0 0] 98)).alloc (.cells #[.int .i64 0, .int .i64 0, .int .i64 0, .int .i64 0, .int .i64 0, .int .i64 0, .slice none 0 0] 98) = w3 at *
  clear hW3
  generalize tagTo tag2 w2.heap.size 3 = tag3 at *
  generalize w2.heap.size = N at *
  have nN0 : ¬ N = q := by omega
  have nN1 : ¬ q = N := by omega
  have nN2 : ¬ N = w.heap.size := by omega
  have nN3 : ¬ w.heap.size = N := by omega
  have nN4 : ¬ N + 1 = q := by omega
  have nN5 : ¬ q = N + 1 := by omega
  have nN6 : ¬ N + 1 = w.heap.size := by omega
  have nN7 : ¬ w.heap.size = N + 1 := by omega
  have nN8 : ¬ N + 1 = N := by omega
  have nN9 : ¬ N = N + 1 := by omega
  simp only [List.cons_append, List.nil_append] at HF3
  obtain ⟨R, hR⟩ : ∃ R, R = trimA (S rs.length) b c := ⟨_, rfl⟩
  have hRv : R.1.ct.val.length ≤ 255 := by rw [hR]; exact by unfold trimA; split <;> exact Nat.zero_le _
  have HP : Hid (∀ W, Bl w3 W → _) := fun W hW => fr_k (R := R) (HF3.out.bl hW 1) (HT3.out.bl hW 1) (by rw [hR]; exact kc_trim (HT3.out.bl hW 1).kt b c hbw hcw (by omega))
  have HD : Hid (∀ (W : World) (tagW' : Nat → Nat) (nW : Nat), nW ≤ 4000000 → Dt W tagW' (tR j) (tV j) y ka kb kc kd u (S rs.length) nW → DCall 46 #[.pointer (some ⟨y, 0, none⟩), .int .i64 b, .int .i64 c] W tagW' (tR j) (tV j) y ka kb kc kd u nW R) := fun W tagW' nW hnW hW => by rw [hR]; exact dc_trim hW b c
  clear hR
  go_cut [] from 22 to 30 (fun wx => ∃ xa xc rs' S' tag', Hid (MoreK rs S rs' S' ∧ S' rs'.length = R.2 ∧ (flat rs').length ≤ (flat rs).length + 60) ∧ Hid (Fr w tag j bw kl vl wx tag' nb w.heap.size [(w.heap.size, OP, 44), (N, #[.int .i64 R.1.wh, .int .i64 R.1.ep, .int .i64 R.1.mark, .int .i64 R.1.ct.kd, .int .i64 R.1.ct.cl, .int .i64 R.1.ct.ca, .slice xa R.1.ct.val.length xc], 98), (N + 1, #[.int .i64 0, .int .i64 0, .int .i64 0, .int .i64 0, .int .i64 0, .int .i64 0, .slice none 0 0], 98)] [(.slice xa R.1.ct.val.length xc, R.1.ct.val, 1), (.slice ia (flat rs).length ic, flat rs, 4)]) ∧ Hid (TriC wx tag' j q p y ka kb kc kd u ch rs S m rs' S' (S rs.length) nn))
  case first =>
    go_region_held3 (fun W => W.cell? ⟨q, 0, none⟩ = some (.pointer (some ⟨p, 0, none⟩)) ∧ W.cell? ⟨w.heap.size, 2, none⟩ = some (.int .i64 b) ∧ W.cell? ⟨w.heap.size, 3, none⟩ = some (.int .i64 c)) (go_keep)
      (first | (go_at_call 45; refine (HP.out _ ?hb).mono ?_; (case hb => first | exact (Bl.refl _).drewN _ | exact (Bl.refl _).drew | exact Bl.refl _); rintro en w4 ⟨xa, xc, rs', S', tag', rfl, hM, hE, hsz, _, _, hF4, hT4⟩; have v2 := (hF4.bo.cell (.head _) 2).trans o2; have v3 := (hF4.bo.cell (.head _) 3).trans o3; have vx := hT4.orr.cells.1; have vl4 := hT4.orr.cells.2.2.1; obtain ⟨⟨n0, n1, n2, n3, n4, n5, n6⟩, ⟨f0, f1, f2, f3, f4, f5, f6⟩, lN⟩ := hF4.bo.row7 (.tail _ (.head _)); have HA := hid (And.intro hM (And.intro hE hsz)); have HF4 := hid hF4; have HT4 := hid hT4; clear hM hE hsz hF4 hT4; unfold An.val reply))
    all_goals (go_wp2_with fail; go_meet)
    all_goals
      obtain ⟨r1, r2⟩ := fr_box7 [(w.heap.size, OP, 44)] [(N + 1, #[.int .i64 0, .int .i64 0, .int .i64 0, .int .i64 0, .int .i64 0, .int .i64 0, .slice none 0 0], 98)] HF4.out HT4.out (fun x hx => by simp at hx; rcases hx with rfl | rfl <;> (dsimp only; omega)) (.int .i64 R.1.wh) (.int .i64 R.1.ep) (.int .i64 R.1.mark) (.int .i64 R.1.ct.kd) (.int .i64 R.1.ct.cl) (.int .i64 R.1.ct.ca) (.slice xa R.1.ct.val.length xc)
      exact ⟨xa, xc, rs', S', tag', HA.out, r1, r2⟩
  case rest =>
    obtain ⟨xa, xc, rs', S', tag4, HA, HF4, HT4⟩ := hcut
    have HP2 : Hid (∀ W, Bl wc W → _) := fun W hW => fr_d (HF4.out.bl hW 1) (HT4.out.bl hW 1) (HD.out W _ nn (by omega) (HT4.out.bl hW 1).dt)
    have v2 := (HF4.out.bo.cell (.head _) 2).trans o2
    have v3 := (HF4.out.bo.cell (.head _) 3).trans o3
    have vy := HT4.out.orr.cells.2.1
    have vl4 := HT4.out.orr.cells.2.2.1
    clear HP HF4 HT4 u0 u2 u3 ex lq3 HF3 HT3
    go_upto_region 7 with fail
    go_region_held3 (fun W => W.cell? ⟨q, 1, none⟩ = some (.pointer (some ⟨y, 0, none⟩)) ∧ W.cell? ⟨w.heap.size, 2, none⟩ = some (.int .i64 b) ∧ W.cell? ⟨w.heap.size, 3, none⟩ = some (.int .i64 c)) (go_keep)
        (first | (go_at_call 46; refine (HP2.out _ ?hb).mono ?_; (case hb => first | exact (Bl.refl _).drewN _ | exact (Bl.refl _).drew | exact Bl.refl _); rintro en w5 ⟨ya, yc, tag', rfl, ho5, _, hF5, hT5⟩; have z2 := (hF5.bo.cell (.head _) 2).trans o2; have z3 := (hF5.bo.cell (.head _) 3).trans o3; have zy := hT5.orr.cells.2.1; have zl := hT5.orr.cells.2.2.1; obtain ⟨⟨n0, n1, n2, n3, n4, n5, n6⟩, ⟨f0, f1, f2, f3, f4, f5, f6⟩, lN⟩ := hF5.bo.row7 (.tail _ (.tail _ (.head _))); have Ho5 := hid ho5; have HF5 := hid hF5; have HT5 := hid hT5; clear ho5 hF5 hT5; unfold An.val reply))
    all_goals
      have hg : w5.heap[N + 1]? = some (.cells #[.int .i64 0, .int .i64 0, .int .i64 0, .int .i64 0, .int .i64 0, .int .i64 0, .slice none 0 0] 98 (0, 0)) := (HF5.out.bo _ (.tail _ (.tail _ (.head _)))).1
      have r12 := fr_box7 [(w.heap.size, OP, 44), (N, #[.int .i64 R.1.wh, .int .i64 R.1.ep, .int .i64 R.1.mark, .int .i64 R.1.ct.kd, .int .i64 R.1.ct.cl, .int .i64 R.1.ct.ca, .slice xa R.1.ct.val.length xc], 98)] [] HF5.out HT5.out (fun x hx => by simp at hx; rcases hx with rfl | rfl <;> (dsimp only; omega)) (.int .i64 R.1.wh) (.int .i64 R.1.ep) (.int .i64 R.1.mark) (.int .i64 R.1.ct.kd) (.int .i64 R.1.ct.cl) (.int .i64 R.1.ct.ca) (.slice ya R.1.ct.val.length yc)
      have r3 := (Only.set7 (w := w5) (S := fun g => g = N + 1) (g := N + 1) rfl (.int .i64 R.1.wh) (.int .i64 R.1.ep) (.int .i64 R.1.mark) (.int .i64 R.1.ct.kd) (.int .i64 R.1.ct.cl) (.int .i64 R.1.ct.ca) (.slice ya R.1.ct.val.length yc)).owns Ho5.out fun g hg' e => own_ne_block Ho5.out hg (by decide) (by rw [hg', e])
      generalize (((((((w5.setCell ⟨N + 1, 0, none⟩ (.int .i64 R.1.wh)).setCell ⟨N + 1, 1, none⟩ (.int .i64 R.1.ep)).setCell ⟨N + 1, 2, none⟩ (.int .i64 R.1.mark)).setCell ⟨N + 1, 3, none⟩ (.int .i64 R.1.ct.kd)).setCell ⟨N + 1, 4, none⟩ (.int .i64 R.1.ct.cl)).setCell ⟨N + 1, 5, none⟩ (.int .i64 R.1.ct.ca)).setCell ⟨N + 1, 6, none⟩ (.slice ya R.1.ct.val.length yc)) = wc at r12 r3 ⊢
      have Hyo := hid r3
      have HF5 := hid r12.1
      have HT5 := hid r12.2
      clear r12 r3 hg Ho5 z2 z3 zy zl n0 n1 n2 n3 n4 n5 n6 f0 f1 f2 f3 f4 f5 f6 lN
      have hpx := (HF5.out.pd _ (.head _)).1
      obtain ⟨⟨n0, n1, n2, n3, n4, n5, n6⟩, _, lN⟩ := HF5.out.bo.row7 (.tail _ (.head _))
      obtain ⟨⟨m0, m1, m2, m3, m4, m5, m6⟩, _, lM⟩ := HF5.out.bo.row7 (.tail _ (.tail _ (.head _)))
      have HSame := hid (sameReply_any R.1.wh R.1.ep R.1.mark R.1.ct.kd R.1.ct.cl R.1.ct.ca (.slice xa R.1.ct.val.length xc) (.slice ya R.1.ct.val.length yc) R.1.ct.val wc (ownsRow_sl hpx) (ownsRow_sl Hyo.out))
      unfold reply at HSame
      clear HP2 hpx v2 v3 vy vl4 Hyo HD
      go_wp2_with fail
      refine HSame.out.mono ?_
      rintro en w6 ⟨rfl, hb6⟩
      have hF6 := HF5.out.bl hb6 1
      have HBy : Hid (∀ W, Bl w6 W → _) := fun W hW => fr_byteC (hF6.bl hW 1) ((HT5.out.bl hb6 1).bl hW 1) (by intro x hx; simp at hx; rw [hx]) (by omega) (by omega)
      obtain ⟨⟨_, _, _, _, _, _, n6⟩, _, lN⟩ := hF6.bo.row7 (.tail _ (.head _))
      have lb6 : bw < w6.heap.size := by have := hF6.size; omega
      clear HSame HF5 HT5 hb6 hF6 m0 m1 m2 m3 m4 m5 m6 lM
      go_upto_region 22 with fail
      go_cut [] from 120 to 126 (fun wx => ∃ tag', Hid (Fr w tag j bw kl vl wx tag' (nb + 1) wx.heap.size [(w.heap.size, OP, 44), (N, #[.int .i64 R.1.wh, .int .i64 R.1.ep, .int .i64 R.1.mark, .int .i64 R.1.ct.kd, .int .i64 R.1.ct.cl, .int .i64 R.1.ct.ca, .slice xa R.1.ct.val.length xc], 98), (N + 1, #[.int .i64 R.1.wh, .int .i64 R.1.ep, .int .i64 R.1.mark, .int .i64 R.1.ct.kd, .int .i64 R.1.ct.cl, .int .i64 R.1.ct.ca, .slice ya R.1.ct.val.length yc], 98)] [(.slice ia (flat rs).length ic, flat rs, 4)]) ∧ Hid (TriC wx tag' j q p y ka kb kc kd u ch rs S m rs' S' R.2 (nn + 1)))
      case first =>
        go_region_held3 (fun W => W.cell? ⟨N, 6, none⟩ = some (.slice xa R.1.ct.val.length xc)) (go_keep)
          (first | (go_at_call 36; refine (HBy.out _ ?hb).mono ?_; (case hb => first | exact (Bl.refl _).drewN _ | exact (Bl.refl _).drew | exact Bl.refl _); rintro en w8 ⟨rfl, tag8, _, hF8, hO8⟩; have n38 := (hF8.bo.row7 (.tail _ (.head _))).1.2.2.2.2.2.2; have HF8 := hid hF8; have HO8 := hid hO8; clear hF8 hO8))
        all_goals (go_wp2_with fail; go_meet)
        all_goals exact ⟨tag8, HF8.out, HO8.out⟩
      case rest =>
        obtain ⟨tag8, HF8, HT8⟩ := hcut
        have cx8 := HT8.out.orr.cells.1
        have lq8 := HT8.out.orr.cells.2.2.1
        have HI8 := hid (fr_imageK HF8.out HT8.out.kt (by have := HA.out.2.2; omega) 4 (.inr rfl))
        clear HBy n0 n1 n2 n3 n4 n5 n6 lN lb6
        go_wp2_with fail
        refine HI8.out.mono ?_
        rintro en w9 ⟨fa, fc, rfl, hb9, hF9⟩
        have hT9 := HT8.out.bl hb9 4
        obtain ⟨zs, hzs⟩ := HA.out.1.flat
        have hbe := (hF9.pd _ (.tail _ (.head _))).1
        have haf := (hF9.pd _ (.head _)).1
        have hlen : (flat rs').length = (flat rs).length + zs.length := by rw [hzs, List.length_append]
        have HG := hid (grows_any 0 0 _ _ (flat rs) zs w9 hbe (by have h' := haf; simp only at h'; rw [← hzs, ← hlen]; exact h') (by have := HA.out.2.2; omega))
        simp only at HG
        have HF9 := hid hF9
        have HT9 := hid hT9
        clear HI8 HF8 HT8 hb9 hF9 hT9 hbe haf cx8 lq8 hzs hlen
        go_wp2_with fail
        refine HG.out.mono ?_
        rintro en w10 ⟨rfl, hb10⟩
        have hF10 := HF9.out.bl hb10 1
        have hT10 := HT9.out.bl hb10 1
        have HN := hid (fr_noted hF10 (by intro x hx; simp at hx; rcases hx with rfl | rfl <;> rfl) Hcha.out hT10.orr HA.out.1 hT10.kt (by rw [HA.out.2.1]; exact hT10.dt) hm (by omega) (by have := HA.out.2.2; omega) (by omega))
        have lb10 : bw < w10.heap.size := by have := hF10.size; omega
        clear HG HF9 HT9 hb10 hF10 hT10
        go_wp2_with fail
        refine HN.out.mono ?_
        rintro en w11 ⟨rfl, tag11, _, hF11, hO11⟩
        have HF11 := hid hF11
        have HO11 := hid hO11
        clear HN hF11 hO11
        go_wp2
        go_ret
        exact ⟨rfl, ⟨tag11, rs', S', HF11.out.old, HF11.out.bt, HO11.out, by have := HA.out.1.len; omega, HA.out.2.2⟩, HF11.out.out⟩
end Go.Proofs.YtkgjpfamjedncaaGreat

namespace Go.Proofs.YtkgjpfamjedncaaGreat
open Go.RowKit Go.Maps
attribute [local go_sem ↓] Go.wp_at_zero Go.wp_at_succ

set_option maxRecDepth 100000 in
set_option maxHeartbeats 4000000 in
theorem cellRead_any (bw j q : Nat) (kl vl : Value) (nb m nn : Nat) (rs : List Rc) (S : Nat → St) (tag : Nat → Nat) (ka kb kc kd u ch : Int) (a b c q1 q2 q3 q4 : Int) (la : Option Addr) (ln lc : Nat) (ua : Option Addr) (un uc : Nat) (s : ByteArray) (t1 t2 t3 : Int) (va : Option Addr) (vn vc : Nat) (w : World)
    (hB : Bt w tag bw kl vl nb w.heap.size) (hO : ObC w tag j q ka kb kc kd u ch rs S m nn) (hl : (flat rs).length ≤ 29000000) (hnb : nb + 1 < 4000000) (hm : m ≤ 4000000) (hnn : nn + 1 < 4000000) (hbw : (Lit.int .i64 b).wf = true) :
    Calls Tryz.prog 14 #[.pointer (some ⟨bw, 0, none⟩), .agg (opR 6 a b c q1 q2 q3 q4 la ln lc ua un uc s t1 t2 t3 va vn vc), .pointer (some ⟨q, 0, none⟩)] w fun en w' => en = .returned (.bool true) ∧
      (∃ tag' rs' S', (∀ g, g < w.heap.size → tag' g = tag g) ∧ Bt w' tag' bw kl vl (nb + 2) w'.heap.size ∧ ObC w' tag' j q ka kb kc kd u ch rs' S' (m + 1) (nn + 1) ∧ rs'.length ≤ rs.length + 1 ∧ (flat rs').length ≤ (flat rs).length + 60) ∧ Only (fun g => tag g = 2 ∨ Mine j (tag g)) w w' := by
  obtain ⟨hcha, p, y, hOr, hKt, hDt⟩ := hO
  obtain ⟨cx, cy, lq, tq⟩ := hOr.cells
  have lbw := hB.lt.1
  have hF := Fr.lay1 (j := j) hB (opR 6 a b c q1 q2 q3 q4 la ln lc ua un uc s t1 t2 t3 va vn vc) 44
  have bB : Bl w (w.alloc (.cells (opR 6 a b c q1 q2 q3 q4 la ln lc ua un uc s t1 t2 t3 va vn vc) 44)) := (Bl.refl w).alloc _
  have hT : TriC _ (tagTo tag w.heap.size 3) j q p y ka kb kc kd u ch rs S m rs S (S rs.length) nn := TriC.bl (⟨hOr, hKt, hDt⟩ : TriC w tag j q p y ka kb kc kd u ch rs S m rs S (S rs.length) nn) bB 3
  have cx3 := (bB.cell lq).trans cx
  have HI := hid (fr_imageK hF hT.kt (by omega) 4 (.inr rfl))
  have HT := hid hT
  have hvals := hid (hKt.way.vals _ (Nat.le_refl _))
  have Hcha := hid hcha
  obtain ⟨d1, d2, d3, d4, d5, _⟩ := tP_ne j
  have nvr : tV j ≠ tR j := Ne.symm d4
  have nq0 : ¬ q = w.heap.size := by omega
  clear hB hOr hKt hDt hF hT bB hcha d1 d2 d3 d4 d5
  unfold opR at HI HT cx3
  unfold opR
  go_enter Tryz.func14, Tryz.ntmps14
  go_wp2_with fail
  refine HI.out.mono ?_
  rintro en w2 ⟨ia, ic, rfl, hb2, hF2⟩
  have hT2 := HT.out.bl hb2 4
  obtain ⟨OP, o0, o2, o3, tag2, hF2, hT2⟩ : ∃ OP : Array Value, OP[0]? = some (.int .i64 6) ∧ OP[2]? = some (.int .i64 b) ∧ OP[3]? = some (.int .i64 c) ∧ ∃ tag2, Fr w tag j bw kl vl w2 tag2 nb w.heap.size [(w.heap.size, OP, 44)] [(.slice ia (flat rs).length ic, flat rs, 4)] ∧ TriC w2 tag2 j q p y ka kb kc kd u ch rs S m rs S (S rs.length) nn := ⟨_, rfl, rfl, rfl, _, hF2, hT2⟩
  have hF3 := hF2.boxed blank blank 98 98
  have hb3 : Bl w2 ((w2.alloc (.cells blank 98)).alloc (.cells blank 98)) := ((Bl.refl w2).alloc _).alloc _
  have hT3 := hT2.bl hb3 3
  have lw2 : w.heap.size < w2.heap.size := hF2.bo.lt (.head _)
  have lq2 := hT2.orr.cells.2.2.1
  clear HI HT cx cy cx3 hF2 hT2 hb2 hb3
  unfold blank at hF3 hT3
  have u0 := (hF3.bo.cell (.head _) 0).trans o0
  have u2 := (hF3.bo.cell (.head _) 2).trans o2
  have u3 := (hF3.bo.cell (.head _) 3).trans o3
  have ex := hT3.orr.cells.1
  have lq3 := hT3.orr.cells.2.2.1
  have HF3 := hid hF3
  have HT3 := hid hT3
  clear hF3 hT3
  go_upto_region 19 with fail
  generalize hW3 : (w2.alloc (.cells #[.int .i64 0, .int .i64 0, .int .i64 0, .int .i64 0, .int .i64 0, .int .i64 0, .slice none 0 0] 98)).alloc (.cells #[.int .i64 0, .int .i64 0, .int .i64 0, .int .i64 0, .int .i64 0, .int .i64 0, .slice none 0 0] 98) = w3 at *
  clear hW3
  generalize tagTo tag2 w2.heap.size 3 = tag3 at *
  generalize w2.heap.size = N at *
  have nN0 : ¬ N = q := by omega
  have nN1 : ¬ q = N := by omega
  have nN2 : ¬ N = w.heap.size := by omega
  have nN3 : ¬ w.heap.size = N := by omega
  have nN4 : ¬ N + 1 = q := by omega
  have nN5 : ¬ q = N + 1 := by omega
  have nN6 : ¬ N + 1 = w.heap.size := by omega
  have nN7 : ¬ w.heap.size = N + 1 := by omega
  have nN8 : ¬ N + 1 = N := by omega
  have nN9 : ¬ N = N + 1 := by omega
  simp only [List.cons_append, List.nil_append] at HF3
  obtain ⟨R, hR⟩ : ∃ R, R = readA ka kb kc kd ch (S rs.length) b c := ⟨_, rfl⟩
  have hRv : R.1.ct.val.length ≤ 255 := by rw [hR]; exact by unfold readA; split; exact Nat.zero_le _; exact look_val hvals.out
  have HP : Hid (∀ W, Bl w3 W → _) := fun W hW => fr_k (R := R) (HF3.out.bl hW 1) (HT3.out.bl hW 1) (by rw [hR]; exact kc_read (HT3.out.bl hW 1).kt b c hbw (by omega))
  have HD : Hid (∀ (W : World) (tagW' : Nat → Nat) (nW : Nat), nW ≤ 4000000 → Dt W tagW' (tR j) (tV j) y ka kb kc kd u (S rs.length) nW → DCall 41 #[.pointer (some ⟨y, 0, none⟩), .int .i64 b, .int .i64 c] W tagW' (tR j) (tV j) y ka kb kc kd u nW R) := fun W tagW' nW hnW hW => by rw [hR]; exact dc_read hW Hcha.out hnW nvr b c
  clear hR
  go_cut [] from 99 to 107 (fun wx => ∃ xa xc rs' S' tag', Hid (MoreK rs S rs' S' ∧ S' rs'.length = R.2 ∧ (flat rs').length ≤ (flat rs).length + 60) ∧ Hid (Fr w tag j bw kl vl wx tag' nb w.heap.size [(w.heap.size, OP, 44), (N, #[.int .i64 R.1.wh, .int .i64 R.1.ep, .int .i64 R.1.mark, .int .i64 R.1.ct.kd, .int .i64 R.1.ct.cl, .int .i64 R.1.ct.ca, .slice xa R.1.ct.val.length xc], 98), (N + 1, #[.int .i64 0, .int .i64 0, .int .i64 0, .int .i64 0, .int .i64 0, .int .i64 0, .slice none 0 0], 98)] [(.slice xa R.1.ct.val.length xc, R.1.ct.val, 1), (.slice ia (flat rs).length ic, flat rs, 4)]) ∧ Hid (TriC wx tag' j q p y ka kb kc kd u ch rs S m rs' S' (S rs.length) nn))
  case first =>
    go_region_held3 (fun W => W.cell? ⟨q, 0, none⟩ = some (.pointer (some ⟨p, 0, none⟩)) ∧ W.cell? ⟨w.heap.size, 2, none⟩ = some (.int .i64 b) ∧ W.cell? ⟨w.heap.size, 3, none⟩ = some (.int .i64 c)) (go_keep)
      (first | (go_at_call 40; refine (HP.out _ ?hb).mono ?_; (case hb => first | exact (Bl.refl _).drewN _ | exact (Bl.refl _).drew | exact Bl.refl _); rintro en w4 ⟨xa, xc, rs', S', tag', rfl, hM, hE, hsz, _, _, hF4, hT4⟩; have v2 := (hF4.bo.cell (.head _) 2).trans o2; have v3 := (hF4.bo.cell (.head _) 3).trans o3; have vx := hT4.orr.cells.1; have vl4 := hT4.orr.cells.2.2.1; obtain ⟨⟨n0, n1, n2, n3, n4, n5, n6⟩, ⟨f0, f1, f2, f3, f4, f5, f6⟩, lN⟩ := hF4.bo.row7 (.tail _ (.head _)); have HA := hid (And.intro hM (And.intro hE hsz)); have HF4 := hid hF4; have HT4 := hid hT4; clear hM hE hsz hF4 hT4; unfold An.val reply))
    all_goals (go_wp2_with fail; go_meet)
    all_goals
      obtain ⟨r1, r2⟩ := fr_box7 [(w.heap.size, OP, 44)] [(N + 1, #[.int .i64 0, .int .i64 0, .int .i64 0, .int .i64 0, .int .i64 0, .int .i64 0, .slice none 0 0], 98)] HF4.out HT4.out (fun x hx => by simp at hx; rcases hx with rfl | rfl <;> (dsimp only; omega)) (.int .i64 R.1.wh) (.int .i64 R.1.ep) (.int .i64 R.1.mark) (.int .i64 R.1.ct.kd) (.int .i64 R.1.ct.cl) (.int .i64 R.1.ct.ca) (.slice xa R.1.ct.val.length xc)
      exact ⟨xa, xc, rs', S', tag', HA.out, r1, r2⟩
  case rest =>
    obtain ⟨xa, xc, rs', S', tag4, HA, HF4, HT4⟩ := hcut
    have HP2 : Hid (∀ W, Bl wc W → _) := fun W hW => fr_d (HF4.out.bl hW 1) (HT4.out.bl hW 1) (HD.out W _ nn (by omega) (HT4.out.bl hW 1).dt)
    have v2 := (HF4.out.bo.cell (.head _) 2).trans o2
    have v3 := (HF4.out.bo.cell (.head _) 3).trans o3
    have vy := HT4.out.orr.cells.2.1
    have vl4 := HT4.out.orr.cells.2.2.1
    clear HP HF4 HT4 u0 u2 u3 ex lq3 HF3 HT3
    go_upto_region 20 with fail
    go_region_held3 (fun W => W.cell? ⟨q, 1, none⟩ = some (.pointer (some ⟨y, 0, none⟩)) ∧ W.cell? ⟨w.heap.size, 2, none⟩ = some (.int .i64 b) ∧ W.cell? ⟨w.heap.size, 3, none⟩ = some (.int .i64 c)) (go_keep)
        (first | (go_at_call 41; refine (HP2.out _ ?hb).mono ?_; (case hb => first | exact (Bl.refl _).drewN _ | exact (Bl.refl _).drew | exact Bl.refl _); rintro en w5 ⟨ya, yc, tag', rfl, ho5, _, hF5, hT5⟩; have z2 := (hF5.bo.cell (.head _) 2).trans o2; have z3 := (hF5.bo.cell (.head _) 3).trans o3; have zy := hT5.orr.cells.2.1; have zl := hT5.orr.cells.2.2.1; obtain ⟨⟨n0, n1, n2, n3, n4, n5, n6⟩, ⟨f0, f1, f2, f3, f4, f5, f6⟩, lN⟩ := hF5.bo.row7 (.tail _ (.tail _ (.head _))); have Ho5 := hid ho5; have HF5 := hid hF5; have HT5 := hid hT5; clear ho5 hF5 hT5; unfold An.val reply))
    all_goals
      have hg : w5.heap[N + 1]? = some (.cells #[.int .i64 0, .int .i64 0, .int .i64 0, .int .i64 0, .int .i64 0, .int .i64 0, .slice none 0 0] 98 (0, 0)) := (HF5.out.bo _ (.tail _ (.tail _ (.head _)))).1
      have r12 := fr_box7 [(w.heap.size, OP, 44), (N, #[.int .i64 R.1.wh, .int .i64 R.1.ep, .int .i64 R.1.mark, .int .i64 R.1.ct.kd, .int .i64 R.1.ct.cl, .int .i64 R.1.ct.ca, .slice xa R.1.ct.val.length xc], 98)] [] HF5.out HT5.out (fun x hx => by simp at hx; rcases hx with rfl | rfl <;> (dsimp only; omega)) (.int .i64 R.1.wh) (.int .i64 R.1.ep) (.int .i64 R.1.mark) (.int .i64 R.1.ct.kd) (.int .i64 R.1.ct.cl) (.int .i64 R.1.ct.ca) (.slice ya R.1.ct.val.length yc)
      have r3 := (Only.set7 (w := w5) (S := fun g => g = N + 1) (g := N + 1) rfl (.int .i64 R.1.wh) (.int .i64 R.1.ep) (.int .i64 R.1.mark) (.int .i64 R.1.ct.kd) (.int .i64 R.1.ct.cl) (.int .i64 R.1.ct.ca) (.slice ya R.1.ct.val.length yc)).owns Ho5.out fun g hg' e => own_ne_block Ho5.out hg (by decide) (by rw [hg', e])
      generalize (((((((w5.setCell ⟨N + 1, 0, none⟩ (.int .i64 R.1.wh)).setCell ⟨N + 1, 1, none⟩ (.int .i64 R.1.ep)).setCell ⟨N + 1, 2, none⟩ (.int .i64 R.1.mark)).setCell ⟨N + 1, 3, none⟩ (.int .i64 R.1.ct.kd)).setCell ⟨N + 1, 4, none⟩ (.int .i64 R.1.ct.cl)).setCell ⟨N + 1, 5, none⟩ (.int .i64 R.1.ct.ca)).setCell ⟨N + 1, 6, none⟩ (.slice ya R.1.ct.val.length yc)) = wc at r12 r3 ⊢
      have Hyo := hid r3
      have HF5 := hid r12.1
      have HT5 := hid r12.2
      clear r12 r3 hg Ho5 z2 z3 zy zl n0 n1 n2 n3 n4 n5 n6 f0 f1 f2 f3 f4 f5 f6 lN
      have hpx := (HF5.out.pd _ (.head _)).1
      obtain ⟨⟨n0, n1, n2, n3, n4, n5, n6⟩, _, lN⟩ := HF5.out.bo.row7 (.tail _ (.head _))
      obtain ⟨⟨m0, m1, m2, m3, m4, m5, m6⟩, _, lM⟩ := HF5.out.bo.row7 (.tail _ (.tail _ (.head _)))
      have HSame := hid (sameReply_any R.1.wh R.1.ep R.1.mark R.1.ct.kd R.1.ct.cl R.1.ct.ca (.slice xa R.1.ct.val.length xc) (.slice ya R.1.ct.val.length yc) R.1.ct.val wc (ownsRow_sl hpx) (ownsRow_sl Hyo.out))
      unfold reply at HSame
      clear HP2 hpx v2 v3 vy vl4 Hyo HD
      go_wp2_with fail
      refine HSame.out.mono ?_
      rintro en w6 ⟨rfl, hb6⟩
      have hF6 := HF5.out.bl hb6 1
      have HBy : Hid (∀ W, Bl w6 W → _) := fun W hW => fr_byteC (hF6.bl hW 1) ((HT5.out.bl hb6 1).bl hW 1) (by intro x hx; simp at hx; rw [hx]) (by omega) (by omega)
      obtain ⟨⟨_, _, _, _, _, _, n6⟩, _, lN⟩ := hF6.bo.row7 (.tail _ (.head _))
      have lb6 : bw < w6.heap.size := by have := hF6.size; omega
      clear HSame HF5 HT5 hb6 hF6 m0 m1 m2 m3 m4 m5 m6 lM
      go_upto_region 22 with fail
      go_cut [] from 120 to 126 (fun wx => ∃ tag', Hid (Fr w tag j bw kl vl wx tag' (nb + 1) wx.heap.size [(w.heap.size, OP, 44), (N, #[.int .i64 R.1.wh, .int .i64 R.1.ep, .int .i64 R.1.mark, .int .i64 R.1.ct.kd, .int .i64 R.1.ct.cl, .int .i64 R.1.ct.ca, .slice xa R.1.ct.val.length xc], 98), (N + 1, #[.int .i64 R.1.wh, .int .i64 R.1.ep, .int .i64 R.1.mark, .int .i64 R.1.ct.kd, .int .i64 R.1.ct.cl, .int .i64 R.1.ct.ca, .slice ya R.1.ct.val.length yc], 98)] [(.slice ia (flat rs).length ic, flat rs, 4)]) ∧ Hid (TriC wx tag' j q p y ka kb kc kd u ch rs S m rs' S' R.2 (nn + 1)))
      case first =>
        go_region_held3 (fun W => W.cell? ⟨N, 6, none⟩ = some (.slice xa R.1.ct.val.length xc)) (go_keep)
          (first | (go_at_call 36; refine (HBy.out _ ?hb).mono ?_; (case hb => first | exact (Bl.refl _).drewN _ | exact (Bl.refl _).drew | exact Bl.refl _); rintro en w8 ⟨rfl, tag8, _, hF8, hO8⟩; have n38 := (hF8.bo.row7 (.tail _ (.head _))).1.2.2.2.2.2.2; have HF8 := hid hF8; have HO8 := hid hO8; clear hF8 hO8))
        all_goals (go_wp2_with fail; go_meet)
        all_goals exact ⟨tag8, HF8.out, HO8.out⟩
      case rest =>
        obtain ⟨tag8, HF8, HT8⟩ := hcut
        have cx8 := HT8.out.orr.cells.1
        have lq8 := HT8.out.orr.cells.2.2.1
        have HI8 := hid (fr_imageK HF8.out HT8.out.kt (by have := HA.out.2.2; omega) 4 (.inr rfl))
        clear HBy n0 n1 n2 n3 n4 n5 n6 lN lb6
        go_wp2_with fail
        refine HI8.out.mono ?_
        rintro en w9 ⟨fa, fc, rfl, hb9, hF9⟩
        have hT9 := HT8.out.bl hb9 4
        obtain ⟨zs, hzs⟩ := HA.out.1.flat
        have hbe := (hF9.pd _ (.tail _ (.head _))).1
        have haf := (hF9.pd _ (.head _)).1
        have hlen : (flat rs').length = (flat rs).length + zs.length := by rw [hzs, List.length_append]
        have HG := hid (grows_any 0 0 _ _ (flat rs) zs w9 hbe (by have h' := haf; simp only at h'; rw [← hzs, ← hlen]; exact h') (by have := HA.out.2.2; omega))
        simp only at HG
        have HF9 := hid hF9
        have HT9 := hid hT9
        clear HI8 HF8 HT8 hb9 hF9 hT9 hbe haf cx8 lq8 hzs hlen
        go_wp2_with fail
        refine HG.out.mono ?_
        rintro en w10 ⟨rfl, hb10⟩
        have hF10 := HF9.out.bl hb10 1
        have hT10 := HT9.out.bl hb10 1
        have HN := hid (fr_noted hF10 (by intro x hx; simp at hx; rcases hx with rfl | rfl <;> rfl) Hcha.out hT10.orr HA.out.1 hT10.kt (by rw [HA.out.2.1]; exact hT10.dt) hm (by omega) (by have := HA.out.2.2; omega) (by omega))
        have lb10 : bw < w10.heap.size := by have := hF10.size; omega
        clear HG HF9 HT9 hb10 hF10 hT10
        go_wp2_with fail
        refine HN.out.mono ?_
        rintro en w11 ⟨rfl, tag11, _, hF11, hO11⟩
        have HF11 := hid hF11
        have HO11 := hid hO11
        clear HN hF11 hO11
        go_wp2
        go_ret
        exact ⟨rfl, ⟨tag11, rs', S', HF11.out.old, HF11.out.bt, HO11.out, by have := HA.out.1.len; omega, HA.out.2.2⟩, HF11.out.out⟩
end Go.Proofs.YtkgjpfamjedncaaGreat
