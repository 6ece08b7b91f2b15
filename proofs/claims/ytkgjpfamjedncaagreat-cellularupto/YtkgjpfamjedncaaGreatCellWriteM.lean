-- A unit of the script is called: a content is written.
import Derived.Test.YtkgjpfamjedncaaGreatCellHFrAccByte4AgainC
import Derived.Test.YtkgjpfamjedncaaGreatVotedAM
namespace Go.Proofs.YtkgjpfamjedncaaGreat
open Go.RowKit Go.Maps
attribute [local go_sem ↓] Go.wp_at_zero Go.wp_at_succ

set_option maxRecDepth 100000 in
set_option maxHeartbeats 4000000 in
theorem cellWrite_any (bw j q : Nat) (kl vl : Value) (nb m nn : Nat) (rs : List Rc) (S : Nat → St) (tag : Nat → Nat) (ka kb kc kd u ch : Int) (a b c q1 q2 q3 q4 : Int) (la : Option Addr) (ln lc : Nat) (ua : Option Addr) (un uc : Nat) (ss : List Int) (t1 t2 t3 : Int) (va : Option Addr) (vn vc : Nat) (w : World)
    (hB : Bt w tag bw kl vl nb w.heap.size) (hO : ObC w tag j q ka kb kc kd u ch rs S m nn) (hl : (flat rs).length + ss.length ≤ 29000000) (hnb : nb + 1 < 4000000) (hm : m ≤ 4000000) (hnn : nn + 1 < 4000000) (hbw : (Lit.int .i64 b).wf = true) (hcw : (Lit.int .i64 c).wf = true) (hw1 : (Lit.int .i64 t1).wf = true) (hw2 : (Lit.int .i64 t2).wf = true) (hw3 : (Lit.int .i64 t3).wf = true) (hss : Byt ss) :
    Calls Tryz.prog 14 #[.pointer (some ⟨bw, 0, none⟩), .agg (opR 5 a b c q1 q2 q3 q4 la ln lc ua un uc (strOf ss) t1 t2 t3 va vn vc), .pointer (some ⟨q, 0, none⟩)] w fun en w' => en = .returned (.bool true) ∧
      (∃ tag' rs' S', (∀ g, g < w.heap.size → tag' g = tag g) ∧ Bt w' tag' bw kl vl (nb + 2) w'.heap.size ∧ ObC w' tag' j q ka kb kc kd u ch rs' S' (m + 1) (nn + 1) ∧ rs'.length ≤ rs.length + 1 ∧ (flat rs').length ≤ (flat rs).length + 60) ∧ Only (fun g => tag g = 2 ∨ Mine j (tag g)) w w' := by
  obtain ⟨hcha, p, y, hOr, hKt, hDt⟩ := hO
  obtain ⟨cx, cy, lq, tq⟩ := hOr.cells
  have lbw := hB.lt.1
  have hF := Fr.lay1 (j := j) hB (opR 5 a b c q1 q2 q3 q4 la ln lc ua un uc (strOf ss) t1 t2 t3 va vn vc) 44
  have bB : Bl w (w.alloc (.cells (opR 5 a b c q1 q2 q3 q4 la ln lc ua un uc (strOf ss) t1 t2 t3 va vn vc) 44)) := (Bl.refl w).alloc _
  have hT : TriC _ (tagTo tag w.heap.size 3) j q p y ka kb kc kd u ch rs S m rs S (S rs.length) nn := TriC.bl (⟨hOr, hKt, hDt⟩ : TriC w tag j q p y ka kb kc kd u ch rs S m rs S (S rs.length) nn) bB 3
  have cx3 := (bB.cell lq).trans cx
  have HI := hid (fr_imageK hF hT.kt (by omega) 4 (.inr rfl))
  have HT := hid hT
  have hvals := hid (hKt.way.vals _ (Nat.le_refl _))
  have Hcha := hid hcha
  obtain ⟨d1, d2, d3, d4, d5, _⟩ := tP_ne j
  have nvr : tV j ≠ tR j := Ne.symm d4
  have nq0 : ¬ q = w.heap.size := by omega
  clear hB hOr hKt hDt hF hT bB hcha d1 d2 d3 d4 d5
  unfold opR at HI HT cx3
  unfold opR
  go_enter Tryz.func14, Tryz.ntmps14
  go_wp2_with fail
  refine HI.out.mono ?_
  rintro en w2 ⟨ia, ic, rfl, hb2, hF2⟩
  have hT2 := HT.out.bl hb2 4
  obtain ⟨OP, o0, o1, o10, p0, p1, p2, p3, o2, o3, tag2, hF2, hT2⟩ : ∃ OP : Array Value, OP[0]? = some (.int .i64 5) ∧ OP[1]? = some (.int .i64 a) ∧ OP[10]? = some (.string (strOf ss)) ∧ OP[11]? = some (.int .i64 t1) ∧ OP[12]? = some (.int .i64 t2) ∧ OP[13]? = some (.int .i64 t3) ∧ OP[14]? = some (.slice va vn vc) ∧ OP[2]? = some (.int .i64 b) ∧ OP[3]? = some (.int .i64 c) ∧ ∃ tag2, Fr w tag j bw kl vl w2 tag2 nb w.heap.size [(w.heap.size, OP, 44)] [(.slice ia (flat rs).length ic, flat rs, 4)] ∧ TriC w2 tag2 j q p y ka kb kc kd u ch rs S m rs S (S rs.length) nn := ⟨_, rfl, rfl, rfl, rfl, rfl, rfl, rfl, rfl, rfl, _, hF2, hT2⟩
  have hF3 := hF2.boxed3 blank blank #[.int .i64 t1, .int .i64 t2, .int .i64 t3, .slice va vn vc] 98 98 42
  have hb3 : Bl w2 (((w2.alloc (.cells blank 98)).alloc (.cells blank 98)).alloc (.cells #[.int .i64 t1, .int .i64 t2, .int .i64 t3, .slice va vn vc] 42)) := (((Bl.refl w2).alloc _).alloc _).alloc _
  have hT3 := hT2.bl hb3 3
  have lw2 : w.heap.size < w2.heap.size := hF2.bo.lt (.head _)
  have e11 := (hF2.bo.cell (.head _) 11).trans p0
  have e12 := (hF2.bo.cell (.head _) 12).trans p1
  have e13 := (hF2.bo.cell (.head _) 13).trans p2
  have e14 := (hF2.bo.cell (.head _) 14).trans p3
  have e0 := (hF2.bo.cell (.head _) 0).trans o0
  have lq2 := hT2.orr.cells.2.2.1
  clear HI HT cx cy cx3 hF2 hT2 hb2 hb3
  unfold blank at hF3 hT3
  have u0 := (hF3.bo.cell (.head _) 0).trans o0
  have u2 := (hF3.bo.cell (.head _) 2).trans o2
  have u3 := (hF3.bo.cell (.head _) 3).trans o3
  have u1 := (hF3.bo.cell (.head _) 1).trans o1
  have u10 := (hF3.bo.cell (.head _) 10).trans o10
  have ex := hT3.orr.cells.1
  have lq3 := hT3.orr.cells.2.2.1
  have HF3 := hid hF3
  have HT3 := hid hT3
  clear hF3 hT3
  go_upto_region 13 with fail
  generalize hW3 : ((w2.alloc (.cells #[.int .i64 0, .int .i64 0, .int .i64 0, .int .i64 0, .int .i64 0, .int .i64 0, .slice none 0 0] 98)).alloc (.cells #[.int .i64 0, .int .i64 0, .int .i64 0, .int .i64 0, .int .i64 0, .int .i64 0, .slice none 0 0] 98)).alloc (.cells #[.int .i64 t1, .int .i64 t2, .int .i64 t3, .slice va vn vc] 42) = w3 at *
  clear hW3
  generalize tagTo tag2 w2.heap.size 3 = tag3 at *
  generalize w2.heap.size = N at *
  have nN0 : ¬ N = q := by omega
  have nN1 : ¬ q = N := by omega
  have nN2 : ¬ N = w.heap.size := by omega
  have nN3 : ¬ w.heap.size = N := by omega
  have nN4 : ¬ N + 1 = q := by omega
  have nN5 : ¬ q = N + 1 := by omega
  have nN6 : ¬ N + 1 = w.heap.size := by omega
  have nN7 : ¬ w.heap.size = N + 1 := by omega
  have nN8 : ¬ N + 1 = N := by omega
  have nN9 : ¬ N = N + 1 := by omega
  simp only [List.cons_append, List.nil_append] at HF3
  clear e11 e12 e13 e14 e0 p0 p1 p2 p3
  have HL : Hid (∀ bb, _) := fun bb => lent_any ss bb w3 hss (by omega)
  have nNa : ¬ N + 1 + 1 = q := by omega
  have nNb : ¬ q = N + 1 + 1 := by omega
  have nNc : ¬ N + 1 + 1 = w.heap.size := by omega
  have nNd : ¬ w.heap.size = N + 1 + 1 := by omega
  have nNe : ¬ N + 1 + 1 = N := by omega
  have nNf : ¬ N = N + 1 + 1 := by omega
  have nNg : ¬ N + 1 + 1 = N + 1 := by omega
  have nNh : ¬ N + 1 = N + 1 + 1 := by omega
  go_wp2_with fail
  refine (HL.out _).mono ?_
  rintro en w4 ⟨r, rfl, hb4, hL4⟩
  obtain ⟨ra, rc, rfl⟩ : ∃ a c, r = .slice a ss.length c := by
    obtain ⟨a, c, e⟩ := (ownsRow_sl hL4.own).len
    exact ⟨a, c, by simpa using e⟩
  have hF4 := HF3.out.bl hb4 5
  have hT4 := HT3.out.bl hb4 5
  have hLn := Ln.new (tag := tag3) hL4 HF3.out.size
  generalize tagTo tag3 w3.heap.size 5 = tag4 at hF4 hT4 hLn
  have g3 := hF4.bo.cell (.tail _ (.tail _ (.tail _ (.head _)))) 3
  have k3 := hF4.bo.frozen (.tail _ (.tail _ (.tail _ (.head _)))) 3
  simp at g3
  have hC4 := hF4.bo _ (.tail _ (.tail _ (.tail _ (.head _))))
  have O4 : Only (fun g => g = N + 1 + 1) w4 (w4.setCell ⟨N + 1 + 1, 3, none⟩ (.slice ra ss.length rc)) := (Only.refl (fun g => g = N + 1 + 1) w4).setCell ⟨N + 1 + 1, 3, none⟩ (.inl rfl) _
  have hF5 := Fr.box (b1 := [(w.heap.size, OP, 44), (N, #[.int .i64 0, .int .i64 0, .int .i64 0, .int .i64 0, .int .i64 0, .int .i64 0, .slice none 0 0], 98), (N + 1, #[.int .i64 0, .int .i64 0, .int .i64 0, .int .i64 0, .int .i64 0, .int .i64 0, .slice none 0 0], 98)]) (b2 := []) (g := N + 1 + 1) (cs' := #[.int .i64 t1, .int .i64 t2, .int .i64 t3, .slice ra ss.length rc]) hF4 O4 (heap_setCell_same w4 (N + 1 + 1) 3 _ 42 _ hC4.1) (fun x hx => by simp at hx; rcases hx with rfl | rfl | rfl <;> (dsimp only; omega))
  have hT5 := hT4.only (tag' := tag4) O4 (fun g _ e e' => by rw [e, hC4.2] at e'; exact (mine_not j 3 e').2.2.1 rfl) (fun _ _ => rfl)
  have hL5 := hLn.only (tag' := tag4) O4 (fun g _ e => by rw [e, hC4.2]; omega) (fun _ _ => rfl)
  simp only [List.cons_append, List.nil_append] at hF5
  have HF5 := hid hF5
  have HT5 := hid hT5
  have HL5 := hid hL5
  have lN4 : N + 1 + 1 < w4.heap.size := hF4.bo.lt (.tail _ (.tail _ (.tail _ (.head _))))
  clear hF4 hT4 hLn hC4 O4 hF5 hT5 hL5 HF3 HT3 HL hb4 hL4 u0 u1 u2 u3 u10 ex lq3
  go_upto_region 14 with fail
  generalize w4.setCell ⟨N + 1 + 1, 3, none⟩ (.slice ra ss.length rc) = w5 at *
  clear g3 k3 lN4
  obtain ⟨R, hR⟩ : ∃ R, R = writeA ka kb kc kd ch (S rs.length) b c t1 t2 t3 ss := ⟨_, rfl⟩
  have hRv : R.1.ct.val.length ≤ 255 := by
    rw [hR]
    unfold writeA
    split
    · exact Nat.zero_le _
    · split
      · exact Nat.zero_le _
      · split
        · exact Nat.zero_le _
        · exact look_val hvals.out
  have HP : Hid (∀ W, Bl w5 W → _) := fun W hW => fr_k (R := R) (HF5.out.bl hW 1) (HT5.out.bl hW 1) (by rw [hR]; exact kc_write (HT5.out.bl hW 1).kt b c t1 t2 t3 ra rc ss hbw hcw hw1 hw2 hw3 (by omega) ((ownsRow_bs HL5.out.lent.own).bl hW) (fun g e => ⟨Nat.lt_of_lt_of_le (HL5.out.lent.lt g e).2 hW.lt, by rw [tagTo_old _ _ _ _ (HL5.out.lent.lt g e).2, (HL5.out.mark g e).1]; unfold tP; omega⟩) hss (by omega))
  have HLW : Hid (∀ W, Bl w5 W → Ln w W (tagTo tag4 w5.heap.size 1) (.slice ra ss.length rc) ss) := fun W hW => HL5.out.bl hW 1
  have HD : Hid (∀ (W : World) (tagW' : Nat → Nat) (nW : Nat) (va' : Option Addr) (vc' : Nat), nW ≤ 4000000 → Dt W tagW' (tR j) (tV j) y ka kb kc kd u (S rs.length) nW → Bs W (.slice va' ss.length vc') (ss.map B8) → (∀ g, (Value.slice va' ss.length vc').ownBlock = some g → tagW' g ≠ tR j) → DCall 44 #[.pointer (some ⟨y, 0, none⟩), .int .i64 b, .int .i64 c, .agg #[.int .i64 t1, .int .i64 t2, .int .i64 t3, .slice va' ss.length vc']] W tagW' (tR j) (tV j) y ka kb kc kd u nW R) := fun W tagW' nW va' vc' hnW hW hv hvb => by rw [hR]; exact dc_write hW Hcha.out hnW nvr b c t1 t2 t3 va' vc' ss hv hvb (by omega)
  clear hR
  have u2 := (HF5.out.bo.cell (.head _) 2).trans o2
  have u3 := (HF5.out.bo.cell (.head _) 3).trans o3
  have ex := HT5.out.orr.cells.1
  have lq5 := HT5.out.orr.cells.2.2.1
  have m0 := HF5.out.bo.cell (.tail _ (.tail _ (.tail _ (.head _)))) 0
  have m1 := HF5.out.bo.cell (.tail _ (.tail _ (.tail _ (.head _)))) 1
  have m2 := HF5.out.bo.cell (.tail _ (.tail _ (.tail _ (.head _)))) 2
  have m3 := HF5.out.bo.cell (.tail _ (.tail _ (.tail _ (.head _)))) 3
  simp at m0 m1 m2 m3
  clear HF5 HT5 HL5
  go_cut [] from 68 to 77 (fun wx => ∃ xa xc rs' S' tag', Hid (MoreK rs S rs' S' ∧ S' rs'.length = R.2 ∧ (flat rs').length ≤ (flat rs).length + 60) ∧ Hid (Fr w tag j bw kl vl wx tag' nb w.heap.size [(w.heap.size, OP, 44), (N, #[.int .i64 R.1.wh, .int .i64 R.1.ep, .int .i64 R.1.mark, .int .i64 R.1.ct.kd, .int .i64 R.1.ct.cl, .int .i64 R.1.ct.ca, .slice xa R.1.ct.val.length xc], 98), (N + 1, #[.int .i64 0, .int .i64 0, .int .i64 0, .int .i64 0, .int .i64 0, .int .i64 0, .slice none 0 0], 98), (N + 1 + 1, #[.int .i64 t1, .int .i64 t2, .int .i64 t3, .slice ra ss.length rc], 42)] [(.slice xa R.1.ct.val.length xc, R.1.ct.val, 1), (.slice ia (flat rs).length ic, flat rs, 4)]) ∧ Hid (TriC wx tag' j q p y ka kb kc kd u ch rs S m rs' S' (S rs.length) nn) ∧ Hid (Ln w wx tag' (.slice ra ss.length rc) ss))
  case first =>
    go_region_held3 (fun W => W.cell? ⟨q, 0, none⟩ = some (.pointer (some ⟨p, 0, none⟩)) ∧ W.cell? ⟨w.heap.size, 2, none⟩ = some (.int .i64 b) ∧ W.cell? ⟨w.heap.size, 3, none⟩ = some (.int .i64 c) ∧ W.cell? ⟨N + 1 + 1, 0, none⟩ = some (.int .i64 t1) ∧ W.cell? ⟨N + 1 + 1, 1, none⟩ = some (.int .i64 t2) ∧ W.cell? ⟨N + 1 + 1, 2, none⟩ = some (.int .i64 t3) ∧ W.cell? ⟨N + 1 + 1, 3, none⟩ = some (.slice ra ss.length rc)) (go_keep)
      (first | (go_at_call 43; refine (HP.out _ ?hb).mono ?_; (case hb => first | exact (Bl.refl _).drewN _ | exact (Bl.refl _).drew | exact Bl.refl _); rintro en w6 ⟨xa, xc, rs', S', tag', rfl, hM, hE, hsz, ht6, O6, hF6, hT6⟩; have hL6 := (HLW.out _ (by first | exact (Bl.refl _).drewN _ | exact (Bl.refl _).drew | exact Bl.refl _)).only O6 (fun g _ e => by rw [e]; unfold tP; omega) ht6; have v2 := (hF6.bo.cell (.head _) 2).trans o2; have v3 := (hF6.bo.cell (.head _) 3).trans o3; have vx := hT6.orr.cells.1; have vl6 := hT6.orr.cells.2.2.1; have s0 := hF6.bo.cell (.tail _ (.tail _ (.tail _ (.head _)))) 0; have s1 := hF6.bo.cell (.tail _ (.tail _ (.tail _ (.head _)))) 1; have s2 := hF6.bo.cell (.tail _ (.tail _ (.tail _ (.head _)))) 2; have s3 := hF6.bo.cell (.tail _ (.tail _ (.tail _ (.head _)))) 3; simp at s0 s1 s2 s3; obtain ⟨⟨n0, n1, n2, n3, n4, n5, n6⟩, ⟨f0, f1, f2, f3, f4, f5, f6⟩, lN⟩ := hF6.bo.row7 (.tail _ (.head _)); have HA := hid (And.intro hM (And.intro hE hsz)); have HF6 := hid hF6; have HT6 := hid hT6; have HL6 := hid hL6; clear hM hE hsz hF6 hT6 hL6 O6 ht6; unfold An.val reply))
    all_goals (go_wp2_with fail; go_meet)
    all_goals
      obtain ⟨r1, r2⟩ := fr_box7 [(w.heap.size, OP, 44)] [(N + 1, #[.int .i64 0, .int .i64 0, .int .i64 0, .int .i64 0, .int .i64 0, .int .i64 0, .slice none 0 0], 98), (N + 1 + 1, #[.int .i64 t1, .int .i64 t2, .int .i64 t3, .slice ra ss.length rc], 42)] HF6.out HT6.out (fun x hx => by simp at hx; rcases hx with rfl | rfl | rfl <;> (dsimp only; omega)) (.int .i64 R.1.wh) (.int .i64 R.1.ep) (.int .i64 R.1.mark) (.int .i64 R.1.ct.kd) (.int .i64 R.1.ct.cl) (.int .i64 R.1.ct.ca) (.slice xa R.1.ct.val.length xc)
      have r3 := HL6.out.only (tag' := tag') (Only.set7 (w := w6) (S := fun g => g = N) (g := N) rfl (.int .i64 R.1.wh) (.int .i64 R.1.ep) (.int .i64 R.1.mark) (.int .i64 R.1.ct.kd) (.int .i64 R.1.ct.cl) (.int .i64 R.1.ct.ca) (.slice xa R.1.ct.val.length xc)) (fun g _ e => by rw [e, (HF6.out.bo _ (.tail _ (.head _))).2]; omega) (fun _ _ => rfl)
      exact ⟨xa, xc, rs', S', tag', HA.out, r1, r2, r3⟩
  case rest =>
    obtain ⟨xa, xc, rs', S', tag6, HA, HF6, HT6, HL6⟩ := hcut
    have HBk := hid (back_any 0 (.slice ra ss.length rc) ss wc HL6.out.lent (by omega))
    have z10 := (HF6.out.bo.cell (.head _) 10).trans o10
    have s3 := HF6.out.bo.cell (.tail _ (.tail _ (.tail _ (.head _)))) 3
    simp at s3
    clear HP HLW u2 u3 ex lq5 m0 m1 m2 m3
    go_wp2_with fail
    refine HBk.out.mono ?_
    rintro en w7 ⟨rfl, O7⟩
    have hF7 := HF6.out.five O7 (fun g _ e => HL6.out.mark g e)
    have hT7 := HT6.out.only (tag' := tag6) O7 (fun g _ e => by rw [(HL6.out.mark g e).1]; exact (mine_five j).1) (fun _ _ => rfl)
    have kcv : ∀ W, (convert 9 40 (.string (strOf ss))).run Tryz.prog W = _ := fun W => run_bytes_of_string (P := Tryz.prog) W 9 40 5 (strOf ss) Tryz.underlying9 Tryz.underlying40 Tryz.underlying5
    simp only [strOf_size] at kcv
    have z10 := (hF7.bo.cell (.head _) 10).trans o10
    have c3 := hF7.bo.cell (.tail _ (.tail _ (.tail _ (.head _)))) 3
    have e3 := hF7.bo.frozen (.tail _ (.tail _ (.tail _ (.head _)))) 3
    simp at c3
    have lC := hF7.bo.lt (.tail _ (.tail _ (.tail _ (.head _))))
    have lO := hF7.bo.lt (.head _)
    have HF7 := hid hF7
    have HT7 := hid hT7
    clear HBk HF6 HT6 HL6 O7 hF7 hT7 s3
    have hA8 : ∃ wA tagA cap, wA = w7.setCell ⟨N + 1 + 1, 3, none⟩ (.slice (some ⟨w7.heap.size, 0, none⟩) ss.length cap) ∧ cap = grownCap w7 ss.length 0 5 ∧ tagA = tag6 ∧ Fr w tag j bw kl vl wA tagA nb w.heap.size [(w.heap.size, OP, 44), (N, #[.int .i64 R.1.wh, .int .i64 R.1.ep, .int .i64 R.1.mark, .int .i64 R.1.ct.kd, .int .i64 R.1.ct.cl, .int .i64 R.1.ct.ca, .slice xa R.1.ct.val.length xc], 98), (N + 1, #[.int .i64 0, .int .i64 0, .int .i64 0, .int .i64 0, .int .i64 0, .int .i64 0, .slice none 0 0], 98), (N + 1 + 1, #[.int .i64 t1, .int .i64 t2, .int .i64 t3, .slice (some ⟨w7.heap.size, 0, none⟩) ss.length cap], 42)] [(.slice xa R.1.ct.val.length xc, R.1.ct.val, 1), (.slice ia (flat rs).length ic, flat rs, 4)] ∧ TriC wA tagA j q p y ka kb kc kd u ch rs S m rs' S' (S rs.length) nn := by
      have hC7 := HF7.out.bo _ (.tail _ (.tail _ (.tail _ (.head _))))
      have O8 : Only (fun g => g = N + 1 + 1) w7 (w7.setCell ⟨N + 1 + 1, 3, none⟩ (.slice (some ⟨w7.heap.size, 0, none⟩) ss.length (grownCap w7 ss.length 0 5))) := (Only.refl (fun g => g = N + 1 + 1) w7).setCell ⟨N + 1 + 1, 3, none⟩ (.inl rfl) _
      have hF8 := Fr.box (b1 := [(w.heap.size, OP, 44), (N, #[.int .i64 R.1.wh, .int .i64 R.1.ep, .int .i64 R.1.mark, .int .i64 R.1.ct.kd, .int .i64 R.1.ct.cl, .int .i64 R.1.ct.ca, .slice xa R.1.ct.val.length xc], 98), (N + 1, #[.int .i64 0, .int .i64 0, .int .i64 0, .int .i64 0, .int .i64 0, .int .i64 0, .slice none 0 0], 98)]) (b2 := []) (g := N + 1 + 1) (cs' := #[.int .i64 t1, .int .i64 t2, .int .i64 t3, .slice (some ⟨w7.heap.size, 0, none⟩) ss.length (grownCap w7 ss.length 0 5)]) HF7.out O8 (heap_setCell_same w7 (N + 1 + 1) 3 _ 42 _ hC7.1) (fun x hx => by simp at hx; rcases hx with rfl | rfl | rfl <;> (dsimp only; omega))
      exact ⟨_, tag6, _, rfl, rfl, rfl, hF8, HT7.out.only (tag' := tag6) O8 (fun g _ e e' => by rw [e, hC7.2] at e'; exact (mine_not j 3 e').2.2.1 rfl) (fun _ _ => rfl)⟩
    obtain ⟨wA, tagA, cap, hwA, hcap, _, hFA, hTA⟩ := hA8
    have hsA : wA.heap.size = w7.heap.size := by rw [hwA]; simp [World.setCell]
    have hN8 := heap_alloc_new wA (.cells (bytesRow (strOf ss) cap) 5 ((bytesRow (strOf ss) cap).size, (bytesRow (strOf ss) cap).size + 1))
    have hb8 : Bl wA (wA.alloc (.cells (bytesRow (strOf ss) cap) 5 ((bytesRow (strOf ss) cap).size, (bytesRow (strOf ss) cap).size + 1))).drew := ((Bl.refl wA).alloc _).drew
    have hF8 := hFA.bl hb8 1
    have hT8 := hTA.bl hb8 1
    have hBs : Bs (wA.alloc (.cells (bytesRow (strOf ss) cap) 5 ((bytesRow (strOf ss) cap).size, (bytesRow (strOf ss) cap).size + 1))).drew (.slice (some ⟨wA.heap.size, 0, none⟩) ss.length cap) (ss.map B8) := bs_row hss hN8
    have hT8t : tagTo tagA wA.heap.size 1 w7.heap.size = 1 := tagTo_new _ _ _ _ (by rw [hsA]; exact Nat.le_refl _)
    have hl8 : wA.heap.size < (wA.alloc (.cells (bytesRow (strOf ss) cap) 5 ((bytesRow (strOf ss) cap).size, (bytesRow (strOf ss) cap).size + 1))).drew.heap.size := by simp
    rw [hsA] at hBs hl8
    have HF8 := hid hF8
    have HT8 := hid hT8
    have HBs := hid hBs
    clear hF8 hT8 hBs hb8 hN8 hFA hTA HF7 HT7
    go_upto_region 17 with fail
    rw [← hcap, ← hwA]
    generalize (wA.alloc (.cells (bytesRow (strOf ss) cap) 5 ((bytesRow (strOf ss) cap).size, (bytesRow (strOf ss) cap).size + 1))).drew = w8 at *
    generalize tagTo tagA wA.heap.size 1 = tag8 at *
    have HP2 : Hid (∀ W, Bl w8 W → _) := fun W hW => fr_d (HF8.out.bl hW 1) (HT8.out.bl hW 1) (HD.out W (tagTo tag8 w8.heap.size 1) nn (some ⟨w7.heap.size, 0, none⟩) cap (by omega) (HT8.out.bl hW 1).dt (HBs.out.bl hW) (fun g e => by
      simp [Value.ownBlock] at e
      subst e
      rw [tagTo_old _ _ _ _ hl8, hT8t]; unfold tR; omega))
    have v2 := (HF8.out.bo.cell (.head _) 2).trans o2
    have v3 := (HF8.out.bo.cell (.head _) 3).trans o3
    have vy := HT8.out.orr.cells.2.1
    have vl4 := HT8.out.orr.cells.2.2.1
    have m0 := HF8.out.bo.cell (.tail _ (.tail _ (.tail _ (.head _)))) 0
    have m1 := HF8.out.bo.cell (.tail _ (.tail _ (.tail _ (.head _)))) 1
    have m2 := HF8.out.bo.cell (.tail _ (.tail _ (.tail _ (.head _)))) 2
    have m3 := HF8.out.bo.cell (.tail _ (.tail _ (.tail _ (.head _)))) 3
    simp at m0 m1 m2 m3
    clear HF8 HT8 HBs kcv z10 c3 e3 lC lO hwA hcap hsA
    go_region_held3 (fun W => W.cell? ⟨q, 1, none⟩ = some (.pointer (some ⟨y, 0, none⟩)) ∧ W.cell? ⟨w.heap.size, 2, none⟩ = some (.int .i64 b) ∧ W.cell? ⟨w.heap.size, 3, none⟩ = some (.int .i64 c) ∧ W.cell? ⟨N + 1 + 1, 0, none⟩ = some (.int .i64 t1) ∧ W.cell? ⟨N + 1 + 1, 1, none⟩ = some (.int .i64 t2) ∧ W.cell? ⟨N + 1 + 1, 2, none⟩ = some (.int .i64 t3) ∧ W.cell? ⟨N + 1 + 1, 3, none⟩ = some (.slice (some ⟨w7.heap.size, 0, none⟩) ss.length cap)) (go_keep)
      (first | (go_at_call 44; refine (HP2.out _ ?hb).mono ?_; (case hb => first | exact (Bl.refl _).drewN _ | exact (Bl.refl _).drew | exact Bl.refl _); rintro en w5 ⟨ya, yc, tag', rfl, ho5, _, hF5, hT5⟩; have z2 := (hF5.bo.cell (.head _) 2).trans o2; have z3 := (hF5.bo.cell (.head _) 3).trans o3; have zy := hT5.orr.cells.2.1; have zl := hT5.orr.cells.2.2.1; have s0 := hF5.bo.cell (.tail _ (.tail _ (.tail _ (.head _)))) 0; have s1 := hF5.bo.cell (.tail _ (.tail _ (.tail _ (.head _)))) 1; have s2 := hF5.bo.cell (.tail _ (.tail _ (.tail _ (.head _)))) 2; have s3 := hF5.bo.cell (.tail _ (.tail _ (.tail _ (.head _)))) 3; simp at s0 s1 s2 s3; obtain ⟨⟨n0, n1, n2, n3, n4, n5, n6⟩, ⟨f0, f1, f2, f3, f4, f5, f6⟩, lN⟩ := hF5.bo.row7 (.tail _ (.tail _ (.head _))); have Ho5 := hid ho5; have HF5 := hid hF5; have HT5 := hid hT5; clear ho5 hF5 hT5; unfold An.val reply))
    all_goals
      have hg : w5.heap[N + 1]? = some (.cells #[.int .i64 0, .int .i64 0, .int .i64 0, .int .i64 0, .int .i64 0, .int .i64 0, .slice none 0 0] 98 (0, 0)) := (HF5.out.bo _ (.tail _ (.tail _ (.head _)))).1
      have r12 := fr_box7 [(w.heap.size, OP, 44), (N, #[.int .i64 R.1.wh, .int .i64 R.1.ep, .int .i64 R.1.mark, .int .i64 R.1.ct.kd, .int .i64 R.1.ct.cl, .int .i64 R.1.ct.ca, .slice xa R.1.ct.val.length xc], 98)] [(N + 1 + 1, #[.int .i64 t1, .int .i64 t2, .int .i64 t3, .slice (some ⟨w7.heap.size, 0, none⟩) ss.length cap], 42)] HF5.out HT5.out (fun x hx => by simp at hx; rcases hx with rfl | rfl | rfl <;> (dsimp only; omega)) (.int .i64 R.1.wh) (.int .i64 R.1.ep) (.int .i64 R.1.mark) (.int .i64 R.1.ct.kd) (.int .i64 R.1.ct.cl) (.int .i64 R.1.ct.ca) (.slice ya R.1.ct.val.length yc)
      have r3 := (Only.set7 (w := w5) (S := fun g => g = N + 1) (g := N + 1) rfl (.int .i64 R.1.wh) (.int .i64 R.1.ep) (.int .i64 R.1.mark) (.int .i64 R.1.ct.kd) (.int .i64 R.1.ct.cl) (.int .i64 R.1.ct.ca) (.slice ya R.1.ct.val.length yc)).owns Ho5.out fun g hg' e => own_ne_block Ho5.out hg (by decide) (by rw [hg', e])
      generalize (((((((w5.setCell ⟨N + 1, 0, none⟩ (.int .i64 R.1.wh)).setCell ⟨N + 1, 1, none⟩ (.int .i64 R.1.ep)).setCell ⟨N + 1, 2, none⟩ (.int .i64 R.1.mark)).setCell ⟨N + 1, 3, none⟩ (.int .i64 R.1.ct.kd)).setCell ⟨N + 1, 4, none⟩ (.int .i64 R.1.ct.cl)).setCell ⟨N + 1, 5, none⟩ (.int .i64 R.1.ct.ca)).setCell ⟨N + 1, 6, none⟩ (.slice ya R.1.ct.val.length yc)) = wc at r12 r3 ⊢
      have Hyo := hid r3
      have HF5 := hid r12.1
      have HT5 := hid r12.2
      clear r12 r3 hg Ho5 s0 s1 s2 s3 m0 m1 m2 m3 z2 z3 zy zl n0 n1 n2 n3 n4 n5 n6 f0 f1 f2 f3 f4 f5 f6 lN
      have hpx := (HF5.out.pd _ (.head _)).1
      obtain ⟨⟨n0, n1, n2, n3, n4, n5, n6⟩, _, lN⟩ := HF5.out.bo.row7 (.tail _ (.head _))
      obtain ⟨⟨m0, m1, m2, m3, m4, m5, m6⟩, _, lM⟩ := HF5.out.bo.row7 (.tail _ (.tail _ (.head _)))
      have HSame := hid (sameReply_any R.1.wh R.1.ep R.1.mark R.1.ct.kd R.1.ct.cl R.1.ct.ca (.slice xa R.1.ct.val.length xc) (.slice ya R.1.ct.val.length yc) R.1.ct.val wc (ownsRow_sl hpx) (ownsRow_sl Hyo.out))
      unfold reply at HSame
      clear HP2 hpx v2 v3 vy vl4 Hyo HD
      go_wp2_with fail
      refine HSame.out.mono ?_
      rintro en w6 ⟨rfl, hb6⟩
      have hF6 := HF5.out.bl hb6 1
      have HBy : Hid (∀ W, Bl w6 W → _) := fun W hW => fr_byteC (hF6.bl hW 1) ((HT5.out.bl hb6 1).bl hW 1) (by intro x hx; simp at hx; rw [hx]) (by omega) (by omega)
      obtain ⟨⟨_, _, _, _, _, _, n6⟩, _, lN⟩ := hF6.bo.row7 (.tail _ (.head _))
      have lb6 : bw < w6.heap.size := by have := hF6.size; omega
      clear HSame HF5 HT5 hb6 hF6 m0 m1 m2 m3 m4 m5 m6 lM
      go_upto_region 22 with fail
      go_cut [] from 120 to 126 (fun wx => ∃ tag', Hid (Fr w tag j bw kl vl wx tag' (nb + 1) wx.heap.size [(w.heap.size, OP, 44), (N, #[.int .i64 R.1.wh, .int .i64 R.1.ep, .int .i64 R.1.mark, .int .i64 R.1.ct.kd, .int .i64 R.1.ct.cl, .int .i64 R.1.ct.ca, .slice xa R.1.ct.val.length xc], 98), (N + 1, #[.int .i64 R.1.wh, .int .i64 R.1.ep, .int .i64 R.1.mark, .int .i64 R.1.ct.kd, .int .i64 R.1.ct.cl, .int .i64 R.1.ct.ca, .slice ya R.1.ct.val.length yc], 98), (N + 1 + 1, #[.int .i64 t1, .int .i64 t2, .int .i64 t3, .slice (some ⟨w7.heap.size, 0, none⟩) ss.length cap], 42)] [(.slice ia (flat rs).length ic, flat rs, 4)]) ∧ Hid (TriC wx tag' j q p y ka kb kc kd u ch rs S m rs' S' R.2 (nn + 1)))
      case first =>
        go_region_held3 (fun W => W.cell? ⟨N, 6, none⟩ = some (.slice xa R.1.ct.val.length xc)) (go_keep)
          (first | (go_at_call 36; refine (HBy.out _ ?hb).mono ?_; (case hb => first | exact (Bl.refl _).drewN _ | exact (Bl.refl _).drew | exact Bl.refl _); rintro en w8 ⟨rfl, tag8, _, hF8, hO8⟩; have n38 := (hF8.bo.row7 (.tail _ (.head _))).1.2.2.2.2.2.2; have HF8 := hid hF8; have HO8 := hid hO8; clear hF8 hO8))
        all_goals (go_wp2_with fail; go_meet)
        all_goals exact ⟨tag8, HF8.out, HO8.out⟩
      case rest =>
        obtain ⟨tag8, HF8, HT8⟩ := hcut
        have cx8 := HT8.out.orr.cells.1
        have lq8 := HT8.out.orr.cells.2.2.1
        have HI8 := hid (fr_imageK HF8.out HT8.out.kt (by have := HA.out.2.2; omega) 4 (.inr rfl))
        clear HBy n0 n1 n2 n3 n4 n5 n6 lN lb6
        go_wp2_with fail
        refine HI8.out.mono ?_
        rintro en w9 ⟨fa, fc, rfl, hb9, hF9⟩
        have hT9 := HT8.out.bl hb9 4
        obtain ⟨zs, hzs⟩ := HA.out.1.flat
        have hbe := (hF9.pd _ (.tail _ (.head _))).1
        have haf := (hF9.pd _ (.head _)).1
        have hlen : (flat rs').length = (flat rs).length + zs.length := by rw [hzs, List.length_append]
        have HG := hid (grows_any 0 0 _ _ (flat rs) zs w9 hbe (by have h' := haf; simp only at h'; rw [← hzs, ← hlen]; exact h') (by have := HA.out.2.2; omega))
        simp only at HG
        have HF9 := hid hF9
        have HT9 := hid hT9
        clear HI8 HF8 HT8 hb9 hF9 hT9 hbe haf cx8 lq8 hzs hlen
        go_wp2_with fail
        refine HG.out.mono ?_
        rintro en w10 ⟨rfl, hb10⟩
        have hF10 := HF9.out.bl hb10 1
        have hT10 := HT9.out.bl hb10 1
        have HN := hid (fr_noted hF10 (by intro x hx; simp at hx; rcases hx with rfl | rfl <;> rfl) Hcha.out hT10.orr HA.out.1 hT10.kt (by rw [HA.out.2.1]; exact hT10.dt) hm (by omega) (by have := HA.out.2.2; omega) (by omega))
        have lb10 : bw < w10.heap.size := by have := hF10.size; omega
        clear HG HF9 HT9 hb10 hF10 hT10
        go_wp2_with fail
        refine HN.out.mono ?_
        rintro en w11 ⟨rfl, tag11, _, hF11, hO11⟩
        have HF11 := hid hF11
        have HO11 := hid hO11
        clear HN hF11 hO11
        go_wp2
        go_ret
        exact ⟨rfl, ⟨tag11, rs', S', HF11.out.old, HF11.out.bt, HO11.out, by have := HA.out.1.len; omega, HA.out.2.2⟩, HF11.out.out⟩
end Go.Proofs.YtkgjpfamjedncaaGreat
