-- A unit is made, and stands in the list.
import Derived.Test.YtkgjpfamjedncaaGreatNewKNoNewKFirst
namespace Go.Proofs.YtkgjpfamjedncaaGreat
open Go.RowKit Go.Maps
attribute [local go_sem ↓] Go.wp_at_zero Go.wp_at_succ
theorem Tryz.info46 : (Tryz.prog.info? 46).map (fun i => (i.zero, i.size, i.bytes)) = some (some (.pointer none), 1, 8) := by kernel_rfl

theorem lent_nil {B0 : Nat} {w : World} {r : Value} (h : LentB B0 w r []) : ∃ ra rc, r = .slice ra 0 rc ∧ w.ownsRow 0 5 1 (.slice ra 0 rc) 0 [] := by
  obtain ⟨a, c, e⟩ := (ownsRow_sl h.own).len
  have e' : r = .slice a 0 c := by simpa using e
  subst e'
  exact ⟨a, c, rfl, by simpa using ownsRow_base h.own fun _ _ => Nat.zero_le _⟩

set_option maxRecDepth 100000 in
set_option maxHeartbeats 4000000 in
theorem freeCells_any (bw j nk : Nat) (kl vl : Value) (nb : Nat) (us : List Value) (tag : Nat → Nat) (u b c q1 q2 q3 q4 ch : Int) (la : Option Addr) (ln lc : Nat) (ua : Option Addr) (un uc : Nat) (s : ByteArray) (t1 t2 t3 : Int) (va : Option Addr) (vn vc : Nat) (w : World)
    (hB : Bt w tag bw kl vl nb w.heap.size) (hu : w.ownsRow 0 46 1 kl nk us) (ht : ∀ b, kl.ownBlock = some b → tag b = 6) (hnk : nk < 4000000) (hnb : nb < 4000000)
    (hcha : cha q1 q2 q3 q4 u = (ch, 0)) (hun : (fit q1 q2 q3 q4 && decide (0 ≤ u) && decide (u < q1 * q2)) = true) :
    Calls Tryz.prog 10 #[.pointer (some ⟨bw, 0, none⟩), .agg (opR 3 u b c q1 q2 q3 q4 la ln lc ua un uc s t1 t2 t3 va vn vc)] w fun en w' => en = .returned (.bool true) ∧
      (∃ kl' q tag', (∀ b, b < w.heap.size → tag' b = tag b) ∧ Bt w' tag' bw kl' vl (nb + 1) w'.heap.size ∧ w'.ownsRow 0 46 1 kl' (nk + 1) (us ++ [.pointer (some ⟨q, 0, none⟩)]) ∧ (∀ b, kl'.ownBlock = some b → tag' b = 6) ∧ ObC w' tag' j q q1 q2 q3 q4 u ch [] SK0 1 0) ∧ Only (fun b => tag b = 2 ∨ tag b = 6 ∨ Mine j (tag b)) w w' := by
  obtain ⟨W1, hW1⟩ : ∃ W1, w.alloc (.cells #[.int .i64 3, .int .i64 u, .int .i64 b, .int .i64 c, .int .i64 q1, .int .i64 q2, .int .i64 q3, .int .i64 q4, .slice la ln lc, .slice ua un uc, .string s, .int .i64 t1, .int .i64 t2, .int .i64 t3, .slice va vn vc] 44) = W1 := ⟨_, rfl⟩
  have bA : Bl w W1 := by rw [← hW1]; exact (Bl.refl w).alloc _
  have g0 : W1.cell? ⟨w.heap.size, 0, none⟩ = some (.int .i64 3) := by rw [← hW1]; exact cell_of_row _ w.heap.size 0 _ 44 (0, 0) (heap_alloc_new w _)
  have g1 : W1.cell? ⟨w.heap.size, 1, none⟩ = some (.int .i64 u) := by rw [← hW1]; exact cell_of_row _ w.heap.size 1 _ 44 (0, 0) (heap_alloc_new w _)
  have g2 : W1.cell? ⟨w.heap.size, 2, none⟩ = some (.int .i64 b) := by rw [← hW1]; exact cell_of_row _ w.heap.size 2 _ 44 (0, 0) (heap_alloc_new w _)
  have g4 : W1.cell? ⟨w.heap.size, 4, none⟩ = some (.int .i64 q1) := by rw [← hW1]; exact cell_of_row _ w.heap.size 4 _ 44 (0, 0) (heap_alloc_new w _)
  have g5 : W1.cell? ⟨w.heap.size, 5, none⟩ = some (.int .i64 q2) := by rw [← hW1]; exact cell_of_row _ w.heap.size 5 _ 44 (0, 0) (heap_alloc_new w _)
  have g6 : W1.cell? ⟨w.heap.size, 6, none⟩ = some (.int .i64 q3) := by rw [← hW1]; exact cell_of_row _ w.heap.size 6 _ 44 (0, 0) (heap_alloc_new w _)
  have g7 : W1.cell? ⟨w.heap.size, 7, none⟩ = some (.int .i64 q4) := by rw [← hW1]; exact cell_of_row _ w.heap.size 7 _ 44 (0, 0) (heap_alloc_new w _)
  have lg : w.heap.size < W1.heap.size := by rw [← hW1]; simp
  have HL : Hid (∀ W bb, Bl W1 W → Calls Tryz.prog 30 #[.string { data := #[] }, .bool bb] W fun e w' => ∃ r, e = .returned r ∧ Bl W w' ∧ LentB W.heap.size w' r []) := fun W bb _ => lent_any [] bb W (by intro d hd; simp at hd) (by simp)
  have HbA := hid bA
  have HO : Hid (∀ w2 ra rc, w2.ownsRow 0 5 1 (.slice ra 0 rc) 0 [] → ∀ W, Bl w2 W → _) := fun w2 ra rc hr W hW => kt_open (way_nil q1 q2 q3 q4 ch) u hcha ra 0 rc (by simp [flat]) (cut_own ((Only.of_bl (S := fun _ => False) hW).owns hr fun _ _ e => e)) tag (tP j)
  have HU : Hid (∀ W, Calls Tryz.prog 31 #[.agg #[.int .i64 q1, .int .i64 q2, .int .i64 q3, .int .i64 q4], .int .i64 u] W fun e w' => e = .returned (.bool true) ∧ Bl W w') := fun W => by
    have := isUnit_any q1 q2 q3 q4 u W
    rwa [hun] at this
  have HB := hid hB
  have Hu := hid hu
  have Ht := hid ht
  have Hcha := hid hcha
  have HW := hid hW1
  clear bA hcha hun hB hu ht hW1
  unfold opR
  go_enter Tryz.func10, Tryz.ntmps10
  go_upto_region 17 with fail
  rw [HW.out]
  clear HW
  go_cut [20, 21] from 118 to 130 (fun x e wx => ∃ p tag2, x = .pointer (some ⟨p, 0, none⟩) ∧ e = .int .i64 0 ∧ Hid (Bl W1 wx) ∧ Hid (∀ g, g < W1.heap.size → tag2 g = tag g) ∧ Hid (Kt wx tag2 (tP j) p q1 q2 q3 q4 ch [] SK0))
  case first =>
    go_region_held3 (fun W => W.cell? ⟨w.heap.size, 1, none⟩ = some (.int .i64 u) ∧ W.cell? ⟨w.heap.size, 2, none⟩ = some (.int .i64 b) ∧ W.cell? ⟨w.heap.size, 4, none⟩ = some (.int .i64 q1) ∧ W.cell? ⟨w.heap.size, 5, none⟩ = some (.int .i64 q2) ∧ W.cell? ⟨w.heap.size, 6, none⟩ = some (.int .i64 q3) ∧ W.cell? ⟨w.heap.size, 7, none⟩ = some (.int .i64 q4)) (go_keep)
      (first | (go_at_call 30; refine (HL.out _ _ ?hb).mono ?_; (case hb => first | exact (Bl.refl _).drewN _ | exact (Bl.refl _).drew | exact Bl.refl _); rintro en w2 ⟨r, rfl, hb2, hL2⟩; have hB2 : Bl W1 w2 := Bl.trans (by first | exact (Bl.refl _).drewN _ | exact (Bl.refl _).drew | exact Bl.refl _) hb2; obtain ⟨ra, rc, rfl, hr⟩ := lent_nil hL2; have i1 := (hB2.cell lg).trans g1; have i2 := (hB2.cell lg).trans g2; have i4 := (hB2.cell lg).trans g4; have i5 := (hB2.cell lg).trans g5; have i6 := (hB2.cell lg).trans g6; have i7 := (hB2.cell lg).trans g7; have HR := hid hr; have HB2 := hid hB2; clear hb2 hL2 hB2 hr) | (go_at_call 29; refine (HO.out _ _ _ HR.out _ ?hb).mono ?_; (case hb => first | exact (Bl.refl _).drewN _ | exact (Bl.refl _).drew | exact Bl.refl _); rintro en w3 ⟨k, p, rfl, hk1, hk2, hk3, hp, hb3, hv3⟩; have hB3 : Bl W1 w3 := Bl.trans HB2.out (Bl.trans (by first | exact (Bl.refl _).drewN _ | exact (Bl.refl _).drew | exact Bl.refl _) hb3); have j1 := (hB3.cell lg).trans g1; have j2 := (hB3.cell lg).trans g2; have j4 := (hB3.cell lg).trans g4; have j5 := (hB3.cell lg).trans g5; have j6 := (hB3.cell lg).trans g6; have j7 := (hB3.cell lg).trans g7; have HV3 := hid hv3; have HB3 := hid hB3; clear hb3 hB3 hk1 hk2 hk3 hp hv3))
    all_goals (go_wp2_with fail; go_meet)
    all_goals
      have hv3 := HV3.out
      rw [List.take_nil] at hv3
      exact ⟨p, _, rfl, rfl, HB3.out, fun g hg => tagTo_old _ _ _ _ (Nat.lt_of_lt_of_le hg (by first | exact HB2.out.lt | exact ((HB2.out).drewN _).lt)), hv3⟩
  case rest =>
    obtain ⟨p, tag2, rfl, rfl, HB3, Ho2, HK3⟩ := hcut
    have k1 := (HB3.out.cell lg).trans g1
    have k2 := (HB3.out.cell lg).trans g2
    have k4 := (HB3.out.cell lg).trans g4
    have k5 := (HB3.out.cell lg).trans g5
    have k6 := (HB3.out.cell lg).trans g6
    have k7 := (HB3.out.cell lg).trans g7
    clear HL HO
    go_wp2_with fail
    refine (HU.out _).mono ?_
    rintro en w4 ⟨rfl, hb4⟩
    have hB14 := HB3.out.trans hb4
    have l1 := (hB14.cell lg).trans g1
    have l2 := (hB14.cell lg).trans g2
    have l4 := (hB14.cell lg).trans g4
    have l5 := (hB14.cell lg).trans g5
    have l6 := (hB14.cell lg).trans g6
    have l7 := (hB14.cell lg).trans g7
    have hK4 := HK3.out.only (tag' := tag2) (Only.of_bl (S := fun _ => False) hb4) (fun _ _ e => e.elim) (fun _ _ => rfl)
    have HB14 := hid hB14
    have HK4 := hid hK4
    clear HU hb4 hB14 hK4 HB3 HK3
    go_upto_region 24 with fail
    obtain ⟨W5, hW5⟩ : ∃ W5, (w4.alloc (.cells #[.int .i64 q1, .int .i64 q2, .int .i64 q3, .int .i64 q4, .int .i64 u, .int .i64 0, .int .i64 0, .slice none 0 0] 77)).alloc (.cells #[.pointer (some ⟨p, 0, none⟩), .pointer (some ⟨w4.heap.size, 0, none⟩), .slice none 0 0, .slice none 0 0] 80) = W5 := ⟨_, rfl⟩
    have hY5 : W5.heap[w4.heap.size]? = some (.cells #[.int .i64 q1, .int .i64 q2, .int .i64 q3, .int .i64 q4, .int .i64 u, .int .i64 0, .int .i64 0, .slice none 0 0] 77 (0, 0)) := by rw [← hW5]; exact heap_first w4 _ _
    have hQ5 : W5.heap[w4.heap.size + 1]? = some (.cells #[.pointer (some ⟨p, 0, none⟩), .pointer (some ⟨w4.heap.size, 0, none⟩), .slice none 0 0, .slice none 0 0] 80 (0, 0)) := by
      rw [← hW5]
      have := heap_alloc_new (w4.alloc (.cells #[.int .i64 q1, .int .i64 q2, .int .i64 q3, .int .i64 q4, .int .i64 u, .int .i64 0, .int .i64 0, .slice none 0 0] 77)) (.cells #[.pointer (some ⟨p, 0, none⟩), .pointer (some ⟨w4.heap.size, 0, none⟩), .slice none 0 0, .slice none 0 0] 80)
      have e : (w4.alloc (.cells #[.int .i64 q1, .int .i64 q2, .int .i64 q3, .int .i64 q4, .int .i64 u, .int .i64 0, .int .i64 0, .slice none 0 0] 77)).heap.size = w4.heap.size + 1 := by simp
      rwa [e] at this
    have b45 : Bl w4 W5 := by rw [← hW5]; exact ((Bl.refl w4).alloc _).alloc _
    have s5 : W5.heap.size = w4.heap.size + 2 := by rw [← hW5]; simp
    rw [hW5]
    clear hW5
    obtain ⟨tag5, htt5⟩ : ∃ t : Nat → Nat, t = fun g => if g < w4.heap.size then tag2 g else if g = w4.heap.size then tR j else tD j := ⟨_, rfl⟩
    have old5 : ∀ g, g < w4.heap.size → tag5 g = tag2 g := fun g hg => by rw [htt5]; simp [hg]
    have tq5 : tag5 (w4.heap.size + 1) = tD j := by rw [htt5]; simp only; rw [if_neg (by omega), if_neg (by omega)]
    have hK5 := HK4.out.only (tag' := tag5) (Only.of_bl (S := fun _ => False) b45) (fun _ _ e => e.elim) old5
    have hD5 : Dt W5 tag5 (tR j) (tV j) w4.heap.size q1 q2 q3 q4 u St.first 0 := ⟨.slice none 0 0, 0, fun _ => ⟨0, 0, 0, 0, [], .slice none 0 0⟩, Nat.le_refl _, ⟨hY5, World.ownsRow_nil _ _ _ _, fun i hi => by omega⟩, Mt.first q1 q2 q3 q4 u _, by rw [htt5]; simp, fun g hg => by simp [Value.ownBlock] at hg, fun i hi => by omega⟩
    have lw1 := HbA.out.lt
    have lw4 := HB14.out.lt
    have hB5 := HbA.out.trans (HB14.out.trans b45)
    have ht5 : ∀ b, b < w.heap.size → tag5 b = tag b := fun b hb => by rw [old5 b (by omega), Ho2.out b (by omega)]
    obtain ⟨i46, j46, z0, z1, z2⟩ := info_parts Tryz.info46
    have hU5 := (Only.of_bl (S := fun _ => False) hB5).owns Hu.out fun _ _ e => e
    obtain ⟨ba, bc, hkl⟩ := (ownsRow_sl hU5).len
    rw [ownsRow_len hU5] at hkl
    have hBt5 := HB.out.only (tag' := tag5) (Only.of_bl (S := fun _ => False) hB5) (fun _ _ e => e.elim) ht5 (Nat.le_refl _)
    obtain ⟨c05, f05, lb5⟩ := hBt5.c0
    have np : Hid (kl.ownBlock ≠ some bw) := fun e => by
      have h1 := HB.out.lt.2
      have h2 := Ht.out bw e
      omega
    subst hkl
    have HU5 := hid hU5
    have HBt5 := hid hBt5
    have HB5 := hid hB5
    have Ht5 := hid ht5
    have HK5 := hid hK5
    have HD5 := hid hD5
    have Hq5 := hid (And.intro hQ5 (And.intro tq5 (show w4.heap.size + 1 < W5.heap.size by omega)))
    have hmx : Hid (nk + 1 ≤ maxLen) := by unfold Hid maxLen; omega
    have hby : Hid ((nk + 1) * 8 ≤ 140737488355328) := by unfold Hid; omega
    clear hU5 hBt5 hB5 ht5 hK5 hD5 hQ5 hY5 tq5 htt5 old5 HK4 b45 s5 HB14 Ho2 lw1 lw4 l1 l2 l4 l5 l6 l7 k1 k2 k4 k5 k6 k7
    generalize w4.heap.size + 1 = q at *
    generalize w4.heap.size = y at *
    go_wp2_with (at_builtin; refine wpList_append_lies _ rfl _ _ 27 rfl 0 46 i46 _ 1 8 Tryz.underlying27 j46 z0 z1 z2 rfl (by decide) _ nk _ rfl (HU5.out.alloc _) ⟨W5.heap.size, 0, none⟩ 1 1 [.pointer (some ⟨q, 0, none⟩)] rfl rfl (cell_one_new _ _ _) (by simp [Value.oneCell']) (by decide) hmx.out hby.out (by simp) (W5.heap.size + 1) (by simp) ?_)
    intro gp capp w6 hown6 hgrow6 hat6 hlt6
    have kq := (far ((Bl.refl W5).alloc _) hgrow6 (o := 0) lb5 np.out).1.trans c05
    have kf := (far ((Bl.refl W5).alloc _) hgrow6 (o := 0) lb5 np.out).2.trans f05
    have lb6 : bw < w6.heap.size := by have := hgrow6.size; simp at this; omega
    have h6 : w6.heap[bw]? = W5.heap[bw]? := by
      rw [hgrow6.block bw (by simp; omega) (fun e => np.out e.symm)]
      exact ((Bl.refl W5).alloc _).heap lb5
    have O7 : Only (fun b => b = bw ∨ (Value.slice ba nk bc).ownBlock = some b) W5 (w6.setCell ⟨bw, 0, none⟩ (.slice (some ⟨gp, 0, none⟩) (nk + 1) capp)) := ((Only.of_bl ((Bl.refl W5).alloc _)).trans ((Only.of_grown hgrow6).mono fun k _ e => .inr e.symm)).setCell ⟨bw, 0, none⟩ (.inl (.inl rfl)) _
    have h7 : (w6.setCell ⟨bw, 0, none⟩ (.slice (some ⟨gp, 0, none⟩) (nk + 1) capp)).heap[bw]? = (W5.setCell ⟨bw, 0, none⟩ (.slice (some ⟨gp, 0, none⟩) (nk + 1) capp)).heap[bw]? := by simp [World.setCell, Array.getElem?_modify, h6]
    obtain ⟨tag7, htt⟩ : ∃ tag7, tag7 = tagTo tag5 W5.heap.size 6 := ⟨_, rfl⟩
    have old7 : ∀ b, b < W5.heap.size → tag7 b = tag5 b := fun b hb => by rw [htt]; exact tagTo_old _ _ _ _ hb
    have l5 := HB5.out.lt
    have hv6 : ∀ b, (Value.slice ba nk bc).ownBlock = some b → tag5 b = 6 := fun b hb => by rw [Ht5.out b (Hu.out.lt b hb).2]; exact Ht.out b hb
    have hb2 : tag5 bw = 2 := HBt5.out.lt.2
    have hBt7 := HBt5.out.setKl (tag' := tag7) (O7.mono fun b _ e => e.imp id (hv6 b)) h7 old7 l5
    have hT : ∀ b, (b = bw ∨ (Value.slice ba nk bc).ownBlock = some b) → tag5 b = 2 ∨ tag5 b = 6 := fun b e => by
      rcases e with e | e
      · rw [e]; exact .inl hb2
      · exact .inr (hv6 b e)
    have hTm : ∀ b, (b = bw ∨ (Value.slice ba nk bc).ownBlock = some b) → tag5 b ≠ tP j ∧ tag5 b ≠ tR j ∧ tag5 b ≠ tV j ∧ tag5 b ≠ tD j := fun b e => by
      have := hT b e
      unfold tP tR tV tD
      omega
    have hK7 := HK5.out.only (tag' := tag7) O7 (fun b _ e => (hTm b e).1) old7
    have hD7 := HD5.out.only (tag' := tag7) O7 (fun b _ e => ⟨(hTm b e).2.1, (hTm b e).2.2.1⟩) old7
    have hQ7 := (O7.block q Hq5.out.2.2 fun e => (hTm q e).2.2.2 Hq5.out.2.1).trans Hq5.out.1
    have tq7 : tag7 q = tD j := by rw [old7 q Hq5.out.2.2]; exact Hq5.out.2.1
    have hs7 := O7.size
    have hrow7 : (w6.setCell ⟨bw, 0, none⟩ (.slice (some ⟨gp, 0, none⟩) (nk + 1) capp)).ownsRow 0 46 1 (.slice (some ⟨gp, 0, none⟩) (nk + 1) capp) (nk + 1) (us ++ [.pointer (some ⟨q, 0, none⟩)]) := by
      obtain ⟨bl, xb, hbk, _⟩ := HBt5.out
      exact ownsRow_of hown6 fun b hb' => Below.heap_setCell _ _ _ _ (fun e => own_ne_block hown6 (h6.trans hbk.blk) (by decide) (by rw [hb', e]))
    have ht7 : ∀ b, (Value.slice (some ⟨gp, 0, none⟩) (nk + 1) capp).ownBlock = some b → tag7 b = 6 := fun b hb => by
      have hb' : gp = b := by simpa [Value.ownBlock] using hb
      rcases hat6 with e | e
      · rw [← hb', old7 gp (HU5.out.lt gp e).2]; exact hv6 gp e
      · rw [← hb', htt]; exact tagTo_new _ _ _ _ (by omega)
    have HN := hid (fr_notedFirst (Fr.start (j := j) (hBt7.mono (lim' := (w6.setCell ⟨bw, 0, none⟩ (.slice (some ⟨gp, 0, none⟩) (nk + 1) capp)).heap.size) (by omega))) (fun x hx => by simp at hx) Hcha.out hQ7 tq7 hK7 hD7 (by omega) hnb)
    have HO7 := hid O7
    have HT7 := hid (And.intro old7 (And.intro hT (And.intro hrow7 ht7)))
    have Hs7 := hid hs7
    clear O7 h7 hBt7 hT hTm hv6 hgrow6 hown6 old7 hK7 hD7 hQ7 tq7 hrow7 ht7 hs7 htt
    go_wp2_with fail
    refine HN.out.mono ?_
    rintro en w8 ⟨rfl, tag8, o8, hF8, hO8⟩
    obtain ⟨old7, hT, hrow7, ht7⟩ := HT7.out
    have hs7 := Hs7.out
    have m6 : ¬ (6 = 2 ∨ Mine j 6) := by unfold Mine tP tR tV tD; omega
    have hrow8 := hF8.out.owns hrow7 fun b hb e => by rw [ht7 b hb] at e; exact m6 e
    have hOut : Only (fun b => tag b = 2 ∨ tag b = 6 ∨ Mine j (tag b)) w w8 := by
      have s8 := hF8.out.size
      refine ⟨hF8.out.os.trans (HO7.out.os.trans HB5.out.os), hF8.out.tape.trans (HO7.out.tape.trans HB5.out.tape), hF8.out.output.trans (HO7.out.output.trans HB5.out.output), by omega, fun i hi hn => ?_⟩
      have t5 := Ht5.out i hi
      have t7 := old7 i (by omega)
      rw [hF8.out.block i (by omega) fun e => hn (by rw [t7, t5] at e; exact e.imp id .inr), HO7.out.block i (by omega) fun e => hn (by have := hT i e; rw [t5] at this; exact this.imp id .inl), HB5.out.heap hi]
    have HFin := hid (And.intro (fun b (hb : b < w.heap.size) => (show tag8 b = tag b by rw [o8 b (by omega), old7 b (by omega), Ht5.out b hb])) (And.intro hF8.bt (And.intro hrow8 (And.intro (fun b (hb : (Value.slice (some ⟨gp, 0, none⟩) (nk + 1) capp).ownBlock = some b) => (show tag8 b = 6 by rw [o8 b (hrow7.lt b hb).2]; exact ht7 b hb)) (And.intro hO8 hOut)))))
    clear hF8 hO8 hOut hrow8 old7 hT hrow7 ht7 HN HT7 HO7 o8
    go_wp2
    go_ret
    obtain ⟨e1, e2, e3, e4, e5, e6⟩ := HFin.out
    exact ⟨rfl, ⟨_, q, tag8, e1, e2, e3, e4, e5⟩, e6⟩
end Go.Proofs.YtkgjpfamjedncaaGreat
