-- A unit is made, and stands in the list.
-- A new unit is noted for the first time.
import Derived.Test.YtkgjpfamjedncaaGreatCellHFrAccByte4AgainC
import Derived.Test.YtkgjpfamjedncaaGreatHalfFHalfCNewV
namespace Go.Proofs.YtkgjpfamjedncaaGreat
open Go.RowKit Go.Maps
attribute [local go_sem ↓] Go.wp_at_zero Go.wp_at_succ

/-- The list of units is another one. -/
theorem Bt.setKl {w w' : World} {tag tag' : Nat → Nat} {bw : Nat} {kl vl kl' : Value} {nb lim : Nat} (h : Bt w tag bw kl vl nb lim) (ho : Only (fun b => b = bw ∨ tag b = 6) w w') (hb : w'.heap[bw]? = (w.setCell ⟨bw, 0, none⟩ kl').heap[bw]?) (ht : ∀ b, b < w.heap.size → tag' b = tag b) (hl : lim ≤ w.heap.size) : Bt w' tag' bw kl' vl nb lim := by
  obtain ⟨bl, xb, h1, h2, h3, h4⟩ := h
  have lb := h1.lt
  have nb1 : ∀ b, bl.ownBlock = some b → ¬ (b = bw ∨ tag b = 6) := fun b hb' e => by
    rcases e with e | e
    · exact own_ne_block h1.ob h1.blk (by decide) (by rw [hb', e])
    · have := h3 b hb'; omega
  have nb2 : ∀ u ∈ xb, ∀ b, u.ownBlock = some b → ¬ (b = bw ∨ tag b = 6) := fun u hu b hb' e => by
    have := (h4 u hu b hb').1
    rcases e with e | e
    · rw [e] at this; omega
    · omega
  refine ⟨bl, xb, ⟨h1.b0, ?_, ho.owns h1.ob nb1, fun k hk => (h1.eb k hk).only ho nb2⟩, by rw [ht bw lb]; exact h2, fun b hb => by rw [ht b (h1.ob.lt b hb).2]; exact h3 b hb, fun u hu b hb => ?_⟩
  · rw [hb]; exact heap_setCell_same w bw 0 _ 35 kl' h1.blk
  · obtain ⟨k1, k2⟩ := h4 u hu b hb
    exact ⟨by rw [ht b (by omega)]; exact k1, k2⟩
theorem Bt.c0 {w : World} {tag : Nat → Nat} {bw : Nat} {kl vl : Value} {nb lim : Nat} (h : Bt w tag bw kl vl nb lim) : w.cell? ⟨bw, 0, none⟩ = some kl ∧ w.frozen? ⟨bw, 0, none⟩ = false ∧ bw < w.heap.size := by
  obtain ⟨bl, xb, h1, _⟩ := h
  exact ⟨cell_of_row w bw 0 _ 35 (0, 0) h1.blk, frozen_of_row w bw 0 _ 35 h1.blk, h1.lt⟩

set_option maxRecDepth 100000 in
set_option maxHeartbeats 4000000 in
/-- No unit of the settings: none is made. -/
theorem freeCellsNo_any (bw : Nat) (u b c q1 q2 q3 q4 : Int) (la : Option Addr) (ln lc : Nat) (ua : Option Addr) (un uc : Nat) (s : ByteArray) (t1 t2 t3 : Int) (va : Option Addr) (vn vc : Nat) (w : World)
    (hno : cha q1 q2 q3 q4 u = (0, 1)) (hun : (fit q1 q2 q3 q4 && decide (0 ≤ u) && decide (u < q1 * q2)) = false) :
    Calls Tryz.prog 10 #[.pointer (some ⟨bw, 0, none⟩), .agg (opR 3 u b c q1 q2 q3 q4 la ln lc ua un uc s t1 t2 t3 va vn vc)] w fun en w' => en = .returned (.bool true) ∧ Bl w w' := by
  obtain ⟨W1, hW1⟩ : ∃ W1, w.alloc (.cells #[.int .i64 3, .int .i64 u, .int .i64 b, .int .i64 c, .int .i64 q1, .int .i64 q2, .int .i64 q3, .int .i64 q4, .slice la ln lc, .slice ua un uc, .string s, .int .i64 t1, .int .i64 t2, .int .i64 t3, .slice va vn vc] 44) = W1 := ⟨_, rfl⟩
  have bA : Bl w W1 := by rw [← hW1]; exact (Bl.refl w).alloc _
  have g0 : W1.cell? ⟨w.heap.size, 0, none⟩ = some (.int .i64 3) := by rw [← hW1]; exact cell_of_row _ w.heap.size 0 _ 44 (0, 0) (heap_alloc_new w _)
  have g1 : W1.cell? ⟨w.heap.size, 1, none⟩ = some (.int .i64 u) := by rw [← hW1]; exact cell_of_row _ w.heap.size 1 _ 44 (0, 0) (heap_alloc_new w _)
  have g2 : W1.cell? ⟨w.heap.size, 2, none⟩ = some (.int .i64 b) := by rw [← hW1]; exact cell_of_row _ w.heap.size 2 _ 44 (0, 0) (heap_alloc_new w _)
  have g4 : W1.cell? ⟨w.heap.size, 4, none⟩ = some (.int .i64 q1) := by rw [← hW1]; exact cell_of_row _ w.heap.size 4 _ 44 (0, 0) (heap_alloc_new w _)
  have g5 : W1.cell? ⟨w.heap.size, 5, none⟩ = some (.int .i64 q2) := by rw [← hW1]; exact cell_of_row _ w.heap.size 5 _ 44 (0, 0) (heap_alloc_new w _)
  have g6 : W1.cell? ⟨w.heap.size, 6, none⟩ = some (.int .i64 q3) := by rw [← hW1]; exact cell_of_row _ w.heap.size 6 _ 44 (0, 0) (heap_alloc_new w _)
  have g7 : W1.cell? ⟨w.heap.size, 7, none⟩ = some (.int .i64 q4) := by rw [← hW1]; exact cell_of_row _ w.heap.size 7 _ 44 (0, 0) (heap_alloc_new w _)
  have lg : w.heap.size < W1.heap.size := by rw [← hW1]; simp
  have HL : Hid (∀ W bb, Bl W1 W → Calls Tryz.prog 30 #[.string { data := #[] }, .bool bb] W fun e w' => ∃ r, e = .returned r ∧ Bl W w' ∧ LentB W.heap.size w' r []) := fun W bb _ => lent_any [] bb W (by intro d hd; simp at hd) (by simp)
  have HbA := hid bA
  have HO := hid (fun v W => openCells_no q1 q2 q3 q4 u v W hno)
  have HU : Hid (∀ W, Calls Tryz.prog 31 #[.agg #[.int .i64 q1, .int .i64 q2, .int .i64 q3, .int .i64 q4], .int .i64 u] W fun e w' => e = .returned (.bool false) ∧ Bl W w') := fun W => by
    have := isUnit_any q1 q2 q3 q4 u W
    rwa [hun] at this
  clear bA hno hun
  unfold opR
  have HW := hid hW1
  clear hW1
  go_enter Tryz.func10, Tryz.ntmps10
  go_upto_region 17 with fail
  rw [HW.out]
  clear HW
  go_cut [20, 21] from 118 to 130 (fun x e wx => x = .pointer none ∧ e = .int .i64 1 ∧ Hid (Bl W1 wx))
  case first =>
    go_region_held3 (fun W => W.cell? ⟨w.heap.size, 1, none⟩ = some (.int .i64 u) ∧ W.cell? ⟨w.heap.size, 2, none⟩ = some (.int .i64 b) ∧ W.cell? ⟨w.heap.size, 4, none⟩ = some (.int .i64 q1) ∧ W.cell? ⟨w.heap.size, 5, none⟩ = some (.int .i64 q2) ∧ W.cell? ⟨w.heap.size, 6, none⟩ = some (.int .i64 q3) ∧ W.cell? ⟨w.heap.size, 7, none⟩ = some (.int .i64 q4)) (go_keep)
      (first | (go_at_call 30; refine (HL.out _ _ ?hb).mono ?_; (case hb => first | exact (Bl.refl _).drewN _ | exact (Bl.refl _).drew | exact Bl.refl _); rintro en w2 ⟨r, rfl, hb2, hL2⟩; have hB2 : Bl W1 w2 := Bl.trans (by first | exact (Bl.refl _).drewN _ | exact (Bl.refl _).drew | exact Bl.refl _) hb2; have i1 := (hB2.cell lg).trans g1; have i2 := (hB2.cell lg).trans g2; have i4 := (hB2.cell lg).trans g4; have i5 := (hB2.cell lg).trans g5; have i6 := (hB2.cell lg).trans g6; have i7 := (hB2.cell lg).trans g7; have HB2 := hid hB2; clear hb2 hL2 hB2) | (go_at_call 29; refine (HO.out _ _).mono ?_; rintro en w3 ⟨rfl, hb3⟩; have hB3 : Bl W1 w3 := Bl.trans HB2.out (Bl.trans (by first | exact (Bl.refl _).drewN _ | exact (Bl.refl _).drew | exact Bl.refl _) hb3); have j1 := (hB3.cell lg).trans g1; have j2 := (hB3.cell lg).trans g2; have j4 := (hB3.cell lg).trans g4; have j5 := (hB3.cell lg).trans g5; have j6 := (hB3.cell lg).trans g6; have j7 := (hB3.cell lg).trans g7; have HB3 := hid hB3; clear hb3 hB3))
    all_goals (go_wp2_with fail; go_meet)
    all_goals exact ⟨rfl, rfl, HB3.out⟩
  case rest =>
    obtain ⟨rfl, rfl, HB3⟩ := hcut
    have k1 := (HB3.out.cell lg).trans g1
    have k2 := (HB3.out.cell lg).trans g2
    have k4 := (HB3.out.cell lg).trans g4
    have k5 := (HB3.out.cell lg).trans g5
    have k6 := (HB3.out.cell lg).trans g6
    have k7 := (HB3.out.cell lg).trans g7
    clear HL HO
    go_wp2_with fail
    refine (HU.out _).mono ?_
    rintro en w4 ⟨rfl, hb4⟩
    have HB4 := hid (HbA.out.trans (HB3.out.trans hb4))
    clear HU hb4
    go_wp2
    go_ret
    exact ⟨rfl, HB4.out⟩
end Go.Proofs.YtkgjpfamjedncaaGreat

namespace Go.Proofs.YtkgjpfamjedncaaGreat
open Go.RowKit Go.Maps

def SK0 : Nat → St := fun _ => St.first
theorem way_nil (a b c d ch : Int) : Way a b c d ch [] SK0 := ⟨rfl, fun j h => by simp at h, fun r h => by simp at h⟩

theorem fr_notedFirst {w0 : World} {tag0 : Nat → Nat} {j bw : Nat} {kl vl : Value} {w : World} {tag : Nat → Nat} {nb lim : Nat} {bx : List (Nat × Array Value × TypeId)} {pl : List (Value × List Int × Nat)} (h : Fr w0 tag0 j bw kl vl w tag nb lim bx pl) (hp4 : ∀ x ∈ pl, x.2.2 = 4) {q p y : Nat} {a b c d u ch : Int} {nn : Nat}
    (hcha : cha a b c d u = (ch, 0)) (e1 : w.heap[q]? = some (.cells #[.pointer (some ⟨p, 0, none⟩), .pointer (some ⟨y, 0, none⟩), .slice none 0 0, .slice none 0 0] 80 (0, 0))) (e2 : tag q = tD j) (hk : Kt w tag (tP j) p a b c d ch [] SK0) (hd : Dt w tag (tR j) (tV j) y a b c d u St.first nn) (hnn : nn < 4000000) (hnb : nb < 4000000) :
    Calls Tryz.prog 32 #[.pointer (some ⟨bw, 0, none⟩), .pointer (some ⟨q, 0, none⟩)] w fun en w' => en = .returned (.tuple #[]) ∧ ∃ tag', (∀ g, g < w.heap.size → tag' g = tag g) ∧ Fr w0 tag0 j bw kl vl w' tag' (nb + 1) w'.heap.size bx pl ∧ ObC w' tag' j q a b c d u ch [] SK0 1 nn := by
  obtain ⟨d1, d2, d3⟩ := tD_ne j
  have lq := (Array.getElem?_eq_some_iff.1 e1).1
  have hK : ∀ g, Kfoot q (.slice none 0 0) (.slice none 0 0) g → tag g = tD j := by
    rintro g (rfl | hg | hg)
    · exact e2
    · simp [Value.ownBlock] at hg
    · simp [Value.ownBlock] at hg
  obtain ⟨lv, n, F, h0, h1, h2, h3, h4, h5⟩ := hd
  refine noted_any bw q p y (.slice none 0 0) (.slice none 0 0) 0 n [] [] a b c d u _ _ lv F (flat []) w _ e1 h1 (by omega) (fun W hW => ?_) (World.ownsRow_nil _ _ _ _) (World.ownsRow_nil _ _ _ _) (Nat.zero_le _) ?_
  · exact kt_image (tag := tag) (hk.only hW (fun g _ e e' => d1 ((hK g e).symm.trans e')) (fun _ _ => rfl)) (by simp [flat])
  intro W pv' sv' lc iv r1 r2 r3 r4 r8 r5 r6 r7
  have O : Only (fun g => tag g = tD j) w W := r5.mono fun g _ e => hK g e
  obtain ⟨tagN, ht⟩ : ∃ t, t = fun g => if g < w.heap.size then tag g else if pv'.ownBlock = some g ∨ sv'.ownBlock = some g then tD j else if iv.ownBlock = some g then 1 else tV j := ⟨_, rfl⟩
  have old : ∀ g, g < w.heap.size → tagN g = tag g := fun g hg => by rw [ht]; simp [hg]
  have new : ∀ g, w.heap.size ≤ g → tagN g = if pv'.ownBlock = some g ∨ sv'.ownBlock = some g then tD j else if iv.ownBlock = some g then 1 else tV j := fun g hg => by rw [ht]; simp only; rw [if_neg (by omega)]
  have nP : ∀ g, g < w.heap.size → tag g = tD j → tag g ≠ tP j := fun g _ e e' => d1 (e.symm.trans e')
  have nR : ∀ g, g < w.heap.size → tag g = tD j → tag g ≠ tR j ∧ tag g ≠ tV j := fun g _ e => ⟨fun e' => d2 (e.symm.trans e'), fun e' => d3 (e.symm.trans e')⟩
  have hkW : Kt W tagN (tP j) p a b c d ch [] SK0 := hk.only O nP old
  have hdW : Dt W tagN (tR j) (tV j) y a b c d u St.first nn := Dt.only (w := w) (tag := tag) ⟨lv, n, F, h0, h1, h2, h3, h4, h5⟩ O nR old
  have hpt : ∀ g, pv'.ownBlock = some g → tagN g = tD j := fun g hg => by
    rcases r6 g hg with h' | h'
    · simp [Value.ownBlock] at h'
    · rw [new g h', if_pos (.inl hg)]
  have hst : ∀ g, sv'.ownBlock = some g → tagN g = tD j := fun g hg => by
    rcases r7 g hg with h' | h'
    · simp [Value.ownBlock] at h'
    · rw [new g h', if_pos (.inr hg)]
  have hiv : ∀ g, iv.ownBlock = some g → tagN g = 1 := fun g hg => by
    rw [new g (r8.lt g hg).1, if_neg, if_pos hg]
    rintro (e | e)
    · exact ownsRow_type r8 r2 (by decide) g hg e
    · exact ownsRow_type r8 r3 (by decide) g hg e
  have hlc : ∀ g, lc.ownBlock = some g → tagN g = tV j := fun g hg => by
    rw [new g (r4.lt g hg).1, if_neg, if_neg]
    · exact fun e => ownsRow_type r4 r8 (by decide) g hg e
    · rintro (e | e)
      · exact ownsRow_type r4 r2 (by decide) g hg e
      · exact ownsRow_type r4 r3 (by decide) g hg e
  have hOr : OrrC W tagN j q p y a b c d u [] SK0 1 := by
    refine ⟨pv', sv', fun _ => (St.first.ep, St.first.mark, lc), fun _ => 0, r1, by rw [old q lq]; exact e2, ?_, hpt, ?_, hst, ⟨Nat.le_refl _, rfl, fun i hi => by omega, rfl⟩, fun i hi => ?_⟩
    · rw [rowC, rowC]; exact r2
    · simpa [off, flat] using r3
    · refine ⟨rfl, rfl, n, F, by omega, ownsRow_base r4 fun _ _ => Nat.zero_le _, h2, hlc, fun k hk => ⟨?_, fun g hg => ?_⟩⟩
      · exact O.owns (h1.val k hk) fun g hg e => d3 (e.symm.trans (h5 k hk g hg))
      · rw [old g ((h1.val k hk).lt g hg).2]; exact h5 k hk g hg
  have hFr : Fr w0 tag0 j bw kl vl W tagN nb lim bx ((iv, flat [], 1) :: pl) := (h.mine O (fun g _ e => .inr (.inr (.inr e))) old).add iv (flat []) 1 (.inl rfl) (ownsRow_base r8 fun g hg => Nat.le_trans h.hi (r8.lt g hg).1) hiv
  refine (hFr.byte hp4 (by simp [flat]) hnb).mono ?_
  rintro en w' ⟨rfl, tag2, o1, hF2, O2⟩
  refine ⟨rfl, tag2, fun g hg => by rw [o1 g (Nat.lt_of_lt_of_le hg O.size)]; exact old g hg, hF2, ?_⟩
  refine ObC.only (w := W) (tag := tagN) ⟨hcha, p, y, hOr, hkW, hdW⟩ O2 (fun g _ e hM => ?_) o1
  have := mine_not j _ hM
  rcases e with e | e <;> omega
end Go.Proofs.YtkgjpfamjedncaaGreat
