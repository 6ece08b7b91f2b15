-- A step that opens a unit from the beginning of its image.
import Derived.Test.YtkgjpfamjedncaaGreatStepCellM
import Derived.Test.YtkgjpfamjedncaaGreatPartM
import Derived.Deep.DeepCutAuto
namespace Go.Proofs.YtkgjpfamjedncaaGreat
open Go.RowKit Go.Maps
attribute [local go_sem ↓] Go.wp_at_zero Go.wp_at_succ

set_option maxRecDepth 100000 in
set_option maxHeartbeats 4000000 in
theorem stepCell13_any (bw nk nb K : Nat) (tag : Nat → Nat) (a b c q1 q2 q3 q4 : Int) (la : Option Addr) (ln lc : Nat) (ua : Option Addr) (un uc : Nat) (ss : List Int) (t1 t2 t3 : Int) (va : Option Addr) (vn vc : Nat) (w : World)
    (hP : PsC w tag bw nk nb K) (hnk : nk < 4000000) (hK : 60 * K + 0 ≤ 29000000) (ha : -9223372036854775808 ≤ a ∧ a ≤ 9223372036854775807) (hbw : (Lit.int .i64 b).wf = true) (hcw : -9223372036854775808 ≤ c ∧ c ≤ 9223372036854775807) :
    Calls Tryz.prog 8 #[.pointer (some ⟨bw, 0, none⟩), .agg #[.int .i64 13, .int .i64 a, .int .i64 b, .int .i64 c, .int .i64 q1, .int .i64 q2, .int .i64 q3, .int .i64 q4, .slice la ln lc, .slice ua un uc, .string (strOf ss), .int .i64 t1, .int .i64 t2, .int .i64 t3, .slice va vn vc]] w fun en w' => en = .returned (.bool true) ∧
      (∃ tag' nb', (∀ b, b < w.heap.size → tag' b = tag b) ∧ PsC w' tag' bw nk nb' (K + 1) ∧ nb' ≤ nb + 2) ∧ Only (fun b => tag b ≠ 0) w w' := by
  have bA := (Bl.refl w).alloc (.cells #[.int .i64 13, .int .i64 a, .int .i64 b, .int .i64 c, .int .i64 q1, .int .i64 q2, .int .i64 q3, .int .i64 q4, .slice la ln lc, .slice ua un uc, .string (strOf ss), .int .i64 t1, .int .i64 t2, .int .i64 t3, .slice va vn vc] 44)
  obtain ⟨kl, PK, h1, h2, h3, h4⟩ := hP
  obtain ⟨c1, f1, lbw⟩ := h1.c0
  have cA := (bA.cell lbw).trans c1
  have nbw : ¬ bw = w.heap.size := by omega
  obtain ⟨ba, bc, hvl⟩ := (ownsRow_sl h2).len
  rw [ownsRow_len h2] at hvl
  by_cases hz : nk = 0
  · subst hz
    have HX : Hid (PsC (w.alloc (.cells #[.int .i64 13, .int .i64 a, .int .i64 b, .int .i64 c, .int .i64 q1, .int .i64 q2, .int .i64 q3, .int .i64 q4, .slice la ln lc, .slice ua un uc, .string (strOf ss), .int .i64 t1, .int .i64 t2, .int .i64 t3, .slice va vn vc] 44)) tag bw 0 nb (K + 1)) := (PsC.bl ⟨kl, PK, h1, h2, h3, h4⟩ bA).mono (by omega)
    have HO : Hid (Only (fun b => tag b ≠ 0) w (w.alloc (.cells #[.int .i64 13, .int .i64 a, .int .i64 b, .int .i64 c, .int .i64 q1, .int .i64 q2, .int .i64 q3, .int .i64 q4, .slice la ln lc, .slice ua un uc, .string (strOf ss), .int .i64 t1, .int .i64 t2, .int .i64 t3, .slice va vn vc] 44))) := Only.of_bl bA
    subst hvl
    clear h1 h2 h3 h4 bA
    go_enter Tryz.func8, Tryz.ntmps8
    go_wp2
    go_ret
    exact ⟨rfl, ⟨tag, nb, fun _ _ => rfl, HX.out, by omega⟩, HO.out⟩
  · have hpos : 0 < nk := by omega
    obtain ⟨gv, rfl⟩ : ∃ gv, ba = some ⟨gv, 0, none⟩ := by
      rcases h2.2 with ⟨e, e'⟩ | ⟨g, cap, cur, e, _⟩
      · omega
      · rw [hvl] at e; simp only [Value.slice.injEq] at e; exact ⟨g, e.1⟩
    have hj := pk_lt a nk hpos
    have HPk : Hid (∀ W, _) := fun W => pick_nat a nk W ha hpos (by omega)
    obtain ⟨jj, hjj⟩ : ∃ jj, jj = (pk a nk).toNat := ⟨_, rfl⟩
    rw [← hjj] at HPk hj
    clear hjj
    have lgv : gv < w.heap.size := (h2.lt gv (by rw [hvl]; rfl)).2
    have ci : w.cell? ⟨gv, jj, none⟩ = some (.pointer (some ⟨PK jj, 0, none⟩)) := by
      have h2' := h2
      rw [hvl] at h2'
      rw [h2'.cellAt jj (by omega)]
      simp [hj]
    have hjI : (jj : Int) < nk := by omega
    have hnI : (nk : Int) ≤ 9223372036854775807 := by omega
    obtain ⟨ka, kb, kc, kd, u, ch, rs, S, m, nn, e1, e2, e3, e4, e5⟩ := h4 jj hj
    have HV : Hid (∀ W, Bl w W → Calls Tryz.prog 13 #[.pointer (some ⟨bw, 0, none⟩), .agg #[.int .i64 13, .int .i64 a, .int .i64 b, .int .i64 c, .int .i64 q1, .int .i64 q2, .int .i64 q3, .int .i64 q4, .slice la ln lc, .slice ua un uc, .string (strOf ss), .int .i64 t1, .int .i64 t2, .int .i64 t3, .slice va vn vc], .pointer (some ⟨PK jj, 0, none⟩)] W fun en w' => en = .returned (.bool true) ∧ (∃ tag' nb', (∀ b, b < w.heap.size → tag' b = tag b) ∧ PsC w' tag' bw nk nb' (K + 1) ∧ nb' ≤ nb + 2) ∧ Only (fun b => tag b ≠ 0) w w') := by
      intro W hW
      have OW : Only (fun _ => False) w W := Only.of_bl hW
      have oldW : ∀ b, b < w.heap.size → tagTo tag w.heap.size 1 b = tag b := fun b hb => tagTo_old _ _ _ _ hb
      have hBW := (h1.only (tag' := tagTo tag w.heap.size 1) OW (fun _ _ e => e.elim) oldW (Nat.le_refl _)).mono hW.lt
      have hOW := e1.only (tag' := tagTo tag w.heap.size 1) OW (fun _ _ e => e.elim) oldW
      refine (part_any bw jj (PK jj) m nn rs S _ ka kb kc kd u ch a b c q1 q2 q3 q4 la ln lc ua un uc (strOf ss) t1 t2 t3 va vn vc W hOW (by omega) (by omega) (Go.WalkArith.wf_i64 (by omega)) hbw hcw).mono ?_
      rintro en w' ⟨rfl, hb'⟩
      have r1 : PsC w' tag bw nk nb (K + 1) := (PsC.bl ⟨kl, PK, h1, h2, h3, h4⟩ (hW.trans hb')).mono (by omega)
      have r3 : Only (fun b => tag b ≠ 0) w w' := Only.of_bl (hW.trans hb')
      obtain ⟨tag', r2, r1⟩ : ∃ tag', (∀ b, b < w.heap.size → tag' b = tag b) ∧ PsC w' tag' bw nk nb (K + 1) := ⟨tag, fun _ _ => rfl, r1⟩
      exact ⟨rfl, ⟨tag', _, r2, r1, by omega⟩, r3⟩
    subst hvl
    obtain ⟨W1, hW1⟩ : ∃ W1, w.alloc (.cells #[.int .i64 13, .int .i64 a, .int .i64 b, .int .i64 c, .int .i64 q1, .int .i64 q2, .int .i64 q3, .int .i64 q4, .slice la ln lc, .slice ua un uc, .string (strOf ss), .int .i64 t1, .int .i64 t2, .int .i64 t3, .slice va vn vc] 44) = W1 := ⟨_, rfl⟩
    obtain ⟨g0, g1, g2, g3, g4, g5, g6, g7, g8, g9, g10, g11, g12, g13, g14⟩ := op_cellsC (heap_alloc_new w (.cells #[.int .i64 13, .int .i64 a, .int .i64 b, .int .i64 c, .int .i64 q1, .int .i64 q2, .int .i64 q3, .int .i64 q4, .slice la ln lc, .slice ua un uc, .string (strOf ss), .int .i64 t1, .int .i64 t2, .int .i64 t3, .slice va vn vc] 44))
    have ciA := (bA.cell lgv).trans ci
    have lg : w.heap.size < W1.heap.size := by rw [← hW1]; simp
    have cA0 := cA
    rw [hW1] at g0 g1 g2 g3 g4 g5 g6 g7 g8 g9 g10 g11 g12 g13 g14 cA ciA bA
    have HbA := hid bA
    have lgA : gv < W1.heap.size := by omega
    have lbA : bw < W1.heap.size := by omega
    have HW := hid hW1
    clear h1 h2 h3 h4 e1 e2 e3 e4 e5 c1 f1 ci bA hW1
    go_enter Tryz.func8, Tryz.ntmps8
    go_upto_region 15 with fail
    rw [HW.out]
    clear HW
    go_cut [5] from 28 to 42 (fun x wx => x = .pointer (some ⟨PK jj, 0, none⟩) ∧ Hid (Bl W1 wx))
    case first =>
      go_region_held3 (fun W => W.cell? ⟨bw, 0, none⟩ = some (.slice (some ⟨gv, 0, none⟩) nk bc) ∧ W.cell? ⟨gv, jj, none⟩ = some (.pointer (some ⟨PK jj, 0, none⟩)) ∧ W.cell? ⟨w.heap.size, 1, none⟩ = some (.int .i64 a)) (go_keep)
        (first | (go_at_call 11; refine Calls.mono (HPk.out _) ?_; rintro en w' ⟨rfl, rfl⟩))
      all_goals (go_wp2_with fail; go_meet)
      all_goals exact ⟨rfl, by unfold Hid; first | exact (Bl.refl _).drewN _ | exact (Bl.refl _).drew | exact Bl.refl _⟩
    case rest =>
      obtain ⟨rfl, HBc⟩ := hcut
      have x0 := (HBc.out.cell lg).trans g0
      have x1 := (HBc.out.cell lg).trans g1
      have x2 := (HBc.out.cell lg).trans g2
      have x3 := (HBc.out.cell lg).trans g3
      have x4 := (HBc.out.cell lg).trans g4
      have x5 := (HBc.out.cell lg).trans g5
      have x6 := (HBc.out.cell lg).trans g6
      have x7 := (HBc.out.cell lg).trans g7
      have x8 := (HBc.out.cell lg).trans g8
      have x9 := (HBc.out.cell lg).trans g9
      have x10 := (HBc.out.cell lg).trans g10
      have x11 := (HBc.out.cell lg).trans g11
      have x12 := (HBc.out.cell lg).trans g12
      have x13 := (HBc.out.cell lg).trans g13
      have x14 := (HBc.out.cell lg).trans g14
      have HV2 := hid (HV.out _ (HbA.out.trans HBc.out))
      clear HV HPk
      go_wp2_with fail
      refine HV2.out.mono ?_
      rintro en w1 ⟨rfl, hR⟩
      have HR := hid hR
      clear hR HV2
      go_wp2
      go_ret
      exact ⟨rfl, HR.out⟩
end Go.Proofs.YtkgjpfamjedncaaGreat
