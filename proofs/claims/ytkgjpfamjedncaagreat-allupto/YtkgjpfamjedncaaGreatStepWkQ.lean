-- A step, whatever its call does.
import Derived.Test.YtkgjpfamjedncaaGreatPsAOPWStepWfQ
namespace Go.Proofs.YtkgjpfamjedncaaGreat
open Go.RowKit Go.Maps
attribute [local go_sem ↓] Go.wp_at_zero Go.wp_at_succ

set_option maxRecDepth 100000 in
set_option maxHeartbeats 4000000 in
theorem stepK4_w (bw nk gv bc pj : Nat) (R : World → Prop) (a b c q1 q2 q3 q4 : Int) (la : Option Addr) (ln lc : Nat) (ua : Option Addr) (un uc : Nat) (s : ByteArray) (t1 t2 t3 : Int) (va : Option Addr) (vn vc : Nat) (w : World) (lbw : bw < w.heap.size) (c1 : w.cell? ⟨bw, 0, none⟩ = some (.slice (some ⟨gv, 0, none⟩) nk bc)) (hpos : 0 < nk) (hnk : nk < 4000000) (ha : -9223372036854775808 ≤ a ∧ a ≤ 9223372036854775807) (lgv : gv < w.heap.size) (ci : w.cell? ⟨gv, (pk a nk).toNat, none⟩ = some (.pointer (some ⟨pj, 0, none⟩)))
    (HV : ∀ W, Bl w W → Calls Tryz.prog 14 #[.pointer (some ⟨bw, 0, none⟩), .agg #[.int .i64 4, .int .i64 a, .int .i64 b, .int .i64 c, .int .i64 q1, .int .i64 q2, .int .i64 q3, .int .i64 q4, .slice la ln lc, .slice ua un uc, .string s, .int .i64 t1, .int .i64 t2, .int .i64 t3, .slice va vn vc], .pointer (some ⟨pj, 0, none⟩)] W fun en w' => en = .returned (.bool true) ∧ R w') :
    Calls Tryz.prog 8 #[.pointer (some ⟨bw, 0, none⟩), .agg #[.int .i64 4, .int .i64 a, .int .i64 b, .int .i64 c, .int .i64 q1, .int .i64 q2, .int .i64 q3, .int .i64 q4, .slice la ln lc, .slice ua un uc, .string s, .int .i64 t1, .int .i64 t2, .int .i64 t3, .slice va vn vc]] w fun en w' => en = .returned (.bool true) ∧ R w' := by
  have bA := (Bl.refl w).alloc (.cells #[.int .i64 4, .int .i64 a, .int .i64 b, .int .i64 c, .int .i64 q1, .int .i64 q2, .int .i64 q3, .int .i64 q4, .slice la ln lc, .slice ua un uc, .string s, .int .i64 t1, .int .i64 t2, .int .i64 t3, .slice va vn vc] 44)
  have cA := (bA.cell lbw).trans c1
  have nbw : ¬ bw = w.heap.size := by omega
  have hj := pk_lt a nk hpos
  have HPk : Hid (∀ W, _) := fun W => pick_nat a nk W ha hpos (by omega)
  obtain ⟨jj, hjj⟩ : ∃ jj, jj = (pk a nk).toNat := ⟨_, rfl⟩
  rw [← hjj] at HPk hj ci
  clear hjj
  have hjI : (jj : Int) < nk := by omega
  have hnI : (nk : Int) ≤ 9223372036854775807 := by omega
  have HVV := hid HV
  obtain ⟨W1, hW1⟩ : ∃ W1, w.alloc (.cells #[.int .i64 4, .int .i64 a, .int .i64 b, .int .i64 c, .int .i64 q1, .int .i64 q2, .int .i64 q3, .int .i64 q4, .slice la ln lc, .slice ua un uc, .string s, .int .i64 t1, .int .i64 t2, .int .i64 t3, .slice va vn vc] 44) = W1 := ⟨_, rfl⟩
  obtain ⟨g0, g1, g2, g3, g4, g5, g6, g7, g8, g9, g10, g11, g12, g13, g14⟩ := op_cellsW (heap_alloc_new w (.cells #[.int .i64 4, .int .i64 a, .int .i64 b, .int .i64 c, .int .i64 q1, .int .i64 q2, .int .i64 q3, .int .i64 q4, .slice la ln lc, .slice ua un uc, .string s, .int .i64 t1, .int .i64 t2, .int .i64 t3, .slice va vn vc] 44))
  have ciA := (bA.cell lgv).trans ci
  have lg : w.heap.size < W1.heap.size := by rw [← hW1]; simp
  have cA0 := cA
  rw [hW1] at g0 g1 g2 g3 g4 g5 g6 g7 g8 g9 g10 g11 g12 g13 g14 cA ciA bA
  have HbA := hid bA
  have lgA : gv < W1.heap.size := by omega
  have lbA : bw < W1.heap.size := by omega
  have HW := hid hW1
  clear c1 ci bA hW1 HV
  go_enter Tryz.func8, Tryz.ntmps8
  go_upto_region 15 with fail
  rw [HW.out]
  clear HW
  go_cut [5] from 28 to 42 (fun x wx => x = .pointer (some ⟨pj, 0, none⟩) ∧ Hid (Bl W1 wx))
  case first =>
    go_region_held3 (fun W => W.cell? ⟨bw, 0, none⟩ = some (.slice (some ⟨gv, 0, none⟩) nk bc) ∧ W.cell? ⟨gv, jj, none⟩ = some (.pointer (some ⟨pj, 0, none⟩)) ∧ W.cell? ⟨w.heap.size, 1, none⟩ = some (.int .i64 a)) (go_keep)
      (first | (go_at_call 11; refine Calls.mono (HPk.out _) ?_; rintro en w' ⟨rfl, rfl⟩))
    all_goals (go_wp2_with fail; go_meet)
    all_goals exact ⟨rfl, by unfold Hid; first | exact (Bl.refl _).drewN _ | exact (Bl.refl _).drew | exact Bl.refl _⟩
  case rest =>
    obtain ⟨rfl, HBc⟩ := hcut
    have x0 := (HBc.out.cell lg).trans g0
    have x1 := (HBc.out.cell lg).trans g1
    have x2 := (HBc.out.cell lg).trans g2
    have x3 := (HBc.out.cell lg).trans g3
    have x4 := (HBc.out.cell lg).trans g4
    have x5 := (HBc.out.cell lg).trans g5
    have x6 := (HBc.out.cell lg).trans g6
    have x7 := (HBc.out.cell lg).trans g7
    have x8 := (HBc.out.cell lg).trans g8
    have x9 := (HBc.out.cell lg).trans g9
    have x10 := (HBc.out.cell lg).trans g10
    have x11 := (HBc.out.cell lg).trans g11
    have x12 := (HBc.out.cell lg).trans g12
    have x13 := (HBc.out.cell lg).trans g13
    have x14 := (HBc.out.cell lg).trans g14
    have HV2 := hid (HVV.out _ (HbA.out.trans HBc.out))
    clear HVV HPk
    go_wp2_with fail
    refine HV2.out.mono ?_
    rintro en w1 ⟨rfl, hR⟩
    have HR := hid hR
    clear hR HV2
    go_wp2
    go_ret
    exact ⟨rfl, HR.out⟩

set_option maxRecDepth 100000 in
set_option maxHeartbeats 4000000 in
theorem stepK5_w (bw nk gv bc pj : Nat) (R : World → Prop) (a b c q1 q2 q3 q4 : Int) (la : Option Addr) (ln lc : Nat) (ua : Option Addr) (un uc : Nat) (s : ByteArray) (t1 t2 t3 : Int) (va : Option Addr) (vn vc : Nat) (w : World) (lbw : bw < w.heap.size) (c1 : w.cell? ⟨bw, 0, none⟩ = some (.slice (some ⟨gv, 0, none⟩) nk bc)) (hpos : 0 < nk) (hnk : nk < 4000000) (ha : -9223372036854775808 ≤ a ∧ a ≤ 9223372036854775807) (lgv : gv < w.heap.size) (ci : w.cell? ⟨gv, (pk a nk).toNat, none⟩ = some (.pointer (some ⟨pj, 0, none⟩)))
    (HV : ∀ W, Bl w W → Calls Tryz.prog 14 #[.pointer (some ⟨bw, 0, none⟩), .agg #[.int .i64 5, .int .i64 a, .int .i64 b, .int .i64 c, .int .i64 q1, .int .i64 q2, .int .i64 q3, .int .i64 q4, .slice la ln lc, .slice ua un uc, .string s, .int .i64 t1, .int .i64 t2, .int .i64 t3, .slice va vn vc], .pointer (some ⟨pj, 0, none⟩)] W fun en w' => en = .returned (.bool true) ∧ R w') :
    Calls Tryz.prog 8 #[.pointer (some ⟨bw, 0, none⟩), .agg #[.int .i64 5, .int .i64 a, .int .i64 b, .int .i64 c, .int .i64 q1, .int .i64 q2, .int .i64 q3, .int .i64 q4, .slice la ln lc, .slice ua un uc, .string s, .int .i64 t1, .int .i64 t2, .int .i64 t3, .slice va vn vc]] w fun en w' => en = .returned (.bool true) ∧ R w' := by
  have bA := (Bl.refl w).alloc (.cells #[.int .i64 5, .int .i64 a, .int .i64 b, .int .i64 c, .int .i64 q1, .int .i64 q2, .int .i64 q3, .int .i64 q4, .slice la ln lc, .slice ua un uc, .string s, .int .i64 t1, .int .i64 t2, .int .i64 t3, .slice va vn vc] 44)
  have cA := (bA.cell lbw).trans c1
  have nbw : ¬ bw = w.heap.size := by omega
  have hj := pk_lt a nk hpos
  have HPk : Hid (∀ W, _) := fun W => pick_nat a nk W ha hpos (by omega)
  obtain ⟨jj, hjj⟩ : ∃ jj, jj = (pk a nk).toNat := ⟨_, rfl⟩
  rw [← hjj] at HPk hj ci
  clear hjj
  have hjI : (jj : Int) < nk := by omega
  have hnI : (nk : Int) ≤ 9223372036854775807 := by omega
  have HVV := hid HV
  obtain ⟨W1, hW1⟩ : ∃ W1, w.alloc (.cells #[.int .i64 5, .int .i64 a, .int .i64 b, .int .i64 c, .int .i64 q1, .int .i64 q2, .int .i64 q3, .int .i64 q4, .slice la ln lc, .slice ua un uc, .string s, .int .i64 t1, .int .i64 t2, .int .i64 t3, .slice va vn vc] 44) = W1 := ⟨_, rfl⟩
  obtain ⟨g0, g1, g2, g3, g4, g5, g6, g7, g8, g9, g10, g11, g12, g13, g14⟩ := op_cellsW (heap_alloc_new w (.cells #[.int .i64 5, .int .i64 a, .int .i64 b, .int .i64 c, .int .i64 q1, .int .i64 q2, .int .i64 q3, .int .i64 q4, .slice la ln lc, .slice ua un uc, .string s, .int .i64 t1, .int .i64 t2, .int .i64 t3, .slice va vn vc] 44))
  have ciA := (bA.cell lgv).trans ci
  have lg : w.heap.size < W1.heap.size := by rw [← hW1]; simp
  have cA0 := cA
  rw [hW1] at g0 g1 g2 g3 g4 g5 g6 g7 g8 g9 g10 g11 g12 g13 g14 cA ciA bA
  have HbA := hid bA
  have lgA : gv < W1.heap.size := by omega
  have lbA : bw < W1.heap.size := by omega
  have HW := hid hW1
  clear c1 ci bA hW1 HV
  go_enter Tryz.func8, Tryz.ntmps8
  go_upto_region 15 with fail
  rw [HW.out]
  clear HW
  go_cut [5] from 28 to 42 (fun x wx => x = .pointer (some ⟨pj, 0, none⟩) ∧ Hid (Bl W1 wx))
  case first =>
    go_region_held3 (fun W => W.cell? ⟨bw, 0, none⟩ = some (.slice (some ⟨gv, 0, none⟩) nk bc) ∧ W.cell? ⟨gv, jj, none⟩ = some (.pointer (some ⟨pj, 0, none⟩)) ∧ W.cell? ⟨w.heap.size, 1, none⟩ = some (.int .i64 a)) (go_keep)
      (first | (go_at_call 11; refine Calls.mono (HPk.out _) ?_; rintro en w' ⟨rfl, rfl⟩))
    all_goals (go_wp2_with fail; go_meet)
    all_goals exact ⟨rfl, by unfold Hid; first | exact (Bl.refl _).drewN _ | exact (Bl.refl _).drew | exact Bl.refl _⟩
  case rest =>
    obtain ⟨rfl, HBc⟩ := hcut
    have x0 := (HBc.out.cell lg).trans g0
    have x1 := (HBc.out.cell lg).trans g1
    have x2 := (HBc.out.cell lg).trans g2
    have x3 := (HBc.out.cell lg).trans g3
    have x4 := (HBc.out.cell lg).trans g4
    have x5 := (HBc.out.cell lg).trans g5
    have x6 := (HBc.out.cell lg).trans g6
    have x7 := (HBc.out.cell lg).trans g7
    have x8 := (HBc.out.cell lg).trans g8
    have x9 := (HBc.out.cell lg).trans g9
    have x10 := (HBc.out.cell lg).trans g10
    have x11 := (HBc.out.cell lg).trans g11
    have x12 := (HBc.out.cell lg).trans g12
    have x13 := (HBc.out.cell lg).trans g13
    have x14 := (HBc.out.cell lg).trans g14
    have HV2 := hid (HVV.out _ (HbA.out.trans HBc.out))
    clear HVV HPk
    go_wp2_with fail
    refine HV2.out.mono ?_
    rintro en w1 ⟨rfl, hR⟩
    have HR := hid hR
    clear hR HV2
    go_wp2
    go_ret
    exact ⟨rfl, HR.out⟩

set_option maxRecDepth 100000 in
set_option maxHeartbeats 4000000 in
theorem stepK6_w (bw nk gv bc pj : Nat) (R : World → Prop) (a b c q1 q2 q3 q4 : Int) (la : Option Addr) (ln lc : Nat) (ua : Option Addr) (un uc : Nat) (s : ByteArray) (t1 t2 t3 : Int) (va : Option Addr) (vn vc : Nat) (w : World) (lbw : bw < w.heap.size) (c1 : w.cell? ⟨bw, 0, none⟩ = some (.slice (some ⟨gv, 0, none⟩) nk bc)) (hpos : 0 < nk) (hnk : nk < 4000000) (ha : -9223372036854775808 ≤ a ∧ a ≤ 9223372036854775807) (lgv : gv < w.heap.size) (ci : w.cell? ⟨gv, (pk a nk).toNat, none⟩ = some (.pointer (some ⟨pj, 0, none⟩)))
    (HV : ∀ W, Bl w W → Calls Tryz.prog 14 #[.pointer (some ⟨bw, 0, none⟩), .agg #[.int .i64 6, .int .i64 a, .int .i64 b, .int .i64 c, .int .i64 q1, .int .i64 q2, .int .i64 q3, .int .i64 q4, .slice la ln lc, .slice ua un uc, .string s, .int .i64 t1, .int .i64 t2, .int .i64 t3, .slice va vn vc], .pointer (some ⟨pj, 0, none⟩)] W fun en w' => en = .returned (.bool true) ∧ R w') :
    Calls Tryz.prog 8 #[.pointer (some ⟨bw, 0, none⟩), .agg #[.int .i64 6, .int .i64 a, .int .i64 b, .int .i64 c, .int .i64 q1, .int .i64 q2, .int .i64 q3, .int .i64 q4, .slice la ln lc, .slice ua un uc, .string s, .int .i64 t1, .int .i64 t2, .int .i64 t3, .slice va vn vc]] w fun en w' => en = .returned (.bool true) ∧ R w' := by
  have bA := (Bl.refl w).alloc (.cells #[.int .i64 6, .int .i64 a, .int .i64 b, .int .i64 c, .int .i64 q1, .int .i64 q2, .int .i64 q3, .int .i64 q4, .slice la ln lc, .slice ua un uc, .string s, .int .i64 t1, .int .i64 t2, .int .i64 t3, .slice va vn vc] 44)
  have cA := (bA.cell lbw).trans c1
  have nbw : ¬ bw = w.heap.size := by omega
  have hj := pk_lt a nk hpos
  have HPk : Hid (∀ W, _) := fun W => pick_nat a nk W ha hpos (by omega)
  obtain ⟨jj, hjj⟩ : ∃ jj, jj = (pk a nk).toNat := ⟨_, rfl⟩
  rw [← hjj] at HPk hj ci
  clear hjj
  have hjI : (jj : Int) < nk := by omega
  have hnI : (nk : Int) ≤ 9223372036854775807 := by omega
  have HVV := hid HV
  obtain ⟨W1, hW1⟩ : ∃ W1, w.alloc (.cells #[.int .i64 6, .int .i64 a, .int .i64 b, .int .i64 c, .int .i64 q1, .int .i64 q2, .int .i64 q3, .int .i64 q4, .slice la ln lc, .slice ua un uc, .string s, .int .i64 t1, .int .i64 t2, .int .i64 t3, .slice va vn vc] 44) = W1 := ⟨_, rfl⟩
  obtain ⟨g0, g1, g2, g3, g4, g5, g6, g7, g8, g9, g10, g11, g12, g13, g14⟩ := op_cellsW (heap_alloc_new w (.cells #[.int .i64 6, .int .i64 a, .int .i64 b, .int .i64 c, .int .i64 q1, .int .i64 q2, .int .i64 q3, .int .i64 q4, .slice la ln lc, .slice ua un uc, .string s, .int .i64 t1, .int .i64 t2, .int .i64 t3, .slice va vn vc] 44))
  have ciA := (bA.cell lgv).trans ci
  have lg : w.heap.size < W1.heap.size := by rw [← hW1]; simp
  have cA0 := cA
  rw [hW1] at g0 g1 g2 g3 g4 g5 g6 g7 g8 g9 g10 g11 g12 g13 g14 cA ciA bA
  have HbA := hid bA
  have lgA : gv < W1.heap.size := by omega
  have lbA : bw < W1.heap.size := by omega
  have HW := hid hW1
  clear c1 ci bA hW1 HV
  go_enter Tryz.func8, Tryz.ntmps8
  go_upto_region 15 with fail
  rw [HW.out]
  clear HW
  go_cut [5] from 28 to 42 (fun x wx => x = .pointer (some ⟨pj, 0, none⟩) ∧ Hid (Bl W1 wx))
  case first =>
    go_region_held3 (fun W => W.cell? ⟨bw, 0, none⟩ = some (.slice (some ⟨gv, 0, none⟩) nk bc) ∧ W.cell? ⟨gv, jj, none⟩ = some (.pointer (some ⟨pj, 0, none⟩)) ∧ W.cell? ⟨w.heap.size, 1, none⟩ = some (.int .i64 a)) (go_keep)
      (first | (go_at_call 11; refine Calls.mono (HPk.out _) ?_; rintro en w' ⟨rfl, rfl⟩))
    all_goals (go_wp2_with fail; go_meet)
    all_goals exact ⟨rfl, by unfold Hid; first | exact (Bl.refl _).drewN _ | exact (Bl.refl _).drew | exact Bl.refl _⟩
  case rest =>
    obtain ⟨rfl, HBc⟩ := hcut
    have x0 := (HBc.out.cell lg).trans g0
    have x1 := (HBc.out.cell lg).trans g1
    have x2 := (HBc.out.cell lg).trans g2
    have x3 := (HBc.out.cell lg).trans g3
    have x4 := (HBc.out.cell lg).trans g4
    have x5 := (HBc.out.cell lg).trans g5
    have x6 := (HBc.out.cell lg).trans g6
    have x7 := (HBc.out.cell lg).trans g7
    have x8 := (HBc.out.cell lg).trans g8
    have x9 := (HBc.out.cell lg).trans g9
    have x10 := (HBc.out.cell lg).trans g10
    have x11 := (HBc.out.cell lg).trans g11
    have x12 := (HBc.out.cell lg).trans g12
    have x13 := (HBc.out.cell lg).trans g13
    have x14 := (HBc.out.cell lg).trans g14
    have HV2 := hid (HVV.out _ (HbA.out.trans HBc.out))
    clear HVV HPk
    go_wp2_with fail
    refine HV2.out.mono ?_
    rintro en w1 ⟨rfl, hR⟩
    have HR := hid hR
    clear hR HV2
    go_wp2
    go_ret
    exact ⟨rfl, HR.out⟩

set_option maxRecDepth 100000 in
set_option maxHeartbeats 4000000 in
theorem stepK7_w (bw nk gv bc pj : Nat) (R : World → Prop) (a b c q1 q2 q3 q4 : Int) (la : Option Addr) (ln lc : Nat) (ua : Option Addr) (un uc : Nat) (s : ByteArray) (t1 t2 t3 : Int) (va : Option Addr) (vn vc : Nat) (w : World) (lbw : bw < w.heap.size) (c1 : w.cell? ⟨bw, 0, none⟩ = some (.slice (some ⟨gv, 0, none⟩) nk bc)) (hpos : 0 < nk) (hnk : nk < 4000000) (ha : -9223372036854775808 ≤ a ∧ a ≤ 9223372036854775807) (lgv : gv < w.heap.size) (ci : w.cell? ⟨gv, (pk a nk).toNat, none⟩ = some (.pointer (some ⟨pj, 0, none⟩)))
    (HV : ∀ W, Bl w W → Calls Tryz.prog 14 #[.pointer (some ⟨bw, 0, none⟩), .agg #[.int .i64 7, .int .i64 a, .int .i64 b, .int .i64 c, .int .i64 q1, .int .i64 q2, .int .i64 q3, .int .i64 q4, .slice la ln lc, .slice ua un uc, .string s, .int .i64 t1, .int .i64 t2, .int .i64 t3, .slice va vn vc], .pointer (some ⟨pj, 0, none⟩)] W fun en w' => en = .returned (.bool true) ∧ R w') :
    Calls Tryz.prog 8 #[.pointer (some ⟨bw, 0, none⟩), .agg #[.int .i64 7, .int .i64 a, .int .i64 b, .int .i64 c, .int .i64 q1, .int .i64 q2, .int .i64 q3, .int .i64 q4, .slice la ln lc, .slice ua un uc, .string s, .int .i64 t1, .int .i64 t2, .int .i64 t3, .slice va vn vc]] w fun en w' => en = .returned (.bool true) ∧ R w' := by
  have bA := (Bl.refl w).alloc (.cells #[.int .i64 7, .int .i64 a, .int .i64 b, .int .i64 c, .int .i64 q1, .int .i64 q2, .int .i64 q3, .int .i64 q4, .slice la ln lc, .slice ua un uc, .string s, .int .i64 t1, .int .i64 t2, .int .i64 t3, .slice va vn vc] 44)
  have cA := (bA.cell lbw).trans c1
  have nbw : ¬ bw = w.heap.size := by omega
  have hj := pk_lt a nk hpos
  have HPk : Hid (∀ W, _) := fun W => pick_nat a nk W ha hpos (by omega)
  obtain ⟨jj, hjj⟩ : ∃ jj, jj = (pk a nk).toNat := ⟨_, rfl⟩
  rw [← hjj] at HPk hj ci
  clear hjj
  have hjI : (jj : Int) < nk := by omega
  have hnI : (nk : Int) ≤ 9223372036854775807 := by omega
  have HVV := hid HV
  obtain ⟨W1, hW1⟩ : ∃ W1, w.alloc (.cells #[.int .i64 7, .int .i64 a, .int .i64 b, .int .i64 c, .int .i64 q1, .int .i64 q2, .int .i64 q3, .int .i64 q4, .slice la ln lc, .slice ua un uc, .string s, .int .i64 t1, .int .i64 t2, .int .i64 t3, .slice va vn vc] 44) = W1 := ⟨_, rfl⟩
  obtain ⟨g0, g1, g2, g3, g4, g5, g6, g7, g8, g9, g10, g11, g12, g13, g14⟩ := op_cellsW (heap_alloc_new w (.cells #[.int .i64 7, .int .i64 a, .int .i64 b, .int .i64 c, .int .i64 q1, .int .i64 q2, .int .i64 q3, .int .i64 q4, .slice la ln lc, .slice ua un uc, .string s, .int .i64 t1, .int .i64 t2, .int .i64 t3, .slice va vn vc] 44))
  have ciA := (bA.cell lgv).trans ci
  have lg : w.heap.size < W1.heap.size := by rw [← hW1]; simp
  have cA0 := cA
  rw [hW1] at g0 g1 g2 g3 g4 g5 g6 g7 g8 g9 g10 g11 g12 g13 g14 cA ciA bA
  have HbA := hid bA
  have lgA : gv < W1.heap.size := by omega
  have lbA : bw < W1.heap.size := by omega
  have HW := hid hW1
  clear c1 ci bA hW1 HV
  go_enter Tryz.func8, Tryz.ntmps8
  go_upto_region 15 with fail
  rw [HW.out]
  clear HW
  go_cut [5] from 28 to 42 (fun x wx => x = .pointer (some ⟨pj, 0, none⟩) ∧ Hid (Bl W1 wx))
  case first =>
    go_region_held3 (fun W => W.cell? ⟨bw, 0, none⟩ = some (.slice (some ⟨gv, 0, none⟩) nk bc) ∧ W.cell? ⟨gv, jj, none⟩ = some (.pointer (some ⟨pj, 0, none⟩)) ∧ W.cell? ⟨w.heap.size, 1, none⟩ = some (.int .i64 a)) (go_keep)
      (first | (go_at_call 11; refine Calls.mono (HPk.out _) ?_; rintro en w' ⟨rfl, rfl⟩))
    all_goals (go_wp2_with fail; go_meet)
    all_goals exact ⟨rfl, by unfold Hid; first | exact (Bl.refl _).drewN _ | exact (Bl.refl _).drew | exact Bl.refl _⟩
  case rest =>
    obtain ⟨rfl, HBc⟩ := hcut
    have x0 := (HBc.out.cell lg).trans g0
    have x1 := (HBc.out.cell lg).trans g1
    have x2 := (HBc.out.cell lg).trans g2
    have x3 := (HBc.out.cell lg).trans g3
    have x4 := (HBc.out.cell lg).trans g4
    have x5 := (HBc.out.cell lg).trans g5
    have x6 := (HBc.out.cell lg).trans g6
    have x7 := (HBc.out.cell lg).trans g7
    have x8 := (HBc.out.cell lg).trans g8
    have x9 := (HBc.out.cell lg).trans g9
    have x10 := (HBc.out.cell lg).trans g10
    have x11 := (HBc.out.cell lg).trans g11
    have x12 := (HBc.out.cell lg).trans g12
    have x13 := (HBc.out.cell lg).trans g13
    have x14 := (HBc.out.cell lg).trans g14
    have HV2 := hid (HVV.out _ (HbA.out.trans HBc.out))
    clear HVV HPk
    go_wp2_with fail
    refine HV2.out.mono ?_
    rintro en w1 ⟨rfl, hR⟩
    have HR := hid hR
    clear hR HV2
    go_wp2
    go_ret
    exact ⟨rfl, HR.out⟩

set_option maxRecDepth 100000 in
set_option maxHeartbeats 4000000 in
theorem stepK8_w (bw nk gv bc pj : Nat) (R : World → Prop) (a b c q1 q2 q3 q4 : Int) (la : Option Addr) (ln lc : Nat) (ua : Option Addr) (un uc : Nat) (s : ByteArray) (t1 t2 t3 : Int) (va : Option Addr) (vn vc : Nat) (w : World) (lbw : bw < w.heap.size) (c1 : w.cell? ⟨bw, 0, none⟩ = some (.slice (some ⟨gv, 0, none⟩) nk bc)) (hpos : 0 < nk) (hnk : nk < 4000000) (ha : -9223372036854775808 ≤ a ∧ a ≤ 9223372036854775807) (lgv : gv < w.heap.size) (ci : w.cell? ⟨gv, (pk a nk).toNat, none⟩ = some (.pointer (some ⟨pj, 0, none⟩)))
    (HV : ∀ W, Bl w W → Calls Tryz.prog 12 #[.pointer (some ⟨bw, 0, none⟩), .pointer (some ⟨pj, 0, none⟩)] W fun en w' => en = .returned (.bool true) ∧ R w') :
    Calls Tryz.prog 8 #[.pointer (some ⟨bw, 0, none⟩), .agg #[.int .i64 8, .int .i64 a, .int .i64 b, .int .i64 c, .int .i64 q1, .int .i64 q2, .int .i64 q3, .int .i64 q4, .slice la ln lc, .slice ua un uc, .string s, .int .i64 t1, .int .i64 t2, .int .i64 t3, .slice va vn vc]] w fun en w' => en = .returned (.bool true) ∧ R w' := by
  have bA := (Bl.refl w).alloc (.cells #[.int .i64 8, .int .i64 a, .int .i64 b, .int .i64 c, .int .i64 q1, .int .i64 q2, .int .i64 q3, .int .i64 q4, .slice la ln lc, .slice ua un uc, .string s, .int .i64 t1, .int .i64 t2, .int .i64 t3, .slice va vn vc] 44)
  have cA := (bA.cell lbw).trans c1
  have nbw : ¬ bw = w.heap.size := by omega
  have hj := pk_lt a nk hpos
  have HPk : Hid (∀ W, _) := fun W => pick_nat a nk W ha hpos (by omega)
  obtain ⟨jj, hjj⟩ : ∃ jj, jj = (pk a nk).toNat := ⟨_, rfl⟩
  rw [← hjj] at HPk hj ci
  clear hjj
  have hjI : (jj : Int) < nk := by omega
  have hnI : (nk : Int) ≤ 9223372036854775807 := by omega
  have HVV := hid HV
  obtain ⟨W1, hW1⟩ : ∃ W1, w.alloc (.cells #[.int .i64 8, .int .i64 a, .int .i64 b, .int .i64 c, .int .i64 q1, .int .i64 q2, .int .i64 q3, .int .i64 q4, .slice la ln lc, .slice ua un uc, .string s, .int .i64 t1, .int .i64 t2, .int .i64 t3, .slice va vn vc] 44) = W1 := ⟨_, rfl⟩
  obtain ⟨g0, g1, g2, g3, g4, g5, g6, g7, g8, g9, g10, g11, g12, g13, g14⟩ := op_cellsW (heap_alloc_new w (.cells #[.int .i64 8, .int .i64 a, .int .i64 b, .int .i64 c, .int .i64 q1, .int .i64 q2, .int .i64 q3, .int .i64 q4, .slice la ln lc, .slice ua un uc, .string s, .int .i64 t1, .int .i64 t2, .int .i64 t3, .slice va vn vc] 44))
  have ciA := (bA.cell lgv).trans ci
  have lg : w.heap.size < W1.heap.size := by rw [← hW1]; simp
  have cA0 := cA
  rw [hW1] at g0 g1 g2 g3 g4 g5 g6 g7 g8 g9 g10 g11 g12 g13 g14 cA ciA bA
  have HbA := hid bA
  have lgA : gv < W1.heap.size := by omega
  have lbA : bw < W1.heap.size := by omega
  have HW := hid hW1
  clear c1 ci bA hW1 HV
  go_enter Tryz.func8, Tryz.ntmps8
  go_upto_region 15 with fail
  rw [HW.out]
  clear HW
  go_cut [5] from 28 to 42 (fun x wx => x = .pointer (some ⟨pj, 0, none⟩) ∧ Hid (Bl W1 wx))
  case first =>
    go_region_held3 (fun W => W.cell? ⟨bw, 0, none⟩ = some (.slice (some ⟨gv, 0, none⟩) nk bc) ∧ W.cell? ⟨gv, jj, none⟩ = some (.pointer (some ⟨pj, 0, none⟩)) ∧ W.cell? ⟨w.heap.size, 1, none⟩ = some (.int .i64 a)) (go_keep)
      (first | (go_at_call 11; refine Calls.mono (HPk.out _) ?_; rintro en w' ⟨rfl, rfl⟩))
    all_goals (go_wp2_with fail; go_meet)
    all_goals exact ⟨rfl, by unfold Hid; first | exact (Bl.refl _).drewN _ | exact (Bl.refl _).drew | exact Bl.refl _⟩
  case rest =>
    obtain ⟨rfl, HBc⟩ := hcut
    have x0 := (HBc.out.cell lg).trans g0
    have x1 := (HBc.out.cell lg).trans g1
    have x2 := (HBc.out.cell lg).trans g2
    have x3 := (HBc.out.cell lg).trans g3
    have x4 := (HBc.out.cell lg).trans g4
    have x5 := (HBc.out.cell lg).trans g5
    have x6 := (HBc.out.cell lg).trans g6
    have x7 := (HBc.out.cell lg).trans g7
    have x8 := (HBc.out.cell lg).trans g8
    have x9 := (HBc.out.cell lg).trans g9
    have x10 := (HBc.out.cell lg).trans g10
    have x11 := (HBc.out.cell lg).trans g11
    have x12 := (HBc.out.cell lg).trans g12
    have x13 := (HBc.out.cell lg).trans g13
    have x14 := (HBc.out.cell lg).trans g14
    have HV2 := hid (HVV.out _ (HbA.out.trans HBc.out))
    clear HVV HPk
    go_wp2_with fail
    refine HV2.out.mono ?_
    rintro en w1 ⟨rfl, hR⟩
    have HR := hid hR
    clear hR HV2
    go_wp2
    go_ret
    exact ⟨rfl, HR.out⟩

set_option maxRecDepth 100000 in
set_option maxHeartbeats 4000000 in
theorem stepK13_w (bw nk gv bc pj : Nat) (R : World → Prop) (a b c q1 q2 q3 q4 : Int) (la : Option Addr) (ln lc : Nat) (ua : Option Addr) (un uc : Nat) (s : ByteArray) (t1 t2 t3 : Int) (va : Option Addr) (vn vc : Nat) (w : World) (lbw : bw < w.heap.size) (c1 : w.cell? ⟨bw, 0, none⟩ = some (.slice (some ⟨gv, 0, none⟩) nk bc)) (hpos : 0 < nk) (hnk : nk < 4000000) (ha : -9223372036854775808 ≤ a ∧ a ≤ 9223372036854775807) (lgv : gv < w.heap.size) (ci : w.cell? ⟨gv, (pk a nk).toNat, none⟩ = some (.pointer (some ⟨pj, 0, none⟩)))
    (HV : ∀ W, Bl w W → Calls Tryz.prog 13 #[.pointer (some ⟨bw, 0, none⟩), .agg #[.int .i64 13, .int .i64 a, .int .i64 b, .int .i64 c, .int .i64 q1, .int .i64 q2, .int .i64 q3, .int .i64 q4, .slice la ln lc, .slice ua un uc, .string s, .int .i64 t1, .int .i64 t2, .int .i64 t3, .slice va vn vc], .pointer (some ⟨pj, 0, none⟩)] W fun en w' => en = .returned (.bool true) ∧ R w') :
    Calls Tryz.prog 8 #[.pointer (some ⟨bw, 0, none⟩), .agg #[.int .i64 13, .int .i64 a, .int .i64 b, .int .i64 c, .int .i64 q1, .int .i64 q2, .int .i64 q3, .int .i64 q4, .slice la ln lc, .slice ua un uc, .string s, .int .i64 t1, .int .i64 t2, .int .i64 t3, .slice va vn vc]] w fun en w' => en = .returned (.bool true) ∧ R w' := by
  have bA := (Bl.refl w).alloc (.cells #[.int .i64 13, .int .i64 a, .int .i64 b, .int .i64 c, .int .i64 q1, .int .i64 q2, .int .i64 q3, .int .i64 q4, .slice la ln lc, .slice ua un uc, .string s, .int .i64 t1, .int .i64 t2, .int .i64 t3, .slice va vn vc] 44)
  have cA := (bA.cell lbw).trans c1
  have nbw : ¬ bw = w.heap.size := by omega
  have hj := pk_lt a nk hpos
  have HPk : Hid (∀ W, _) := fun W => pick_nat a nk W ha hpos (by omega)
  obtain ⟨jj, hjj⟩ : ∃ jj, jj = (pk a nk).toNat := ⟨_, rfl⟩
  rw [← hjj] at HPk hj ci
  clear hjj
  have hjI : (jj : Int) < nk := by omega
  have hnI : (nk : Int) ≤ 9223372036854775807 := by omega
  have HVV := hid HV
  obtain ⟨W1, hW1⟩ : ∃ W1, w.alloc (.cells #[.int .i64 13, .int .i64 a, .int .i64 b, .int .i64 c, .int .i64 q1, .int .i64 q2, .int .i64 q3, .int .i64 q4, .slice la ln lc, .slice ua un uc, .string s, .int .i64 t1, .int .i64 t2, .int .i64 t3, .slice va vn vc] 44) = W1 := ⟨_, rfl⟩
  obtain ⟨g0, g1, g2, g3, g4, g5, g6, g7, g8, g9, g10, g11, g12, g13, g14⟩ := op_cellsW (heap_alloc_new w (.cells #[.int .i64 13, .int .i64 a, .int .i64 b, .int .i64 c, .int .i64 q1, .int .i64 q2, .int .i64 q3, .int .i64 q4, .slice la ln lc, .slice ua un uc, .string s, .int .i64 t1, .int .i64 t2, .int .i64 t3, .slice va vn vc] 44))
  have ciA := (bA.cell lgv).trans ci
  have lg : w.heap.size < W1.heap.size := by rw [← hW1]; simp
  have cA0 := cA
  rw [hW1] at g0 g1 g2 g3 g4 g5 g6 g7 g8 g9 g10 g11 g12 g13 g14 cA ciA bA
  have HbA := hid bA
  have lgA : gv < W1.heap.size := by omega
  have lbA : bw < W1.heap.size := by omega
  have HW := hid hW1
  clear c1 ci bA hW1 HV
  go_enter Tryz.func8, Tryz.ntmps8
  go_upto_region 15 with fail
  rw [HW.out]
  clear HW
  go_cut [5] from 28 to 42 (fun x wx => x = .pointer (some ⟨pj, 0, none⟩) ∧ Hid (Bl W1 wx))
  case first =>
    go_region_held3 (fun W => W.cell? ⟨bw, 0, none⟩ = some (.slice (some ⟨gv, 0, none⟩) nk bc) ∧ W.cell? ⟨gv, jj, none⟩ = some (.pointer (some ⟨pj, 0, none⟩)) ∧ W.cell? ⟨w.heap.size, 1, none⟩ = some (.int .i64 a)) (go_keep)
      (first | (go_at_call 11; refine Calls.mono (HPk.out _) ?_; rintro en w' ⟨rfl, rfl⟩))
    all_goals (go_wp2_with fail; go_meet)
    all_goals exact ⟨rfl, by unfold Hid; first | exact (Bl.refl _).drewN _ | exact (Bl.refl _).drew | exact Bl.refl _⟩
  case rest =>
    obtain ⟨rfl, HBc⟩ := hcut
    have x0 := (HBc.out.cell lg).trans g0
    have x1 := (HBc.out.cell lg).trans g1
    have x2 := (HBc.out.cell lg).trans g2
    have x3 := (HBc.out.cell lg).trans g3
    have x4 := (HBc.out.cell lg).trans g4
    have x5 := (HBc.out.cell lg).trans g5
    have x6 := (HBc.out.cell lg).trans g6
    have x7 := (HBc.out.cell lg).trans g7
    have x8 := (HBc.out.cell lg).trans g8
    have x9 := (HBc.out.cell lg).trans g9
    have x10 := (HBc.out.cell lg).trans g10
    have x11 := (HBc.out.cell lg).trans g11
    have x12 := (HBc.out.cell lg).trans g12
    have x13 := (HBc.out.cell lg).trans g13
    have x14 := (HBc.out.cell lg).trans g14
    have HV2 := hid (HVV.out _ (HbA.out.trans HBc.out))
    clear HVV HPk
    go_wp2_with fail
    refine HV2.out.mono ?_
    rintro en w1 ⟨rfl, hR⟩
    have HR := hid hR
    clear hR HV2
    go_wp2
    go_ret
    exact ⟨rfl, HR.out⟩
end Go.Proofs.YtkgjpfamjedncaaGreat
