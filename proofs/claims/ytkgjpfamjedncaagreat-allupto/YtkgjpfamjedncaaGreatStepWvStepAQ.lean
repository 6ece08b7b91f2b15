-- A step, whatever its call does.
-- A step of a script of all kinds.
import Derived.Test.YtkgjpfamjedncaaGreatPsAOPWStepWfQ
import Derived.Test.YtkgjpfamjedncaaGreatStepWkQ
namespace Go.Proofs.YtkgjpfamjedncaaGreat
open Go.RowKit Go.Maps
attribute [local go_sem ↓] Go.wp_at_zero Go.wp_at_succ

set_option maxRecDepth 100000 in
set_option maxHeartbeats 4000000 in
theorem stepV10_w (bw nv gv bc pj : Nat) (R : World → Prop) (a b c q1 q2 q3 q4 : Int) (la : Option Addr) (ln lc : Nat) (ua : Option Addr) (un uc : Nat) (s : ByteArray) (t1 t2 t3 : Int) (va : Option Addr) (vn vc : Nat) (w : World) (lbw : bw < w.heap.size) (c1 : w.cell? ⟨bw, 1, none⟩ = some (.slice (some ⟨gv, 0, none⟩) nv bc)) (hpos : 0 < nv) (hnv : nv < 4000000) (ha : -9223372036854775808 ≤ a ∧ a ≤ 9223372036854775807) (lgv : gv < w.heap.size) (ci : w.cell? ⟨gv, (pk a nv).toNat, none⟩ = some (.pointer (some ⟨pj, 0, none⟩)))
    (HV : ∀ W, Bl w W → Calls Tryz.prog 15 #[.pointer (some ⟨bw, 0, none⟩), .agg #[.int .i64 10, .int .i64 a, .int .i64 b, .int .i64 c, .int .i64 q1, .int .i64 q2, .int .i64 q3, .int .i64 q4, .slice la ln lc, .slice ua un uc, .string s, .int .i64 t1, .int .i64 t2, .int .i64 t3, .slice va vn vc], .pointer (some ⟨pj, 0, none⟩)] W fun en w' => en = .returned (.bool true) ∧ R w' ∧ w'.cell? ⟨bw, 1, none⟩ = some (.slice (some ⟨gv, 0, none⟩) nv bc) ∧ w'.cell? ⟨gv, (pk a nv).toNat, none⟩ = some (.pointer (some ⟨pj, 0, none⟩)) ∧ (w.heap.size < W.heap.size → w'.heap[w.heap.size]? = W.heap[w.heap.size]?)) :
    Calls Tryz.prog 8 #[.pointer (some ⟨bw, 0, none⟩), .agg #[.int .i64 10, .int .i64 a, .int .i64 b, .int .i64 c, .int .i64 q1, .int .i64 q2, .int .i64 q3, .int .i64 q4, .slice la ln lc, .slice ua un uc, .string s, .int .i64 t1, .int .i64 t2, .int .i64 t3, .slice va vn vc]] w fun en w' => en = .returned (.bool true) ∧ R w' := by
  have bA := (Bl.refl w).alloc (.cells #[.int .i64 10, .int .i64 a, .int .i64 b, .int .i64 c, .int .i64 q1, .int .i64 q2, .int .i64 q3, .int .i64 q4, .slice la ln lc, .slice ua un uc, .string s, .int .i64 t1, .int .i64 t2, .int .i64 t3, .slice va vn vc] 44)
  have cA := (bA.cell lbw).trans c1
  have nbw : ¬ bw = w.heap.size := by omega
  have hj := pk_lt a nv hpos
  have HPk : Hid (∀ W, _) := fun W => pick_nat a nv W ha hpos (by omega)
  obtain ⟨jj, hjj⟩ : ∃ jj, jj = (pk a nv).toNat := ⟨_, rfl⟩
  rw [← hjj] at HPk hj ci
  have HV0 : Hid (∀ W, Bl w W → Calls Tryz.prog 15 #[.pointer (some ⟨bw, 0, none⟩), .agg #[.int .i64 10, .int .i64 a, .int .i64 b, .int .i64 c, .int .i64 q1, .int .i64 q2, .int .i64 q3, .int .i64 q4, .slice la ln lc, .slice ua un uc, .string s, .int .i64 t1, .int .i64 t2, .int .i64 t3, .slice va vn vc], .pointer (some ⟨pj, 0, none⟩)] W fun en w' => en = .returned (.bool true) ∧ R w' ∧ w'.cell? ⟨bw, 1, none⟩ = some (.slice (some ⟨gv, 0, none⟩) nv bc) ∧ w'.cell? ⟨gv, jj, none⟩ = some (.pointer (some ⟨pj, 0, none⟩)) ∧ (w.heap.size < W.heap.size → w'.heap[w.heap.size]? = W.heap[w.heap.size]?)) := by rw [hjj]; exact HV
  clear hjj HV
  have ciA := (bA.cell lgv).trans ci
  have ngv : ¬ gv = w.heap.size := by omega
  have hjI : (jj : Int) < nv := by omega
  have hnI : (nv : Int) ≤ 9223372036854775807 := by omega
  clear c1 ci bA
  obtain ⟨p0, p1, p2, p3, p4, p5, p6, p7, p8, p9, p10, p11, p12, p13, p14⟩ := op_cellsW (heap_alloc_new w (.cells #[.int .i64 10, .int .i64 a, .int .i64 b, .int .i64 c, .int .i64 q1, .int .i64 q2, .int .i64 q3, .int .i64 q4, .slice la ln lc, .slice ua un uc, .string s, .int .i64 t1, .int .i64 t2, .int .i64 t3, .slice va vn vc] 44))
  go_enter Tryz.func8, Tryz.ntmps8
  go_wp2_with fail
  go_region_held3 (fun W => W.cell? ⟨bw, 1, none⟩ = some (.slice (some ⟨gv, 0, none⟩) nv bc) ∧ W.cell? ⟨gv, jj, none⟩ = some (.pointer (some ⟨pj, 0, none⟩)) ∧ W.cell? ⟨w.heap.size, 0, none⟩ = some (.int .i64 10) ∧ W.cell? ⟨w.heap.size, 1, none⟩ = some (.int .i64 a) ∧ W.cell? ⟨w.heap.size, 2, none⟩ = some (.int .i64 b) ∧ W.cell? ⟨w.heap.size, 3, none⟩ = some (.int .i64 c) ∧ W.cell? ⟨w.heap.size, 4, none⟩ = some (.int .i64 q1) ∧ W.cell? ⟨w.heap.size, 5, none⟩ = some (.int .i64 q2) ∧ W.cell? ⟨w.heap.size, 6, none⟩ = some (.int .i64 q3) ∧ W.cell? ⟨w.heap.size, 7, none⟩ = some (.int .i64 q4) ∧ W.cell? ⟨w.heap.size, 8, none⟩ = some (.slice la ln lc) ∧ W.cell? ⟨w.heap.size, 9, none⟩ = some (.slice ua un uc) ∧ W.cell? ⟨w.heap.size, 10, none⟩ = some (.string s) ∧ W.cell? ⟨w.heap.size, 11, none⟩ = some (.int .i64 t1) ∧ W.cell? ⟨w.heap.size, 12, none⟩ = some (.int .i64 t2) ∧ W.cell? ⟨w.heap.size, 13, none⟩ = some (.int .i64 t3) ∧ W.cell? ⟨w.heap.size, 14, none⟩ = some (.slice va vn vc)) (go_keep)
    (first | (go_at_call 11; refine Calls.mono (HPk.out _) ?_; rintro en w' ⟨rfl, rfl⟩) | (go_at_call 15; refine Calls.mono (HV0.out _ (by first | exact ((Bl.refl _).alloc _).drewN _ | exact ((Bl.refl _).alloc _).drew)) ?_; rintro en w1 ⟨rfl, hR, e1, e2, e3⟩; obtain ⟨m0, m1, m2, m3, m4, m5, m6, m7, m8, m9, m10, m11, m12, m13, m14⟩ := op_cellsW ((e3 (by simp)).trans (heap_alloc_new w _)); have HR := hid hR; clear hR e3))
  all_goals
    go_wp2
    go_ret
    exact ⟨rfl, HR.out⟩

set_option maxRecDepth 100000 in
set_option maxHeartbeats 4000000 in
theorem stepV11_w (bw nv gv bc pj : Nat) (R : World → Prop) (a b c q1 q2 q3 q4 : Int) (la : Option Addr) (ln lc : Nat) (ua : Option Addr) (un uc : Nat) (s : ByteArray) (t1 t2 t3 : Int) (va : Option Addr) (vn vc : Nat) (w : World) (lbw : bw < w.heap.size) (c1 : w.cell? ⟨bw, 1, none⟩ = some (.slice (some ⟨gv, 0, none⟩) nv bc)) (hpos : 0 < nv) (hnv : nv < 4000000) (ha : -9223372036854775808 ≤ a ∧ a ≤ 9223372036854775807) (lgv : gv < w.heap.size) (ci : w.cell? ⟨gv, (pk a nv).toNat, none⟩ = some (.pointer (some ⟨pj, 0, none⟩)))
    (HV : ∀ W, Bl w W → Calls Tryz.prog 15 #[.pointer (some ⟨bw, 0, none⟩), .agg #[.int .i64 11, .int .i64 a, .int .i64 b, .int .i64 c, .int .i64 q1, .int .i64 q2, .int .i64 q3, .int .i64 q4, .slice la ln lc, .slice ua un uc, .string s, .int .i64 t1, .int .i64 t2, .int .i64 t3, .slice va vn vc], .pointer (some ⟨pj, 0, none⟩)] W fun en w' => en = .returned (.bool true) ∧ R w' ∧ w'.cell? ⟨bw, 1, none⟩ = some (.slice (some ⟨gv, 0, none⟩) nv bc) ∧ w'.cell? ⟨gv, (pk a nv).toNat, none⟩ = some (.pointer (some ⟨pj, 0, none⟩)) ∧ (w.heap.size < W.heap.size → w'.heap[w.heap.size]? = W.heap[w.heap.size]?)) :
    Calls Tryz.prog 8 #[.pointer (some ⟨bw, 0, none⟩), .agg #[.int .i64 11, .int .i64 a, .int .i64 b, .int .i64 c, .int .i64 q1, .int .i64 q2, .int .i64 q3, .int .i64 q4, .slice la ln lc, .slice ua un uc, .string s, .int .i64 t1, .int .i64 t2, .int .i64 t3, .slice va vn vc]] w fun en w' => en = .returned (.bool true) ∧ R w' := by
  have bA := (Bl.refl w).alloc (.cells #[.int .i64 11, .int .i64 a, .int .i64 b, .int .i64 c, .int .i64 q1, .int .i64 q2, .int .i64 q3, .int .i64 q4, .slice la ln lc, .slice ua un uc, .string s, .int .i64 t1, .int .i64 t2, .int .i64 t3, .slice va vn vc] 44)
  have cA := (bA.cell lbw).trans c1
  have nbw : ¬ bw = w.heap.size := by omega
  have hj := pk_lt a nv hpos
  have HPk : Hid (∀ W, _) := fun W => pick_nat a nv W ha hpos (by omega)
  obtain ⟨jj, hjj⟩ : ∃ jj, jj = (pk a nv).toNat := ⟨_, rfl⟩
  rw [← hjj] at HPk hj ci
  have HV0 : Hid (∀ W, Bl w W → Calls Tryz.prog 15 #[.pointer (some ⟨bw, 0, none⟩), .agg #[.int .i64 11, .int .i64 a, .int .i64 b, .int .i64 c, .int .i64 q1, .int .i64 q2, .int .i64 q3, .int .i64 q4, .slice la ln lc, .slice ua un uc, .string s, .int .i64 t1, .int .i64 t2, .int .i64 t3, .slice va vn vc], .pointer (some ⟨pj, 0, none⟩)] W fun en w' => en = .returned (.bool true) ∧ R w' ∧ w'.cell? ⟨bw, 1, none⟩ = some (.slice (some ⟨gv, 0, none⟩) nv bc) ∧ w'.cell? ⟨gv, jj, none⟩ = some (.pointer (some ⟨pj, 0, none⟩)) ∧ (w.heap.size < W.heap.size → w'.heap[w.heap.size]? = W.heap[w.heap.size]?)) := by rw [hjj]; exact HV
  clear hjj HV
  have ciA := (bA.cell lgv).trans ci
  have ngv : ¬ gv = w.heap.size := by omega
  have hjI : (jj : Int) < nv := by omega
  have hnI : (nv : Int) ≤ 9223372036854775807 := by omega
  clear c1 ci bA
  obtain ⟨p0, p1, p2, p3, p4, p5, p6, p7, p8, p9, p10, p11, p12, p13, p14⟩ := op_cellsW (heap_alloc_new w (.cells #[.int .i64 11, .int .i64 a, .int .i64 b, .int .i64 c, .int .i64 q1, .int .i64 q2, .int .i64 q3, .int .i64 q4, .slice la ln lc, .slice ua un uc, .string s, .int .i64 t1, .int .i64 t2, .int .i64 t3, .slice va vn vc] 44))
  go_enter Tryz.func8, Tryz.ntmps8
  go_wp2_with fail
  go_region_held3 (fun W => W.cell? ⟨bw, 1, none⟩ = some (.slice (some ⟨gv, 0, none⟩) nv bc) ∧ W.cell? ⟨gv, jj, none⟩ = some (.pointer (some ⟨pj, 0, none⟩)) ∧ W.cell? ⟨w.heap.size, 0, none⟩ = some (.int .i64 11) ∧ W.cell? ⟨w.heap.size, 1, none⟩ = some (.int .i64 a) ∧ W.cell? ⟨w.heap.size, 2, none⟩ = some (.int .i64 b) ∧ W.cell? ⟨w.heap.size, 3, none⟩ = some (.int .i64 c) ∧ W.cell? ⟨w.heap.size, 4, none⟩ = some (.int .i64 q1) ∧ W.cell? ⟨w.heap.size, 5, none⟩ = some (.int .i64 q2) ∧ W.cell? ⟨w.heap.size, 6, none⟩ = some (.int .i64 q3) ∧ W.cell? ⟨w.heap.size, 7, none⟩ = some (.int .i64 q4) ∧ W.cell? ⟨w.heap.size, 8, none⟩ = some (.slice la ln lc) ∧ W.cell? ⟨w.heap.size, 9, none⟩ = some (.slice ua un uc) ∧ W.cell? ⟨w.heap.size, 10, none⟩ = some (.string s) ∧ W.cell? ⟨w.heap.size, 11, none⟩ = some (.int .i64 t1) ∧ W.cell? ⟨w.heap.size, 12, none⟩ = some (.int .i64 t2) ∧ W.cell? ⟨w.heap.size, 13, none⟩ = some (.int .i64 t3) ∧ W.cell? ⟨w.heap.size, 14, none⟩ = some (.slice va vn vc)) (go_keep)
    (first | (go_at_call 11; refine Calls.mono (HPk.out _) ?_; rintro en w' ⟨rfl, rfl⟩) | (go_at_call 15; refine Calls.mono (HV0.out _ (by first | exact ((Bl.refl _).alloc _).drewN _ | exact ((Bl.refl _).alloc _).drew)) ?_; rintro en w1 ⟨rfl, hR, e1, e2, e3⟩; obtain ⟨m0, m1, m2, m3, m4, m5, m6, m7, m8, m9, m10, m11, m12, m13, m14⟩ := op_cellsW ((e3 (by simp)).trans (heap_alloc_new w _)); have HR := hid hR; clear hR e3))
  all_goals
    go_wp2
    go_ret
    exact ⟨rfl, HR.out⟩

set_option maxRecDepth 100000 in
set_option maxHeartbeats 4000000 in
theorem stepV12_w (bw nv gv bc pj : Nat) (R : World → Prop) (a b c q1 q2 q3 q4 : Int) (la : Option Addr) (ln lc : Nat) (ua : Option Addr) (un uc : Nat) (s : ByteArray) (t1 t2 t3 : Int) (va : Option Addr) (vn vc : Nat) (w : World) (lbw : bw < w.heap.size) (c1 : w.cell? ⟨bw, 1, none⟩ = some (.slice (some ⟨gv, 0, none⟩) nv bc)) (hpos : 0 < nv) (hnv : nv < 4000000) (ha : -9223372036854775808 ≤ a ∧ a ≤ 9223372036854775807) (lgv : gv < w.heap.size) (ci : w.cell? ⟨gv, (pk a nv).toNat, none⟩ = some (.pointer (some ⟨pj, 0, none⟩)))
    (HV : ∀ W, Bl w W → Calls Tryz.prog 15 #[.pointer (some ⟨bw, 0, none⟩), .agg #[.int .i64 12, .int .i64 a, .int .i64 b, .int .i64 c, .int .i64 q1, .int .i64 q2, .int .i64 q3, .int .i64 q4, .slice la ln lc, .slice ua un uc, .string s, .int .i64 t1, .int .i64 t2, .int .i64 t3, .slice va vn vc], .pointer (some ⟨pj, 0, none⟩)] W fun en w' => en = .returned (.bool true) ∧ R w' ∧ w'.cell? ⟨bw, 1, none⟩ = some (.slice (some ⟨gv, 0, none⟩) nv bc) ∧ w'.cell? ⟨gv, (pk a nv).toNat, none⟩ = some (.pointer (some ⟨pj, 0, none⟩)) ∧ (w.heap.size < W.heap.size → w'.heap[w.heap.size]? = W.heap[w.heap.size]?)) :
    Calls Tryz.prog 8 #[.pointer (some ⟨bw, 0, none⟩), .agg #[.int .i64 12, .int .i64 a, .int .i64 b, .int .i64 c, .int .i64 q1, .int .i64 q2, .int .i64 q3, .int .i64 q4, .slice la ln lc, .slice ua un uc, .string s, .int .i64 t1, .int .i64 t2, .int .i64 t3, .slice va vn vc]] w fun en w' => en = .returned (.bool true) ∧ R w' := by
  have bA := (Bl.refl w).alloc (.cells #[.int .i64 12, .int .i64 a, .int .i64 b, .int .i64 c, .int .i64 q1, .int .i64 q2, .int .i64 q3, .int .i64 q4, .slice la ln lc, .slice ua un uc, .string s, .int .i64 t1, .int .i64 t2, .int .i64 t3, .slice va vn vc] 44)
  have cA := (bA.cell lbw).trans c1
  have nbw : ¬ bw = w.heap.size := by omega
  have hj := pk_lt a nv hpos
  have HPk : Hid (∀ W, _) := fun W => pick_nat a nv W ha hpos (by omega)
  obtain ⟨jj, hjj⟩ : ∃ jj, jj = (pk a nv).toNat := ⟨_, rfl⟩
  rw [← hjj] at HPk hj ci
  have HV0 : Hid (∀ W, Bl w W → Calls Tryz.prog 15 #[.pointer (some ⟨bw, 0, none⟩), .agg #[.int .i64 12, .int .i64 a, .int .i64 b, .int .i64 c, .int .i64 q1, .int .i64 q2, .int .i64 q3, .int .i64 q4, .slice la ln lc, .slice ua un uc, .string s, .int .i64 t1, .int .i64 t2, .int .i64 t3, .slice va vn vc], .pointer (some ⟨pj, 0, none⟩)] W fun en w' => en = .returned (.bool true) ∧ R w' ∧ w'.cell? ⟨bw, 1, none⟩ = some (.slice (some ⟨gv, 0, none⟩) nv bc) ∧ w'.cell? ⟨gv, jj, none⟩ = some (.pointer (some ⟨pj, 0, none⟩)) ∧ (w.heap.size < W.heap.size → w'.heap[w.heap.size]? = W.heap[w.heap.size]?)) := by rw [hjj]; exact HV
  clear hjj HV
  have ciA := (bA.cell lgv).trans ci
  have ngv : ¬ gv = w.heap.size := by omega
  have hjI : (jj : Int) < nv := by omega
  have hnI : (nv : Int) ≤ 9223372036854775807 := by omega
  clear c1 ci bA
  obtain ⟨p0, p1, p2, p3, p4, p5, p6, p7, p8, p9, p10, p11, p12, p13, p14⟩ := op_cellsW (heap_alloc_new w (.cells #[.int .i64 12, .int .i64 a, .int .i64 b, .int .i64 c, .int .i64 q1, .int .i64 q2, .int .i64 q3, .int .i64 q4, .slice la ln lc, .slice ua un uc, .string s, .int .i64 t1, .int .i64 t2, .int .i64 t3, .slice va vn vc] 44))
  go_enter Tryz.func8, Tryz.ntmps8
  go_wp2_with fail
  go_region_held3 (fun W => W.cell? ⟨bw, 1, none⟩ = some (.slice (some ⟨gv, 0, none⟩) nv bc) ∧ W.cell? ⟨gv, jj, none⟩ = some (.pointer (some ⟨pj, 0, none⟩)) ∧ W.cell? ⟨w.heap.size, 0, none⟩ = some (.int .i64 12) ∧ W.cell? ⟨w.heap.size, 1, none⟩ = some (.int .i64 a) ∧ W.cell? ⟨w.heap.size, 2, none⟩ = some (.int .i64 b) ∧ W.cell? ⟨w.heap.size, 3, none⟩ = some (.int .i64 c) ∧ W.cell? ⟨w.heap.size, 4, none⟩ = some (.int .i64 q1) ∧ W.cell? ⟨w.heap.size, 5, none⟩ = some (.int .i64 q2) ∧ W.cell? ⟨w.heap.size, 6, none⟩ = some (.int .i64 q3) ∧ W.cell? ⟨w.heap.size, 7, none⟩ = some (.int .i64 q4) ∧ W.cell? ⟨w.heap.size, 8, none⟩ = some (.slice la ln lc) ∧ W.cell? ⟨w.heap.size, 9, none⟩ = some (.slice ua un uc) ∧ W.cell? ⟨w.heap.size, 10, none⟩ = some (.string s) ∧ W.cell? ⟨w.heap.size, 11, none⟩ = some (.int .i64 t1) ∧ W.cell? ⟨w.heap.size, 12, none⟩ = some (.int .i64 t2) ∧ W.cell? ⟨w.heap.size, 13, none⟩ = some (.int .i64 t3) ∧ W.cell? ⟨w.heap.size, 14, none⟩ = some (.slice va vn vc)) (go_keep)
    (first | (go_at_call 11; refine Calls.mono (HPk.out _) ?_; rintro en w' ⟨rfl, rfl⟩) | (go_at_call 15; refine Calls.mono (HV0.out _ (by first | exact ((Bl.refl _).alloc _).drewN _ | exact ((Bl.refl _).alloc _).drew)) ?_; rintro en w1 ⟨rfl, hR, e1, e2, e3⟩; obtain ⟨m0, m1, m2, m3, m4, m5, m6, m7, m8, m9, m10, m11, m12, m13, m14⟩ := op_cellsW ((e3 (by simp)).trans (heap_alloc_new w _)); have HR := hid hR; clear hR e3))
  all_goals
    go_wp2
    go_ret
    exact ⟨rfl, HR.out⟩

set_option maxRecDepth 100000 in
set_option maxHeartbeats 4000000 in
theorem stepV14_w (bw nv gv bc pj : Nat) (R : World → Prop) (a b c q1 q2 q3 q4 : Int) (la : Option Addr) (ln lc : Nat) (ua : Option Addr) (un uc : Nat) (s : ByteArray) (t1 t2 t3 : Int) (va : Option Addr) (vn vc : Nat) (w : World) (lbw : bw < w.heap.size) (c1 : w.cell? ⟨bw, 1, none⟩ = some (.slice (some ⟨gv, 0, none⟩) nv bc)) (hpos : 0 < nv) (hnv : nv < 4000000) (ha : -9223372036854775808 ≤ a ∧ a ≤ 9223372036854775807) (lgv : gv < w.heap.size) (ci : w.cell? ⟨gv, (pk a nv).toNat, none⟩ = some (.pointer (some ⟨pj, 0, none⟩)))
    (HV : ∀ W, Bl w W → Calls Tryz.prog 15 #[.pointer (some ⟨bw, 0, none⟩), .agg #[.int .i64 14, .int .i64 a, .int .i64 b, .int .i64 c, .int .i64 q1, .int .i64 q2, .int .i64 q3, .int .i64 q4, .slice la ln lc, .slice ua un uc, .string s, .int .i64 t1, .int .i64 t2, .int .i64 t3, .slice va vn vc], .pointer (some ⟨pj, 0, none⟩)] W fun en w' => en = .returned (.bool true) ∧ R w' ∧ w'.cell? ⟨bw, 1, none⟩ = some (.slice (some ⟨gv, 0, none⟩) nv bc) ∧ w'.cell? ⟨gv, (pk a nv).toNat, none⟩ = some (.pointer (some ⟨pj, 0, none⟩)) ∧ (w.heap.size < W.heap.size → w'.heap[w.heap.size]? = W.heap[w.heap.size]?)) :
    Calls Tryz.prog 8 #[.pointer (some ⟨bw, 0, none⟩), .agg #[.int .i64 14, .int .i64 a, .int .i64 b, .int .i64 c, .int .i64 q1, .int .i64 q2, .int .i64 q3, .int .i64 q4, .slice la ln lc, .slice ua un uc, .string s, .int .i64 t1, .int .i64 t2, .int .i64 t3, .slice va vn vc]] w fun en w' => en = .returned (.bool true) ∧ R w' := by
  have bA := (Bl.refl w).alloc (.cells #[.int .i64 14, .int .i64 a, .int .i64 b, .int .i64 c, .int .i64 q1, .int .i64 q2, .int .i64 q3, .int .i64 q4, .slice la ln lc, .slice ua un uc, .string s, .int .i64 t1, .int .i64 t2, .int .i64 t3, .slice va vn vc] 44)
  have cA := (bA.cell lbw).trans c1
  have nbw : ¬ bw = w.heap.size := by omega
  have hj := pk_lt a nv hpos
  have HPk : Hid (∀ W, _) := fun W => pick_nat a nv W ha hpos (by omega)
  obtain ⟨jj, hjj⟩ : ∃ jj, jj = (pk a nv).toNat := ⟨_, rfl⟩
  rw [← hjj] at HPk hj ci
  have HV0 : Hid (∀ W, Bl w W → Calls Tryz.prog 15 #[.pointer (some ⟨bw, 0, none⟩), .agg #[.int .i64 14, .int .i64 a, .int .i64 b, .int .i64 c, .int .i64 q1, .int .i64 q2, .int .i64 q3, .int .i64 q4, .slice la ln lc, .slice ua un uc, .string s, .int .i64 t1, .int .i64 t2, .int .i64 t3, .slice va vn vc], .pointer (some ⟨pj, 0, none⟩)] W fun en w' => en = .returned (.bool true) ∧ R w' ∧ w'.cell? ⟨bw, 1, none⟩ = some (.slice (some ⟨gv, 0, none⟩) nv bc) ∧ w'.cell? ⟨gv, jj, none⟩ = some (.pointer (some ⟨pj, 0, none⟩)) ∧ (w.heap.size < W.heap.size → w'.heap[w.heap.size]? = W.heap[w.heap.size]?)) := by rw [hjj]; exact HV
  clear hjj HV
  have ciA := (bA.cell lgv).trans ci
  have ngv : ¬ gv = w.heap.size := by omega
  have hjI : (jj : Int) < nv := by omega
  have hnI : (nv : Int) ≤ 9223372036854775807 := by omega
  clear c1 ci bA
  obtain ⟨p0, p1, p2, p3, p4, p5, p6, p7, p8, p9, p10, p11, p12, p13, p14⟩ := op_cellsW (heap_alloc_new w (.cells #[.int .i64 14, .int .i64 a, .int .i64 b, .int .i64 c, .int .i64 q1, .int .i64 q2, .int .i64 q3, .int .i64 q4, .slice la ln lc, .slice ua un uc, .string s, .int .i64 t1, .int .i64 t2, .int .i64 t3, .slice va vn vc] 44))
  go_enter Tryz.func8, Tryz.ntmps8
  go_wp2_with fail
  go_region_held3 (fun W => W.cell? ⟨bw, 1, none⟩ = some (.slice (some ⟨gv, 0, none⟩) nv bc) ∧ W.cell? ⟨gv, jj, none⟩ = some (.pointer (some ⟨pj, 0, none⟩)) ∧ W.cell? ⟨w.heap.size, 0, none⟩ = some (.int .i64 14) ∧ W.cell? ⟨w.heap.size, 1, none⟩ = some (.int .i64 a) ∧ W.cell? ⟨w.heap.size, 2, none⟩ = some (.int .i64 b) ∧ W.cell? ⟨w.heap.size, 3, none⟩ = some (.int .i64 c) ∧ W.cell? ⟨w.heap.size, 4, none⟩ = some (.int .i64 q1) ∧ W.cell? ⟨w.heap.size, 5, none⟩ = some (.int .i64 q2) ∧ W.cell? ⟨w.heap.size, 6, none⟩ = some (.int .i64 q3) ∧ W.cell? ⟨w.heap.size, 7, none⟩ = some (.int .i64 q4) ∧ W.cell? ⟨w.heap.size, 8, none⟩ = some (.slice la ln lc) ∧ W.cell? ⟨w.heap.size, 9, none⟩ = some (.slice ua un uc) ∧ W.cell? ⟨w.heap.size, 10, none⟩ = some (.string s) ∧ W.cell? ⟨w.heap.size, 11, none⟩ = some (.int .i64 t1) ∧ W.cell? ⟨w.heap.size, 12, none⟩ = some (.int .i64 t2) ∧ W.cell? ⟨w.heap.size, 13, none⟩ = some (.int .i64 t3) ∧ W.cell? ⟨w.heap.size, 14, none⟩ = some (.slice va vn vc)) (go_keep)
    (first | (go_at_call 11; refine Calls.mono (HPk.out _) ?_; rintro en w' ⟨rfl, rfl⟩) | (go_at_call 15; refine Calls.mono (HV0.out _ (by first | exact ((Bl.refl _).alloc _).drewN _ | exact ((Bl.refl _).alloc _).drew)) ?_; rintro en w1 ⟨rfl, hR, e1, e2, e3⟩; obtain ⟨m0, m1, m2, m3, m4, m5, m6, m7, m8, m9, m10, m11, m12, m13, m14⟩ := op_cellsW ((e3 (by simp)).trans (heap_alloc_new w _)); have HR := hid hR; clear hR e3))
  all_goals
    go_wp2
    go_ret
    exact ⟨rfl, HR.out⟩
end Go.Proofs.YtkgjpfamjedncaaGreat

namespace Go.Proofs.YtkgjpfamjedncaaGreat
open Go.RowKit Go.Maps

theorem stepAK_any (kd : Int) (hkd : kd = 4 ∨ kd = 5 ∨ kd = 6 ∨ kd = 7 ∨ kd = 8 ∨ kd = 13) (bw nk nv nb K T : Nat) (tag : Nat → Nat) (a b c q1 q2 q3 q4 : Int) (la : Option Addr) (ln lc : Nat) (ua : Option Addr) (un uc : Nat) (ss : List Int) (t1 t2 t3 : Int) (va : Option Addr) (vn vc : Nat) (w : World)
    (hP : PsA w tag bw nk nv nb K T) (hnk : nk < 4000000) (hnb : nb + 1 < 4000000) (hK : 60 * K + ss.length ≤ 29000000) (ha : -9223372036854775808 ≤ a ∧ a ≤ 9223372036854775807) (hb : -9223372036854775808 ≤ b ∧ b ≤ 9223372036854775807) (hc : -9223372036854775808 ≤ c ∧ c ≤ 9223372036854775807) (hw1 : (Lit.int .i64 t1).wf = true) (hw2 : (Lit.int .i64 t2).wf = true) (hw3 : (Lit.int .i64 t3).wf = true) (hss : Byt ss) :
    Calls Tryz.prog 8 #[.pointer (some ⟨bw, 0, none⟩), .agg #[.int .i64 kd, .int .i64 a, .int .i64 b, .int .i64 c, .int .i64 q1, .int .i64 q2, .int .i64 q3, .int .i64 q4, .slice la ln lc, .slice ua un uc, .string (strOf ss), .int .i64 t1, .int .i64 t2, .int .i64 t3, .slice va vn vc]] w fun en w' => en = .returned (.bool true) ∧ Aft w tag bw nk nv (nb + 2) (K + 1) T w' := by
  have haw : (Lit.int .i64 a).wf = true := Go.WalkArith.wf_i64 (by omega)
  have hbw : (Lit.int .i64 b).wf = true := Go.WalkArith.wf_i64 (by omega)
  have hcw : (Lit.int .i64 c).wf = true := Go.WalkArith.wf_i64 (by omega)
  have hP0 := hP
  obtain ⟨kl, vl, PK, PV, hp⟩ := hP
  obtain ⟨c1, _, lbw⟩ := hp.bt.c0
  by_cases hz : nk = 0
  · subst hz
    obtain ⟨ba, bc, hvl⟩ := (ownsRow_sl hp.kr.own).len
    rw [ownsRow_len hp.kr.own] at hvl
    rw [hvl] at c1
    have key : ∀ en w', (en = Ending.returned (.bool true) ∧ Bl w w') → en = Ending.returned (.bool true) ∧ Aft w tag bw 0 nv (nb + 2) (K + 1) T w' := fun en w' h => ⟨h.1, Aft.bl hP0 h.2 (by omega) (by omega) (by omega)⟩
    rcases hkd with rfl | rfl | rfl | rfl | rfl | rfl
    · exact (stepNone4_w bw ba bc a b c q1 q2 q3 q4 la ln lc ua un uc (strOf ss) t1 t2 t3 va vn vc w lbw c1).mono key
    · exact (stepNone5_w bw ba bc a b c q1 q2 q3 q4 la ln lc ua un uc (strOf ss) t1 t2 t3 va vn vc w lbw c1).mono key
    · exact (stepNone6_w bw ba bc a b c q1 q2 q3 q4 la ln lc ua un uc (strOf ss) t1 t2 t3 va vn vc w lbw c1).mono key
    · exact (stepNone7_w bw ba bc a b c q1 q2 q3 q4 la ln lc ua un uc (strOf ss) t1 t2 t3 va vn vc w lbw c1).mono key
    · exact (stepNone8_w bw ba bc a b c q1 q2 q3 q4 la ln lc ua un uc (strOf ss) t1 t2 t3 va vn vc w lbw c1).mono key
    · exact (stepNone13_w bw ba bc a b c q1 q2 q3 q4 la ln lc ua un uc (strOf ss) t1 t2 t3 va vn vc w lbw c1).mono key
  · obtain ⟨gv, bc, rfl, lgv, hci⟩ := hp.kr.at (by omega)
    have hj := pk_lt a nk (by omega)
    obtain ⟨jj, hjj⟩ : ∃ jj, jj = (pk a nk).toNat := ⟨_, rfl⟩
    have ci := hci _ hj
    have hj' : jj < nk := by rw [hjj]; exact hj
    have HC : ∀ k : Int, (k = 4 ∨ k = 5 ∨ k = 6 ∨ k = 7) → ∀ W, Bl w W → Calls Tryz.prog 14 #[.pointer (some ⟨bw, 0, none⟩), .agg #[.int .i64 k, .int .i64 a, .int .i64 b, .int .i64 c, .int .i64 q1, .int .i64 q2, .int .i64 q3, .int .i64 q4, .slice la ln lc, .slice ua un uc, .string (strOf ss), .int .i64 t1, .int .i64 t2, .int .i64 t3, .slice va vn vc], .pointer (some ⟨PK (pk a nk).toNat, 0, none⟩)] W fun en w' => en = .returned (.bool true) ∧ Aft w tag bw nk nv (nb + 2) (K + 1) T w' := by
      intro k hk W hW
      rw [← hjj]
      have p := hp.bl hW 1
      obtain ⟨ka, kb, kc, kd', u, ch, rs, S, m, nn, e1, e2, e3, e4, e5⟩ := p.ko jj hj'
      refine (celled_any k hk bw (2 * jj) (PK jj) _ _ nb m nn rs S _ ka kb kc kd' u ch a b c q1 q2 q3 q4 la ln lc ua un uc ss t1 t2 t3 va vn vc W p.bt e1 (by omega) hnb (by omega) (by omega) hbw hcw hw1 hw2 hw3 hss).mono ?_
      rintro en w' ⟨rfl, ⟨tag', rs', S', o1, k1, k2, k3, k4⟩, O⟩
      exact ⟨rfl, Aft.later hW (p.call (jm := 2 * jj) o1 k1 O (fun j _ e => by
        obtain rfl : j = jj := by omega
        exact ⟨ka, kb, kc, kd', u, ch, rs', S', m + 1, nn + 1, k2, by omega, by omega, by omega, by omega⟩) (fun j _ e => by omega) (by omega) (by omega) (by omega))⟩
    have HA : ∀ W, Bl w W → Calls Tryz.prog 12 #[.pointer (some ⟨bw, 0, none⟩), .pointer (some ⟨PK (pk a nk).toNat, 0, none⟩)] W fun en w' => en = .returned (.bool true) ∧ Aft w tag bw nk nv (nb + 2) (K + 1) T w' := by
      intro W hW
      rw [← hjj]
      have p := hp.bl hW 1
      obtain ⟨ka, kb, kc, kd', u, ch, rs, S, m, nn, e1, e2, e3, e4, e5⟩ := p.ko jj hj'
      refine (againC_any bw (2 * jj) (PK jj) _ _ nb m nn rs S _ ka kb kc kd' u ch W p.bt e1 (by omega) hnb).mono ?_
      rintro en w' ⟨rfl, ⟨tag', o1, k1, k2⟩, O⟩
      exact ⟨rfl, Aft.later hW (p.call (jm := 2 * jj) o1 k1 O (fun j _ e => by
        obtain rfl : j = jj := by omega
        exact ⟨ka, kb, kc, kd', u, ch, rs, S, m, nn, k2, by omega, by omega, by omega, by omega⟩) (fun j _ e => by omega) (by omega) (by omega) (by omega))⟩
    have HD : ∀ W, Bl w W → Calls Tryz.prog 13 #[.pointer (some ⟨bw, 0, none⟩), .agg #[.int .i64 13, .int .i64 a, .int .i64 b, .int .i64 c, .int .i64 q1, .int .i64 q2, .int .i64 q3, .int .i64 q4, .slice la ln lc, .slice ua un uc, .string (strOf ss), .int .i64 t1, .int .i64 t2, .int .i64 t3, .slice va vn vc], .pointer (some ⟨PK (pk a nk).toNat, 0, none⟩)] W fun en w' => en = .returned (.bool true) ∧ Aft w tag bw nk nv (nb + 2) (K + 1) T w' := by
      intro W hW
      rw [← hjj]
      have p := hp.bl hW 1
      obtain ⟨ka, kb, kc, kd', u, ch, rs, S, m, nn, e1, e2, e3, e4, e5⟩ := p.ko jj hj'
      refine (part_any bw (2 * jj) (PK jj) m nn rs S _ ka kb kc kd' u ch a b c q1 q2 q3 q4 la ln lc ua un uc (strOf ss) t1 t2 t3 va vn vc W e1 (by omega) (by omega) haw hbw hc).mono ?_
      rintro en w' ⟨rfl, hbl⟩
      exact ⟨rfl, Aft.bl hP0 (hW.trans hbl) (by omega) (by omega) (by omega)⟩
    rcases hkd with rfl | rfl | rfl | rfl | rfl | rfl
    · exact stepK4_w bw nk gv bc (PK (pk a nk).toNat) (Aft w tag bw nk nv (nb + 2) (K + 1) T) a b c q1 q2 q3 q4 la ln lc ua un uc (strOf ss) t1 t2 t3 va vn vc w lbw c1 (by omega) hnk ha lgv ci (HC 4 (by decide))
    · exact stepK5_w bw nk gv bc (PK (pk a nk).toNat) (Aft w tag bw nk nv (nb + 2) (K + 1) T) a b c q1 q2 q3 q4 la ln lc ua un uc (strOf ss) t1 t2 t3 va vn vc w lbw c1 (by omega) hnk ha lgv ci (HC 5 (by decide))
    · exact stepK6_w bw nk gv bc (PK (pk a nk).toNat) (Aft w tag bw nk nv (nb + 2) (K + 1) T) a b c q1 q2 q3 q4 la ln lc ua un uc (strOf ss) t1 t2 t3 va vn vc w lbw c1 (by omega) hnk ha lgv ci (HC 6 (by decide))
    · exact stepK7_w bw nk gv bc (PK (pk a nk).toNat) (Aft w tag bw nk nv (nb + 2) (K + 1) T) a b c q1 q2 q3 q4 la ln lc ua un uc (strOf ss) t1 t2 t3 va vn vc w lbw c1 (by omega) hnk ha lgv ci (HC 7 (by decide))
    · exact stepK8_w bw nk gv bc (PK (pk a nk).toNat) (Aft w tag bw nk nv (nb + 2) (K + 1) T) a b c q1 q2 q3 q4 la ln lc ua un uc (strOf ss) t1 t2 t3 va vn vc w lbw c1 (by omega) hnk ha lgv ci HA
    · exact stepK13_w bw nk gv bc (PK (pk a nk).toNat) (Aft w tag bw nk nv (nb + 2) (K + 1) T) a b c q1 q2 q3 q4 la ln lc ua un uc (strOf ss) t1 t2 t3 va vn vc w lbw c1 (by omega) hnk ha lgv ci HD

theorem stepAV_any (kd : Int) (hkd : kd = 10 ∨ kd = 11 ∨ kd = 12 ∨ kd = 14) (bw nk nv nb K T : Nat) (tag : Nat → Nat) (a b c q1 q2 q3 q4 : Int) (la : Option Addr) (ln lc : Nat) (ua : Option Addr) (un uc : Nat) (ss : List Int) (t1 t2 t3 : Int) (va : Option Addr) (vn vc : Nat) (w : World)
    (hP : PsA w tag bw nk nv nb K T) (hnv : nv < 4000000) (hnb : nb + 1 < 4000000) (hK : 24 * K + T + ss.length ≤ 29000000) (ha : -9223372036854775808 ≤ a ∧ a ≤ 9223372036854775807) (hb : -9223372036854775808 ≤ b ∧ b ≤ 9223372036854775807) (hc : -9223372036854775808 ≤ c ∧ c ≤ 9223372036854775807) (hss : Byt ss) :
    Calls Tryz.prog 8 #[.pointer (some ⟨bw, 0, none⟩), .agg #[.int .i64 kd, .int .i64 a, .int .i64 b, .int .i64 c, .int .i64 q1, .int .i64 q2, .int .i64 q3, .int .i64 q4, .slice la ln lc, .slice ua un uc, .string (strOf ss), .int .i64 t1, .int .i64 t2, .int .i64 t3, .slice va vn vc]] w fun en w' => en = .returned (.bool true) ∧ Aft w tag bw nk nv (nb + 2) (K + 1) (T + ss.length) w' := by
  have hP0 := hP
  obtain ⟨kl, vl, PK, PV, hp⟩ := hP
  obtain ⟨c1, _, lbw⟩ := hp.bt.c1
  by_cases hz : nv = 0
  · subst hz
    obtain ⟨ba, bc, hvl⟩ := (ownsRow_sl hp.vr.own).len
    rw [ownsRow_len hp.vr.own] at hvl
    rw [hvl] at c1
    have key : ∀ en w', (en = Ending.returned (.bool true) ∧ Bl w w') → en = Ending.returned (.bool true) ∧ Aft w tag bw nk 0 (nb + 2) (K + 1) (T + ss.length) w' := fun en w' h => ⟨h.1, Aft.bl hP0 h.2 (by omega) (by omega) (by omega)⟩
    rcases hkd with rfl | rfl | rfl | rfl
    · exact (stepNone10_w bw ba bc a b c q1 q2 q3 q4 la ln lc ua un uc (strOf ss) t1 t2 t3 va vn vc w lbw c1).mono key
    · exact (stepNone11_w bw ba bc a b c q1 q2 q3 q4 la ln lc ua un uc (strOf ss) t1 t2 t3 va vn vc w lbw c1).mono key
    · exact (stepNone12_w bw ba bc a b c q1 q2 q3 q4 la ln lc ua un uc (strOf ss) t1 t2 t3 va vn vc w lbw c1).mono key
    · exact (stepNone14_w bw ba bc a b c q1 q2 q3 q4 la ln lc ua un uc (strOf ss) t1 t2 t3 va vn vc w lbw c1).mono key
  · obtain ⟨gv, bc, rfl, lgv, hci⟩ := hp.vr.at (by omega)
    have hj := pk_lt a nv (by omega)
    obtain ⟨jj, hjj⟩ : ∃ jj, jj = (pk a nv).toNat := ⟨_, rfl⟩
    have ci := hci _ hj
    have hj' : jj < nv := by rw [hjj]; exact hj
    have HC : ∀ k : Int, (k = 10 ∨ k = 11 ∨ k = 12 ∨ k = 14) → ∀ W, Bl w W → Calls Tryz.prog 15 #[.pointer (some ⟨bw, 0, none⟩), .agg #[.int .i64 k, .int .i64 a, .int .i64 b, .int .i64 c, .int .i64 q1, .int .i64 q2, .int .i64 q3, .int .i64 q4, .slice la ln lc, .slice ua un uc, .string (strOf ss), .int .i64 t1, .int .i64 t2, .int .i64 t3, .slice va vn vc], .pointer (some ⟨PV (pk a nv).toNat, 0, none⟩)] W fun en w' => en = .returned (.bool true) ∧ Aft w tag bw nk nv (nb + 2) (K + 1) (T + ss.length) w' ∧ w'.cell? ⟨bw, 1, none⟩ = some (.slice (some ⟨gv, 0, none⟩) nv bc) ∧ w'.cell? ⟨gv, (pk a nv).toNat, none⟩ = some (.pointer (some ⟨PV (pk a nv).toNat, 0, none⟩)) ∧ (w.heap.size < W.heap.size → w'.heap[w.heap.size]? = W.heap[w.heap.size]?) := by
      intro k hk W hW
      rw [← hjj]
      have p := hp.bl hW 1
      obtain ⟨rs, S, m, nn, e1, e2, e3, e4, e5⟩ := p.vo jj hj'
      refine (voted_any k hk bw (2 * jj + 1) (PV jj) _ _ nb m nn rs S _ a b c q1 q2 q3 q4 la ln lc ua un uc ss t1 t2 t3 va vn vc W p.bt e1 (by omega) hnb (by omega) (by omega) (by omega) hb hc hss).mono ?_
      rintro en w' ⟨rfl, ⟨tag', rs', S', m', nn', nb', o1, k1, k2, k3, k4, k5, k6, k7⟩, O⟩
      have hr : PRow w' tag' 51 9 (.slice (some ⟨gv, 0, none⟩) nv bc) nv PV := p.vr.only O (fun g _ e => by
        rcases e with e | e
        · omega
        · have := mine_nine (2 * jj + 1) _ e; omega) o1
      refine ⟨rfl, Aft.later hW (p.call (jm := 2 * jj + 1) o1 k1 O (fun j _ e => by omega) (fun j _ e => by
        obtain rfl : j = jj := by omega
        exact ⟨rs', S', m', nn', k2, by omega, by omega, by omega, by omega⟩) (by omega) (by omega) (by omega)), k1.c1.1, hr.cell jj hj', fun hlt => O.block _ hlt ?_⟩
      rw [tagTo_new _ _ _ _ (Nat.le_refl _)]
      rintro (e | e)
      · exact absurd e (by decide)
      · exact (mine_small (2 * jj + 1)).1 e
    rcases hkd with rfl | rfl | rfl | rfl
    · exact stepV10_w bw nv gv bc (PV (pk a nv).toNat) (Aft w tag bw nk nv (nb + 2) (K + 1) (T + ss.length)) a b c q1 q2 q3 q4 la ln lc ua un uc (strOf ss) t1 t2 t3 va vn vc w lbw c1 (by omega) hnv ha lgv ci (HC 10 (by decide))
    · exact stepV11_w bw nv gv bc (PV (pk a nv).toNat) (Aft w tag bw nk nv (nb + 2) (K + 1) (T + ss.length)) a b c q1 q2 q3 q4 la ln lc ua un uc (strOf ss) t1 t2 t3 va vn vc w lbw c1 (by omega) hnv ha lgv ci (HC 11 (by decide))
    · exact stepV12_w bw nv gv bc (PV (pk a nv).toNat) (Aft w tag bw nk nv (nb + 2) (K + 1) (T + ss.length)) a b c q1 q2 q3 q4 la ln lc ua un uc (strOf ss) t1 t2 t3 va vn vc w lbw c1 (by omega) hnv ha lgv ci (HC 12 (by decide))
    · exact stepV14_w bw nv gv bc (PV (pk a nv).toNat) (Aft w tag bw nk nv (nb + 2) (K + 1) (T + ss.length)) a b c q1 q2 q3 q4 la ln lc ua un uc (strOf ss) t1 t2 t3 va vn vc w lbw c1 (by omega) hnv ha lgv ci (HC 14 (by decide))

theorem stepA_new (bw nk nv nb K T : Nat) (tag : Nat → Nat) (a b c q1 q2 q3 q4 : Int) (la : Option Addr) (ln lc : Nat) (ua : Option Addr) (un uc : Nat) (ss : List Int) (t1 t2 t3 : Int) (va : Option Addr) (vn vc : Nat) (w : World) (hP : PsA w tag bw nk nv nb K T) (hnk : nk < 4000000) (hnb : nb < 4000000) :
    Calls Tryz.prog 8 #[.pointer (some ⟨bw, 0, none⟩), .agg #[.int .i64 3, .int .i64 a, .int .i64 b, .int .i64 c, .int .i64 q1, .int .i64 q2, .int .i64 q3, .int .i64 q4, .slice la ln lc, .slice ua un uc, .string (strOf ss), .int .i64 t1, .int .i64 t2, .int .i64 t3, .slice va vn vc]] w fun en w' => en = .returned (.bool true) ∧ Aft w tag bw nk nv (nb + 1) K T w' := by
  obtain ⟨kl, vl, PK, PV, hp⟩ := hP
  refine stepFree3_w bw _ a b c q1 q2 q3 q4 la ln lc ua un uc (strOf ss) t1 t2 t3 va vn vc w fun W hW => ?_
  have p := hp.bl hW 1
  refine (freeK_any bw (2 * nk) nk kl vl nb _ _ a b c q1 q2 q3 q4 la ln lc ua un uc (strOf ss) t1 t2 t3 va vn vc W p.bt p.kr.own p.kr.tg hnk hnb).mono ?_
  rintro en w' ⟨rfl, h⟩
  exact ⟨rfl, Aft.later hW (newK_aft p h)⟩
theorem stepA_voter (bw nk nv nb K T : Nat) (tag : Nat → Nat) (a b c q1 q2 q3 q4 : Int) (la : Option Addr) (ln lc : Nat) (ua : Option Addr) (un uc : Nat) (ss : List Int) (t1 t2 t3 : Int) (va : Option Addr) (vn vc : Nat) (w : World) (hP : PsA w tag bw nk nv nb K T) (hnv : nv < 4000000) :
    Calls Tryz.prog 8 #[.pointer (some ⟨bw, 0, none⟩), .agg #[.int .i64 9, .int .i64 a, .int .i64 b, .int .i64 c, .int .i64 q1, .int .i64 q2, .int .i64 q3, .int .i64 q4, .slice la ln lc, .slice ua un uc, .string (strOf ss), .int .i64 t1, .int .i64 t2, .int .i64 t3, .slice va vn vc]] w fun en w' => en = .returned (.bool true) ∧ Aft w tag bw nk nv nb K T w' := by
  obtain ⟨kl, vl, PK, PV, hp⟩ := hP
  refine stepFree9_w bw _ a b c q1 q2 q3 q4 la ln lc ua un uc (strOf ss) t1 t2 t3 va vn vc w fun W hW => ?_
  have p := hp.bl hW 1
  refine (freeVoterJ_any bw (2 * nv + 1) 9 nv kl vl nb _ _ a b c q1 q2 q3 q4 la ln lc ua un uc (strOf ss) t1 t2 t3 va vn vc W p.bt p.vr.own p.vr.tg hnv (by decide)).mono ?_
  rintro en w' ⟨rfl, h⟩
  exact ⟨rfl, Aft.later hW (newV_aft p h)⟩
theorem stepA_locate (bw nk nv nb K T : Nat) (tag : Nat → Nat) (a b c q1 q2 q3 q4 : Int) (la : Option Addr) (ln lc : Nat) (ua : Option Addr) (un uc : Nat) (ss : List Int) (t1 t2 t3 : Int) (va : Option Addr) (vn vc : Nat) (w : World) (hP : PsA w tag bw nk nv nb K T) :
    Calls Tryz.prog 8 #[.pointer (some ⟨bw, 0, none⟩), .agg #[.int .i64 1, .int .i64 a, .int .i64 b, .int .i64 c, .int .i64 q1, .int .i64 q2, .int .i64 q3, .int .i64 q4, .slice la ln lc, .slice ua un uc, .string (strOf ss), .int .i64 t1, .int .i64 t2, .int .i64 t3, .slice va vn vc]] w fun en w' => en = .returned (.bool true) ∧ Aft w tag bw nk nv nb K T w' := by
  refine stepFree1_w bw _ a b c q1 q2 q3 q4 la ln lc ua un uc (strOf ss) t1 t2 t3 va vn vc w fun W hW => ?_
  refine (freeLocate_any bw a b c q1 q2 q3 q4 la ln lc ua un uc (strOf ss) t1 t2 t3 va vn vc W).mono ?_
  rintro en w' ⟨rfl, h⟩
  exact ⟨rfl, Aft.bl hP (hW.trans h) (Nat.le_refl _) (Nat.le_refl _) (Nat.le_refl _)⟩
theorem stepA_next (bw nk nv nb K T : Nat) (tag : Nat → Nat) (a b c q1 q2 q3 q4 : Int) (la : Option Addr) (ln lc : Nat) (ua : Option Addr) (un uc : Nat) (ss : List Int) (t1 t2 t3 : Int) (va : Option Addr) (vn vc : Nat) (w : World) (ls : List Value) (L : List (List Int)) (zs : List Int) (hP : PsA w tag bw nk nv nb K T) (hlay : Sl w (.slice la ln lc) ls) (hll : ls.length = L.length) (hrows : ∀ i (h : i < ls.length) (h' : i < L.length), Sl w ls[i] (L[i].map (Value.int .i64))) (hl : Sl w (.slice ua un uc) (zs.map (Value.int .i64)))
    (hL : L.length ≤ 2000000) (hLs : ∀ c ∈ L, c.length ≤ 4000000 ∧ wfAll c) (hz : zs.length ≤ 4000000) (hzw : wfAll zs) (hnb : nb + L.length < 4000000) :
    Calls Tryz.prog 8 #[.pointer (some ⟨bw, 0, none⟩), .agg #[.int .i64 2, .int .i64 a, .int .i64 b, .int .i64 c, .int .i64 q1, .int .i64 q2, .int .i64 q3, .int .i64 q4, .slice la ln lc, .slice ua un uc, .string (strOf ss), .int .i64 t1, .int .i64 t2, .int .i64 t3, .slice va vn vc]] w fun en w' => en = .returned (.bool true) ∧ Aft w tag bw nk nv (nb + L.length + 1) K T w' := by
  obtain ⟨kl, vl, PK, PV, hp⟩ := hP
  refine stepFree2_w bw _ a b c q1 q2 q3 q4 la ln lc ua un uc (strOf ss) t1 t2 t3 va vn vc w fun W hW => ?_
  have p := hp.bl hW 1
  refine (freeNext_any bw kl vl nb _ a b c q1 q2 q3 q4 (.slice la ln lc) ls L (.slice ua un uc) zs (strOf ss) t1 t2 t3 va vn vc W p.bt (hlay.bl hW) hll (fun i h h' => (hrows i h h').bl hW) (hl.bl hW) hL hLs hz hzw hnb).mono ?_
  rintro en w' ⟨rfl, ⟨tag', o1, k1⟩, O⟩
  exact ⟨rfl, Aft.later hW (book_aft p o1 k1 O)⟩
end Go.Proofs.YtkgjpfamjedncaaGreat
