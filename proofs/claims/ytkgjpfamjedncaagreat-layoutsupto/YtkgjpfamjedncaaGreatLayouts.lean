/-
  Layouts, called at a script that can be read.
-/
import Derived.Test.YtkgjpfamjedncaaGreatPlays
namespace Go.Proofs.YtkgjpfamjedncaaGreat
open Go.RowKit

set_option maxRecDepth 100000 in
set_option maxHeartbeats 1000000 in
theorem plays_zero (a : Option Addr) (cp : Nat) (kb : Nat) (w : World) (hkb : kb < w.heap.size) (hk0 : w.cell? ⟨kb, 0, none⟩ = some (.int .i64 1)) :
    Calls Tryz.prog 7 #[.slice a 0 cp, .slice (some ⟨kb, 0, none⟩) 2 2] w fun e w' => e = .returned (.bool true) ∧ Bl w w' := by
  go_enter Tryz.func7, Tryz.ntmps7
  go_wp2_with fail
  refine (stepLocate_any w.heap.size 1 0 0 2 2 3 3 none 0 0 none 0 0 ByteArray.empty 0 0 0 none 0 0 _).mono ?_
  rintro e w1 ⟨rfl, b1⟩
  have hb1 := hid (((Bl.refl w).alloc _).trans b1)
  clear b1
  go_wp2
  refine wp_loop_rounds 1 ?_; rw [rounds_succ]; go_wp2
  go_ret
  exact ⟨rfl, hb1.out⟩

/-- The script as it is read. -/
def ScriptAt (w : World) (v : Value) : Prop :=
  (∃ a c, v = .slice a 0 c) ∨ ∃ (N b o cp : Nat) (kds : List Int) (Ls : List (List (List Int))), v = .slice (some ⟨b, o, none⟩) N cp ∧ kds.length = N ∧ Ls.length = N ∧ b < w.heap.size ∧ (∀ k (h : k < kds.length) (h' : k < Ls.length), OpAt w b (o + k * 15) kds[k] Ls[k]) ∧ N ≤ 1048576 ∧ total Ls ≤ 1048576

theorem OpAt.bl {w w' : World} {b off : Nat} {kd : Int} {L : List (List Int)} (h : OpAt w b off kd L) (hb : b < w.heap.size) (hbl : Bl w w') : OpAt w' b off kd L := by
  obtain ⟨a, bb, c, q1, q2, q3, q4, la, ln, lc, ua, un, uc, s, t1, t2, t3, va, vn, vcc, ls, zs, ⟨d0, d1, d2, d3, d4, d5, d6, d7, d8, d9, d10, d11, d12, d13, d14⟩, hS1, hS2, hS3, hS4, hS5, hS6, hS7⟩ := h
  exact ⟨a, bb, c, q1, q2, q3, q4, la, ln, lc, ua, un, uc, s, t1, t2, t3, va, vn, vcc, ls, zs, ⟨(hbl.cell hb).trans d0, (hbl.cell hb).trans d1, (hbl.cell hb).trans d2, (hbl.cell hb).trans d3, (hbl.cell hb).trans d4, (hbl.cell hb).trans d5, (hbl.cell hb).trans d6, (hbl.cell hb).trans d7, (hbl.cell hb).trans d8, (hbl.cell hb).trans d9, (hbl.cell hb).trans d10, (hbl.cell hb).trans d11, (hbl.cell hb).trans d12, (hbl.cell hb).trans d13, (hbl.cell hb).trans d14⟩,
    hS1.bl hbl, hS2, fun i h h' => (hS3 i h h').bl hbl, hS4.bl hbl, hS5, hS6, hS7⟩

set_option maxRecDepth 100000 in
set_option maxHeartbeats 1000000 in
theorem layouts_any (v : Value) (w : World) (hv : ScriptAt w v) :
    Calls Tryz.prog 3 #[v] w fun e w' => e = .returned (.bool true) ∧ Bl w w' := by
  have bK := (Bl.refl w).alloc (.cells #[.int .i64 1, .int .i64 2] 3)
  have hK := heap_alloc_new w (.cells #[.int .i64 1, .int .i64 2] 3)
  have k0 := cell_of_row _ w.heap.size 0 _ 3 (0, 0) hK
  have k1 := cell_of_row _ w.heap.size 1 _ 3 (0, 0) hK
  have K0 : Hid ((w.alloc (.cells #[.int .i64 1, .int .i64 2] 3)).cell? ⟨w.heap.size, 0, none⟩ = some (.int .i64 1)) := by rw [Hid, k0]; rfl
  have K1 : Hid ((w.alloc (.cells #[.int .i64 1, .int .i64 2] 3)).cell? ⟨w.heap.size, 1, none⟩ = some (.int .i64 2)) := by rw [Hid, k1]; rfl
  have lK : Hid (w.heap.size < (w.alloc (.cells #[.int .i64 1, .int .i64 2] 3)).heap.size) := by rw [Hid]; simp
  have BK := hid bK
  clear hK k0 k1 bK
  rcases hv with ⟨a, c, rfl⟩ | ⟨N, b, o, cp, kds, Ls, rfl, h1, h2, h3, h4, h5, h6⟩
  · go_enter Tryz.func3, Tryz.ntmps3
    go_wp2_with fail
    refine (plays_zero a c w.heap.size _ lK.out K0.out).mono ?_
    rintro e w1 ⟨rfl, b1⟩
    go_wp2
    go_ret
    exact ⟨rfl, BK.out.trans b1⟩
  · have H4 := hid h4
    have H6 := hid h6
    have H1 := hid h1
    have H2 := hid h2
    clear h1 h2 h4 h6
    go_enter Tryz.func3, Tryz.ntmps3
    go_wp2_with fail
    refine (plays_any _ N b o cp w.heap.size kds Ls _ rfl H1.out H2.out (Nat.lt_of_lt_of_le h3 BK.out.lt) (fun k h h' => (H4.out k h h').bl h3 BK.out) lK.out K0.out K1.out h5 H6.out).mono ?_
    rintro e w1 ⟨rfl, b1⟩
    go_wp2
    go_ret
    exact ⟨rfl, BK.out.trans b1⟩
end Go.Proofs.YtkgjpfamjedncaaGreat
