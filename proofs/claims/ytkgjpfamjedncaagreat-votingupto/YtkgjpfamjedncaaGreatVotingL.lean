-- Voting, called at a script that can be read.
import Derived.Test.YtkgjpfamjedncaaGreatPlaysV
namespace Go.Proofs.YtkgjpfamjedncaaGreat
open Go.RowKit Go.Maps
attribute [local go_sem ↓] Go.wp_at_zero Go.wp_at_succ

set_option maxRecDepth 100000 in
set_option maxHeartbeats 1000000 in
theorem plays_zero (a : Option Addr) (cp : Nat) (kb : Nat) (w : World) (hkb : kb < w.heap.size) (hk0 : w.cell? ⟨kb, 0, none⟩ = some (.int .i64 9)) :
    Calls Tryz.prog 7 #[.slice a 0 cp, .slice (some ⟨kb, 0, none⟩) 5 5] w fun e w' => e = .returned (.bool true) ∧ Bl w w' := by
  have HN := hid (pk_new 0 0 0 0 1 0 0 2 2 3 3 none 0 0 none 0 0 ByteArray.empty 0 0 0 none 0 0 _ (Pk.first w) (by omega))
  unfold opR at HN
  go_enter Tryz.func7, Tryz.ntmps7
  go_wp2_with fail
  refine HN.out.mono ?_
  rintro e w1 ⟨rfl, hP1⟩
  have hb1 := hid hP1.bl
  clear hP1 HN
  go_wp2
  refine wp_loop_rounds 1 ?_; rw [rounds_succ]; go_wp2
  go_ret
  exact ⟨rfl, hb1.out⟩

/-- The script as it is read. -/
def ScriptAt (w : World) (v : Value) : Prop :=
  (∃ a c, v = .slice a 0 c) ∨ ∃ (N b o cp : Nat) (kds : List Int) (Ls : List (List Int)), v = .slice (some ⟨b, o, none⟩) N cp ∧ kds.length = N ∧ Ls.length = N ∧ b < w.heap.size ∧ (∀ k (h : k < kds.length) (h' : k < Ls.length), OpAt w b (o + k * 15) kds[k] Ls[k]) ∧ N ≤ 1048576 ∧ tot Ls ≤ 1048576

set_option maxRecDepth 100000 in
set_option maxHeartbeats 1000000 in
theorem voting_any (v : Value) (w : World) (hv : ScriptAt w v) :
    Calls Tryz.prog 5 #[v] w fun e w' => e = .returned (.bool true) ∧ Bl w w' := by
  have bK := (Bl.refl w).alloc (.cells #[.int .i64 9, .int .i64 10, .int .i64 11, .int .i64 12, .int .i64 14] 3)
  have hK := heap_alloc_new w (.cells #[.int .i64 9, .int .i64 10, .int .i64 11, .int .i64 12, .int .i64 14] 3)
  have K0 : Hid (∀ n, n < 5 → (w.alloc (.cells #[.int .i64 9, .int .i64 10, .int .i64 11, .int .i64 12, .int .i64 14] 3)).cell? ⟨w.heap.size, n, none⟩ = some (.int .i64 (kk n))) := fun n hn => by
    rw [cell_of_row _ w.heap.size n _ 3 (0, 0) hK]
    match n, hn with
    | 0, _ => rfl
    | 1, _ => rfl
    | 2, _ => rfl
    | 3, _ => rfl
    | 4, _ => rfl
  have lK : Hid (w.heap.size < (w.alloc (.cells #[.int .i64 9, .int .i64 10, .int .i64 11, .int .i64 12, .int .i64 14] 3)).heap.size) := by rw [Hid]; simp
  have BK := hid bK
  clear hK bK
  rcases hv with ⟨a, c, rfl⟩ | ⟨N, b, o, cp, kds, Ls, rfl, h1, h2, h3, h4, h5, h6⟩
  · go_enter Tryz.func5, Tryz.ntmps5
    go_wp2_with fail
    refine (plays_zero a c w.heap.size _ lK.out (K0.out 0 (by omega))).mono ?_
    rintro e w1 ⟨rfl, b1⟩
    go_wp2
    go_ret
    exact ⟨rfl, BK.out.trans b1⟩
  · have H4 := hid h4
    have H6 := hid h6
    have H1 := hid h1
    have H2 := hid h2
    clear h1 h2 h4 h6
    go_enter Tryz.func5, Tryz.ntmps5
    go_wp2_with fail
    refine (plays_any _ N b o cp w.heap.size kds Ls _ rfl H1.out H2.out (Nat.lt_of_lt_of_le h3 BK.out.lt) (fun k h h' => (H4.out k h h').bl h3 BK.out) lK.out K0.out h5 H6.out).mono ?_
    rintro e w1 ⟨rfl, b1⟩
    go_wp2
    go_ret
    exact ⟨rfl, BK.out.trans b1⟩
end Go.Proofs.YtkgjpfamjedncaaGreat
