-- The shapes of the records of cells, contents, copies of these.
import Derived.Test.YtbghhbpacijmmaaSplits
import Derived.Test.YtbghhbpacijmmaaLocate
namespace Go.Proofs.Ytbghhbpacijmmaa
open Go.RowKit
attribute [local go_sem ↓] Go.wp_at_zero Go.wp_at_succ

/-- The shapes of the records of cells. -/
def shs : List (Int × Int × Int) := [(1, 1, 0), (2, 2, 0), (3, 5, 8)]
set_option maxRecDepth 100000 in
set_option maxHeartbeats 400000 in
theorem shapes_any (w : World) : Calls Try.prog 49 #[] w fun e w' => e = .returned (.slice (some ⟨w.heap.size, 0, none⟩) 3 3) ∧ Shapes w' w.heap.size 0 shs ∧ Bl w w' := by
  go_enter Try.func49, Try.ntmps49
  go_wp2
  go_ret
  refine ⟨rfl, ⟨by simp, fun j h => ?_⟩, (Bl.refl _).alloc _⟩
  have hj : j = 0 ∨ j = 1 ∨ j = 2 := by simp [shs] at h; omega
  rcases hj with rfl | rfl | rfl <;> simp [shs, go_sem]

/-- May this be a content? -/
def isC (kd : Int) (n : Nat) : Bool := if kd = 8 then decide (1 ≤ n ∧ n ≤ 8) else if kd = 9 then decide (n = 0) else false
set_option maxRecDepth 100000 in
set_option maxHeartbeats 400000 in
theorem isContent_any (kd cl ca : Int) (a : Option Addr) (n c : Nat) (w : World) (hn : n ≤ 4000000) : Calls Try.prog 35 #[.agg #[.int .i64 kd, .int .i64 cl, .int .i64 ca, .slice a n c]] w fun e w' => e = .returned (.bool (isC kd n)) ∧ Bl w w' := by
  by_cases h8 : kd = 8
  · subst h8
    by_cases h1 : 1 ≤ n
    · by_cases h2 : n ≤ 8
      all_goals
        have F : Hid (isC 8 n = decide (n ≤ 8)) := by simp [Hid, isC]; omega
        go_enter Try.func35, Try.ntmps35
        go_wp2
        go_ret
        exact ⟨ret_bool (by rw [F.out]; simp; try omega), (Bl.refl _).alloc _⟩
    · have F : Hid (isC 8 n = false) := by simp [Hid, isC]; omega
      have hn0 : n = 0 := by omega
      subst hn0
      go_enter Try.func35, Try.ntmps35
      go_wp2
      go_ret
      exact ⟨ret_bool (by rw [F.out]), (Bl.refl _).alloc _⟩
  · by_cases h9 : kd = 9
    · subst h9
      clear h8
      by_cases hz : n = 0
      · subst hz
        go_enter Try.func35, Try.ntmps35
        go_wp2
        go_ret
        exact ⟨ret_bool rfl, (Bl.refl _).alloc _⟩
      · have F : Hid (isC 9 n = false) := by simp [Hid, isC, hz]
        have e0 : ((n : Int) == 0) = false := by simpa using hz
        go_enter Try.func35, Try.ntmps35
        go_wp2
        go_ret
        exact ⟨ret_bool (by rw [F.out]), (Bl.refl _).alloc _⟩
    · have F : Hid (isC kd n = false) := by simp [Hid, isC, h8, h9]
      have e8 : (kd == 8) = false := by simpa using h8
      have e9 : (kd == 9) = false := by simpa using h9
      clear h8 h9
      go_enter Try.func35, Try.ntmps35
      go_wp2
      go_ret
      exact ⟨ret_bool F.out.symm, (Bl.refl _).alloc _⟩

set_option maxRecDepth 100000 in
set_option maxHeartbeats 400000 in
theorem copied_any (kd cl ca : Int) (v : Value) (ys : List Int) (w : World) (hv : Bs w v (ys.map B8)) (hl : ys.length ≤ 4000000) :
    Calls Try.prog 53 #[.agg #[.int .i64 kd, .int .i64 cl, .int .i64 ca, v]] w fun e w' => ∃ v', e = .returned (.agg #[.int .i64 kd, .int .i64 cl, .int .i64 ca, v']) ∧ Bl w w' ∧ w'.ownsRow w.heap.size 5 1 v' ys.length (ys.map B8) := by
  obtain ⟨a, c, e⟩ := hv.len
  rw [List.length_map] at e
  subst e
  have Hv := hid hv
  clear hv
  go_enter Try.func53, Try.ntmps53
  have bW : Bl w ((w.alloc (.cells #[.int .i64 kd, .int .i64 cl, .int .i64 ca, .slice a ys.length c] 31)).alloc (.cells #[.int .i64 0, .int .i64 0, .int .i64 0, .slice none 0 0] 31)) := ((Bl.refl w).alloc _).alloc _
  have hA := (Below.heap_alloc (w.alloc (.cells #[.int .i64 kd, .int .i64 cl, .int .i64 ca, .slice a ys.length c] 31)) (.cells #[.int .i64 0, .int .i64 0, .int .i64 0, .slice none 0 0] 31) w.heap.size (by simp)).trans (heap_alloc_new w _)
  have hB : ((w.alloc (.cells #[.int .i64 kd, .int .i64 cl, .int .i64 ca, .slice a ys.length c] 31)).alloc (.cells #[.int .i64 0, .int .i64 0, .int .i64 0, .slice none 0 0] 31)).heap[w.heap.size + 1]? = some (.cells #[.int .i64 0, .int .i64 0, .int .i64 0, .slice none 0 0] 31 (0, 0)) := by
    have := heap_alloc_new (w.alloc (.cells #[.int .i64 kd, .int .i64 cl, .int .i64 ca, .slice a ys.length c] 31)) (.cells #[.int .i64 0, .int .i64 0, .int .i64 0, .slice none 0 0] 31)
    simpa using this
  have BW := hid bW
  have HA := hid hA
  have HB := hid hB
  clear bW hA hB
  go_wp2_with fail
  refine (clone_any _ ys _ (Hv.out.bl BW.out) hl).mono ?_
  rintro e w2 ⟨vv, rfl, b2, hv2⟩
  obtain ⟨va, vc, ev⟩ : ∃ a c, vv = .slice a ys.length c := by
    obtain ⟨a', c', e'⟩ := (ownsRow_sl hv2).len
    rw [ownsRow_len hv2] at e'
    exact ⟨a', c', e'⟩
  subst ev
  have lB := (Array.getElem?_eq_some_iff.1 HB.out).1
  have HA2 := hid ((b2.heap (Nat.lt_trans (Nat.lt_succ_self _) lB)).trans HA.out)
  have HB2 := hid ((b2.heap lB).trans HB.out)
  have Hv2 := hid hv2
  have Hbl2 := hid (BW.out.trans b2)
  have hsz := BW.out.lt
  have a0 := cell_of_row w2 w.heap.size 0 _ 31 (0, 0) HA2.out
  have a1 := cell_of_row w2 w.heap.size 1 _ 31 (0, 0) HA2.out
  have a2 := cell_of_row w2 w.heap.size 2 _ 31 (0, 0) HA2.out
  have a3 := cell_of_row w2 w.heap.size 3 _ 31 (0, 0) HA2.out
  have f3 := frozen_of_row w2 w.heap.size 3 _ 31 HA2.out
  have p0 := cell_of_row w2 (w.heap.size + 1) 0 _ 31 (0, 0) HB2.out
  have p1 := cell_of_row w2 (w.heap.size + 1) 1 _ 31 (0, 0) HB2.out
  have p2 := cell_of_row w2 (w.heap.size + 1) 2 _ 31 (0, 0) HB2.out
  have p3 := cell_of_row w2 (w.heap.size + 1) 3 _ 31 (0, 0) HB2.out
  have g0 := frozen_of_row w2 (w.heap.size + 1) 0 _ 31 HB2.out
  have g1 := frozen_of_row w2 (w.heap.size + 1) 1 _ 31 HB2.out
  have g2 := frozen_of_row w2 (w.heap.size + 1) 2 _ 31 HB2.out
  have g3 := frozen_of_row w2 (w.heap.size + 1) 3 _ 31 HB2.out
  simp at a0 a1 a2 a3 p0 p1 p2 p3
  clear hv2 b2 BW HA HB lB
  go_wp2
  have F : Only (fun b => b = w.heap.size ∨ b = w.heap.size + 1) w2 _ := (((((Only.refl (fun b => b = w.heap.size ∨ b = w.heap.size + 1) w2).setCell ⟨w.heap.size, 3, none⟩ (.inl (.inl rfl)) (.slice va ys.length vc)).setCell ⟨w.heap.size + 1, 0, none⟩ (.inl (.inr rfl)) (.int .i64 kd)).setCell ⟨w.heap.size + 1, 1, none⟩ (.inl (.inr rfl)) (.int .i64 cl)).setCell ⟨w.heap.size + 1, 2, none⟩ (.inl (.inr rfl)) (.int .i64 ca)).setCell ⟨w.heap.size + 1, 3, none⟩ (.inl (.inr rfl)) (.slice va ys.length vc)
  refine bodyPost_ret (v := .agg #[.int .i64 kd, .int .i64 cl, .int .i64 ca, .slice va ys.length vc]) (by simp [results, Try.results53, go_sem, p0, p1, p2, p3]) rfl ⟨_, rfl, ?_, ?_⟩
  · exact Hbl2.out.trans_only F (fun n hn => by rcases hn with h | h <;> omega)
  · have this := ownsRow_base (base' := w.heap.size) Hv2.out (fun b hb' => Nat.le_trans hsz (Hv2.out.lt b hb').1)
    refine F.owns this fun b hb' e => ?_
    rcases e with e | e
    · exact own_ne_block this HA2.out (by decide) (by rw [hb', e])
    · exact own_ne_block this HB2.out (by decide) (by rw [hb', e])
end Go.Proofs.Ytbghhbpacijmmaa
