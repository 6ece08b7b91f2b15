-- A client is made.
import Derived.Test.YtnhjmiglegdamaaGreatKPoolSFirstKPickKOut0Q
import Derived.Deep.DeepCutAuto
namespace Go.Proofs.YtnhjmiglegdamaaGreat
open Go.RowKit
attribute [local go_sem ↓] Go.wp_at_zero Go.wp_at_succ
theorem make98 (w : World) : (Instr.makeMap 98 none).run Tryz.prog w = .ok (.map (some w.heap.size)) (w.alloc (.map #[] 0)) := by kernel_rfl
/-- A client that was made: its block, its map, its layout. -/
def MadeL (B : Nat) (w : World) (t : TypeId) (p : Nat) (n m : Nat) (vo ce id : Int) : Prop :=
  ∃ g bm, B ≤ bm ∧ B ≤ p ∧ w.heap[p]? = some (.cells (cliL n m vo ce id (.slice (some ⟨g, 0, none⟩) n n) (.slice none 0 0) bm 0 PQ.zero (.slice none 0 0) (.slice none 0 0) (.map none)).toArray t (0, 0)) ∧ w.heap[bm]? = some (.map #[] 0) ∧ ∀ (tag : Nat → Nat) (tc : Nat), (∀ b, B ≤ b → tag b = tc) → LayOk w tag tc (.slice (some ⟨g, 0, none⟩) n n) n m
theorem madeL_of (B : Nat) (W : World) (t : TypeId) (arr : Array Value) (g bm : Nat) (n m : Nat) (vo ce id : Int) (ha : arr = (cliL n m vo ce id (.slice (some ⟨g, 0, none⟩) n n) (.slice none 0 0) bm 0 PQ.zero (.slice none 0 0) (.slice none 0 0) (.map none)).toArray) (hm : W.heap[bm]? = some (.map #[] 0)) (p : Nat) (hp : p = W.heap.size) (hB : B ≤ bm) (hBW : B ≤ W.heap.size) (hL : ∀ (tag : Nat → Nat) (tc : Nat), (∀ b, B ≤ b → tag b = tc) → LayOk W tag tc (.slice (some ⟨g, 0, none⟩) n n) n m) :
    MadeL B (W.alloc (.cells arr t)) t p n m vo ce id := by
  subst hp
  subst ha
  have hlt : bm < W.heap.size := (Array.getElem?_eq_some_iff.1 hm).1
  exact ⟨g, bm, hB, hBW, heap_alloc_new W _, (heap_alloc_old W _ hlt).trans hm, fun tag tc ht => (hL tag tc ht).only (Only.of_bl (S := fun _ => False) ((Bl.refl W).alloc _)) (fun _ _ _ e => e.elim) (fun _ _ e => e)⟩
set_option maxRecDepth 100000 in
set_option maxHeartbeats 4000000 in
theorem newL_yes (n m : Nat) (c d x : Int) (w : World) (hf : fit n m c d = true) (h0 : 1000 ≤ x) (h1 : x ≤ 1099) :
    Calls Tryz.prog 43 #[cfg n m c d, .int .i64 x] w fun e w' => (∃ p, e = .returned (.tuple #[.pointer (some ⟨p, 0, none⟩), .int .i64 0]) ∧ MadeL w.heap.size w' 112 p n m c d x) ∧ Bl w w' := by
  have HV := hid (valid_any n m c d)
  rw [hf] at HV
  obtain ⟨f1, f2, f3, f4⟩ := fit_bd hf
  obtain ⟨f5, f6⟩ := fit_bd2 hf
  have HF := hid (fun w => firstL_any n m c d w (by omega) (by omega) (by omega) (by omega))
  have hA := (Bl.refl w).alloc (.cells #[.int .i64 n, .int .i64 m, .int .i64 c, .int .i64 d] 27)
  have hN : (w.alloc (.cells #[.int .i64 n, .int .i64 m, .int .i64 c, .int .i64 d] 27)).heap[w.heap.size]? = some (.cells #[.int .i64 n, .int .i64 m, .int .i64 c, .int .i64 d] 27 (0, 0)) := heap_alloc_new w _
  clear hf
  go_enter Tryz.func43, Tryz.ntmps43
  go_wp2_with fail
  refine (HV.out _).mono ?_
  rintro e w' ⟨rfl, hb⟩
  have hN1 := (hb.heap (b := w.heap.size) (by simp)).trans hN
  have c0 : w'.cell? ⟨w.heap.size, 0, none⟩ = some (.int .i64 n) := cell_of_row w' w.heap.size 0 _ 27 (0, 0) hN1
  have c1 : w'.cell? ⟨w.heap.size, 1, none⟩ = some (.int .i64 m) := cell_of_row w' w.heap.size 1 _ 27 (0, 0) hN1
  have c2 : w'.cell? ⟨w.heap.size, 2, none⟩ = some (.int .i64 c) := cell_of_row w' w.heap.size 2 _ 27 (0, 0) hN1
  have c3 : w'.cell? ⟨w.heap.size, 3, none⟩ = some (.int .i64 d) := cell_of_row w' w.heap.size 3 _ 27 (0, 0) hN1
  have hbW := hA.trans hb
  have hlt : w.heap.size < w'.heap.size := (Array.getElem?_eq_some_iff.1 hN1).1
  clear hN hN1 hA hb
  have hmk := make98
  go_upto_region 3 with fail
  go_cut [4, 5] (fun r e wx => ∃ p, r = .pointer (some ⟨p, 0, none⟩) ∧ e = .int .i64 0 ∧ MadeL w.heap.size wx 112 p n m c d x ∧ Bl w wx)
  case first =>
    go_region_with (go_at_call 81; refine (HF.out _).mono ?_; rintro e w2 ⟨g, rfl, hb2, hL2⟩; have hb3 : Bl w' w2 := Bl.trans (by repeat (first | exact Bl.refl _ | refine Bl.drew ?_ | refine Bl.drewN ?_ _ | refine Bl.alloc ?_ _)) hb2; have e0 := (hb3.cell hlt).trans c0; have e1 := (hb3.cell hlt).trans c1; have e2 := (hb3.cell hlt).trans c2; have e3 := (hb3.cell hlt).trans c3; have hlt2 : w.heap.size < w2.heap.size := Nat.lt_of_lt_of_le hlt hb3.lt; have HL2 := hid (fun (tag : Nat → Nat) (tc : Nat) (ht : ∀ b, w.heap.size ≤ b → tag b = tc) => hL2 tag tc (fun b hb => ht b (Nat.le_trans hbW.lt (Nat.le_trans (Bl.lt (w := w') (by repeat (first | exact Bl.refl _ | refine Bl.drew ?_ | refine Bl.drewN ?_ _ | refine Bl.alloc ?_ _))) hb)))); clear hL2)
    all_goals
      go_wp2_with fail
      go_meet
      refine ⟨_, rfl, rfl, madeL_of _ _ 112 _ g _ _ _ _ _ _ rfl ?_ _ (by first | rfl | simp) ?_ ?_ ?_, ?_⟩
      · first
          | exact heap_alloc_new _ _
          | exact (hb2.heap (b := w'.heap.size) (by simp)).trans (heap_alloc_new _ _)
          | exact (hb2.heap (b := w'.heap.size) (by simp)).trans (heap_alloc_new w'.drew _)
          | exact (hb2.heap (b := w'.heap.size) (by simp)).trans (heap_alloc_new w' _)
      · first
          | exact Nat.le_trans hbW.lt hb3.lt
          | exact hbW.lt
      · first
          | exact Nat.le_trans hbW.lt (Nat.le_trans hb3.lt (by simp))
          | exact Nat.le_trans hbW.lt hb3.lt
      · intro tag tc ht
        first
          | exact HL2.out tag tc ht
          | exact (HL2.out tag tc ht).only (Only.of_bl (S := fun _ => False) ((Bl.refl _).alloc _)) (fun _ _ _ e => e.elim) (fun _ _ e => e)
      · first
          | exact ((hbW.trans hb3).alloc _).alloc _
          | exact (hbW.trans hb3).alloc _
  case rest =>
    obtain ⟨p, rfl, rfl, hM, hB⟩ := hcut
    go_wp2
    go_ret2
    exact ⟨⟨p, rfl, hM⟩, hB⟩
end Go.Proofs.YtnhjmiglegdamaaGreat
