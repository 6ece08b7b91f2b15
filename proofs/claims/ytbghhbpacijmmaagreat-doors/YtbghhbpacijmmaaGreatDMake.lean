-- A client is made.
import Derived.Test.YtbghhbpacijmmaaGreatDNew
import Derived.Deep.DeepCutAuto
namespace Go.Proofs.YtbghhbpacijmmaaGreat
open Go.RowKit
attribute [local go_sem ↓] Go.wp_at_zero Go.wp_at_succ

/-- The block of a client that was made, and its map. -/
def Made (B : Nat) (w : World) (t : TypeId) (p : Nat) (a b c d id : Int) : Prop :=
  ∃ bm K, B ≤ bm ∧ At 55 t w p K ∧ K 0 = .int .i64 a ∧ K 1 = .int .i64 b ∧ K 2 = .int .i64 c ∧ K 3 = .int .i64 d ∧ K 4 = .int .i64 id ∧ K 7 = .slice none 0 0 ∧ K 8 = .map (some bm) ∧ w.heap[bm]? = some (.map #[] 0)

theorem made_of (B : Nat) (W : World) (t : TypeId) (arr : Array Value) (bm : Nat) (a b c d id : Int) (hs : arr.size = 55) (h0 : arr[0]? = some (.int .i64 a)) (h1 : arr[1]? = some (.int .i64 b)) (h2 : arr[2]? = some (.int .i64 c)) (h3 : arr[3]? = some (.int .i64 d)) (h4 : arr[4]? = some (.int .i64 id)) (h7 : arr[7]? = some (.slice none 0 0)) (h8 : arr[8]? = some (.map (some bm))) (hm : W.heap[bm]? = some (.map #[] 0)) (p : Nat) (hp : p = W.heap.size) (hB : B ≤ bm) :
    Made B (W.alloc (.cells arr t)) t p a b c d id := by
  subst hp
  have hlt : bm < W.heap.size := (Array.getElem?_eq_some_iff.1 hm).1
  refine ⟨bm, fun i => (arr[i]?).getD undef, hB, ⟨arr, heap_alloc_new W _, fun i hi => ?_⟩, by simp [h0], by simp [h1], by simp [h2], by simp [h3], by simp [h4], by simp [h7], by simp [h8], (heap_alloc_old W _ hlt).trans hm⟩
  simp [Array.getElem?_eq_getElem (show i < arr.size by omega)]

theorem make98 (w : World) : (Instr.makeMap 98 none).run Tryz.prog w = .ok (.map (some w.heap.size)) (w.alloc (.map #[] 0)) := by kernel_rfl

set_option maxRecDepth 100000 in
set_option maxHeartbeats 4000000 in
theorem new_yes (n m : Nat) (c d x : Int) (w : World) (hf : fit n m c d = true) (h0 : 1000 ≤ x) (h1 : x ≤ 1099) :
    Calls Tryz.prog 43 #[cfg n m c d, .int .i64 x] w fun e w' => (∃ p, e = .returned (.tuple #[.pointer (some ⟨p, 0, none⟩), .int .i64 0]) ∧ Made w.heap.size w' 112 p n m c d x) ∧ Bl w w' := by
  have HV := hid (valid_any n m c d)
  rw [hf] at HV
  obtain ⟨f1, f2, f3, f4⟩ := fit_bd hf
  obtain ⟨f5, f6⟩ := fit_bd2 hf
  have HF := hid (fun w => first_any n m c d w (by omega) (by omega) (by omega) (by omega))
  have hA := (Bl.refl w).alloc (.cells #[.int .i64 n, .int .i64 m, .int .i64 c, .int .i64 d] 27)
  have hN : (w.alloc (.cells #[.int .i64 n, .int .i64 m, .int .i64 c, .int .i64 d] 27)).heap[w.heap.size]? = some (.cells #[.int .i64 n, .int .i64 m, .int .i64 c, .int .i64 d] 27 (0, 0)) := heap_alloc_new w _
  clear hf
  go_enter Tryz.func43, Tryz.ntmps43
  go_wp2_with fail
  refine (HV.out _).mono ?_
  rintro e w' ⟨rfl, hb⟩
  have hN1 := (hb.heap (b := w.heap.size) (by simp)).trans hN
  have c0 : w'.cell? ⟨w.heap.size, 0, none⟩ = some (.int .i64 n) := cell_of_row w' w.heap.size 0 _ 27 (0, 0) hN1
  have c1 : w'.cell? ⟨w.heap.size, 1, none⟩ = some (.int .i64 m) := cell_of_row w' w.heap.size 1 _ 27 (0, 0) hN1
  have c2 : w'.cell? ⟨w.heap.size, 2, none⟩ = some (.int .i64 c) := cell_of_row w' w.heap.size 2 _ 27 (0, 0) hN1
  have c3 : w'.cell? ⟨w.heap.size, 3, none⟩ = some (.int .i64 d) := cell_of_row w' w.heap.size 3 _ 27 (0, 0) hN1
  have hbW := hA.trans hb
  have hlt : w.heap.size < w'.heap.size := (Array.getElem?_eq_some_iff.1 hN1).1
  clear hN hN1 hA hb
  have hmk := make98
  go_upto_region 3 with fail
  go_cut [4, 5] (fun r e wx => ∃ p, r = .pointer (some ⟨p, 0, none⟩) ∧ e = .int .i64 0 ∧ Made w.heap.size wx 112 p n m c d x ∧ Bl w wx)
  case first =>
    go_region_with (go_at_call 81; refine (HF.out _).mono ?_; rintro e w2 ⟨g, rfl, hb2⟩; have hb3 : Bl w' w2 := Bl.trans (by first | exact Bl.refl _ | exact (Bl.refl _).drew | exact ((Bl.refl _).drew).alloc _ | exact (Bl.refl _).alloc _ | exact (Bl.refl _).drewN _ | exact ((Bl.refl _).drewN _).alloc _) hb2; have e0 := (hb3.cell hlt).trans c0; have e1 := (hb3.cell hlt).trans c1; have e2 := (hb3.cell hlt).trans c2; have e3 := (hb3.cell hlt).trans c3; have hlt2 : w.heap.size < w2.heap.size := Nat.lt_of_lt_of_le hlt hb3.lt)
    all_goals
      go_wp2_with fail
      go_meet
      refine ⟨_, rfl, rfl, made_of _ _ 112 _ _ _ _ _ _ _ rfl rfl rfl rfl rfl rfl rfl rfl ?_ _ (by first | rfl | simp) ?_, ?_⟩
      · first
          | exact heap_alloc_new _ _
          | exact (hb2.heap (b := w'.heap.size) (by simp)).trans (heap_alloc_new _ _)
          | exact (hb2.heap (b := w'.heap.size) (by simp)).trans (heap_alloc_new w'.drew _)
      · first
          | exact Nat.le_trans hbW.lt hb3.lt
          | exact hbW.lt
      · first
          | exact ((hbW.trans hb3).alloc _).alloc _
          | exact (hbW.trans hb3).alloc _
  case rest =>
    obtain ⟨p, rfl, rfl, hM, hB⟩ := hcut
    go_wp2
    go_ret2
    exact ⟨⟨p, rfl, hM⟩, hB⟩
end Go.Proofs.YtbghhbpacijmmaaGreat
