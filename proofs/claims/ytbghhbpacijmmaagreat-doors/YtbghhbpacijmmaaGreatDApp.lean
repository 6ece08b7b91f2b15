-- An append begins; its result is not there yet.
import Derived.Test.YtbghhbpacijmmaaGreatDBeg
namespace Go.Proofs.YtbghhbpacijmmaaGreat
open Go.RowKit
attribute [local go_sem ↓] Go.wp_at_zero Go.wp_at_succ

set_option maxRecDepth 100000 in
set_option maxHeartbeats 400000 in
theorem clone_nil (w : World) : Calls Tryz.prog 87 #[.slice none 0 0] w fun e w' => e = .returned (.slice none 0 0) ∧ w' = w := by
  have hnil := Tryz.nil40
  go_enter Tryz.func87, Tryz.ntmps87
  go_wp2
  go_ret
  exact ⟨rfl, rfl⟩

section
variable {p bm : Nat} {a b c d id : Int} {rs : Value} {ps : List Nat} {K : Nat → Value}
theorem Cs.setCall {w : World} (h : Cs w p bm a b c d id rs ps K) {q : Nat} (hq : q ∈ ps) (j : Nat) (hj : j ≠ 0 ∧ j ≠ 1 ∧ j ≠ 26 ∧ j ≠ 2) (v : Value) : Cs (w.setCell ⟨q, j, none⟩ v) p bm a b c d id rs ps K := by
  obtain ⟨i, hi, rfl⟩ := List.getElem_of_mem hq
  obtain ⟨Q0, q1, _⟩ := h.call i hi
  have O : Only (fun k => k = ps[i]) w (w.setCell ⟨ps[i], j, none⟩ v) := (Only.refl (fun k => k = ps[i]) w).setCell ⟨ps[i], j, none⟩ (.inl rfl) v
  refine ⟨h.at'.only O fun e => h.at'.ne q1 (by decide) e, h.k0, h.k1, h.k2, h.k3, h.k4, h.k7, h.k8, (O.block bm h.blt fun e => q1.ne_map h.mp e.symm).trans h.mp, fun i' hi' => ?_, O.owns h.own fun b e e' => q1.ne_own h.own (by decide) (e' ▸ e)⟩
  obtain ⟨Q, g1, g2, g3, g4⟩ := h.call i' hi'
  by_cases e : ps[i'] = ps[i]
  · rw [e] at g1 ⊢
    exact ⟨_, g1.set j v, (upd_other _ _ _ _ (Ne.symm hj.1)).trans g2, (upd_other _ _ _ _ (Ne.symm hj.2.1)).trans g3, (upd_other _ _ _ _ (Ne.symm hj.2.2.1)).trans g4.1, by
      obtain ⟨l, hl, e2⟩ := g4.2
      exact ⟨l, hl, (upd_other _ _ _ _ (Ne.symm hj.2.2.2)).trans e2⟩⟩
  · exact ⟨Q, g1.only O e, g2, g3, g4⟩

set_option maxRecDepth 100000 in
set_option maxHeartbeats 4000000 in
theorem append_new_in (w : World) (h : Cs w p bm a b c d id rs ps K) (hn : ps.length < 8) (g cc : Nat) (arr : Array Value) (hg : w.heap[g]? = some (.cells arr 5 (0, 0))) (ha : arr[0]? = some (B8 1)) :
    Calls Tryz.prog 45 #[.pointer (some ⟨p, 0, none⟩), .slice (some ⟨g, 0, none⟩) 1 cc] w fun e w' => ∃ q rs' K', e = .returned (.tuple #[.int .i64 ps.length, .int .i64 0]) ∧ Cs w' p bm a b c d id rs' (ps ++ [q]) K' ∧ Only (fun k => k = p ∨ k = bm ∨ rs.ownBlock = some k) w w' ∧ ∀ g, rs'.ownBlock = some g → rs.ownBlock = some g ∨ w.heap.size ≤ g := by
  have HB := hid (begin_new w h hn)
  have hgp : ¬ (g = p ∨ g = bm ∨ rs.ownBlock = some g) := by
    rintro (rfl | rfl | e)
    · obtain ⟨arr', h1, _⟩ := h.at'
      rw [hg] at h1; simp at h1
    · rw [h.mp] at hg; simp at hg
    · exact own_ne_block h.own hg (by decide) e
  have hgl : g < w.heap.size := (Array.getElem?_eq_some_iff.1 hg).1
  clear h
  go_enter Tryz.func45, Tryz.ntmps45
  go_wp2_with fail
  refine HB.out.mono ?_
  rintro e w1 ⟨q, rs', K', rfl, hq, hC, hO, hR⟩
  have hg1 : w1.heap[g]? = some (.cells arr 5 (0, 0)) := (hO.block g hgl hgp).trans hg
  have hbs : Bs w1 (.slice (some ⟨g, 0, none⟩) 1 cc) ([1].map B8) := .inr ⟨⟨g, 0, none⟩, cc, rfl, fun j u hj => by
    have : j = 0 := by
      have := (List.getElem?_eq_some_iff.1 hj).1
      simp at this; omega
    subst this
    rw [add_eq, cell_of_row w1 g _ arr 5 (0, 0) hg1, Nat.zero_add, ha]
    simpa using hj⟩
  have HK := hid (clone_any _ [1] w1 hbs (by decide))
  have hmem : q ∈ ps ++ [q] := by simp
  have hlast : (ps ++ [q])[ps.length]'(by simp) = q := by simp
  have HC := hid hC
  have HO := hid hO
  have HR := hid hR
  clear hR
  clear HB hO hbs hg1 hC hgp
  go_wp2_with fail
  refine HK.out.mono ?_
  rintro e w2 ⟨v', rfl, hb2, hv'⟩
  obtain ⟨g', cap', rfl⟩ := own_shape hv' (by decide)
  have C2 := HC.out.bl hb2
  obtain ⟨Q, q1, q2, q3, q4⟩ := C2.call ps.length (by simp)
  rw [hlast] at q1
  have e1 : w2.cell? ⟨q, 1, none⟩ = some (.int .i64 ps.length) := by rw [q1.cell 1 (by decide), q3]
  have e4 := q1.cell 5 (by decide)
  have e7 := q1.cell 8 (by decide)
  have f4 := q1.frozen 5
  have f7 := q1.frozen 8
  have C4 := hid ((C2.setCall hmem 5 (by decide) (.int .i64 8)).setCall hmem 8 (by decide) (.slice (some ⟨g', 0, none⟩) 1 cap'))
  have O2 := hid ((((HO.out.trans (Only.of_bl hb2)).setCell ⟨q, 5, none⟩ (.inr hq) (.int .i64 8))).setCell ⟨q, 8, none⟩ (.inr hq) (.slice (some ⟨g', 0, none⟩) 1 cap'))
  clear q1 q2 q3 q4 C2 HK hv' hb2 HC
  go_wp2
  go_ret2
  exact ⟨q, rs', K', rfl, C4.out, O2.out, HR.out⟩

set_option maxRecDepth 100000 in
set_option maxHeartbeats 4000000 in
theorem append_new (w : World) (h : Cs w p bm a b c d id rs ps K) (hn : ps.length < 8) (g cc : Nat) (arr : Array Value) (hg : w.heap[g]? = some (.cells arr 5 (0, 0))) (ha : arr[0]? = some (B8 1)) :
    Calls Tryz.prog 18 #[.pointer (some ⟨p, 0, none⟩), .slice (some ⟨g, 0, none⟩) 1 cc] w fun e w' => ∃ q rs' K', e = .returned (.tuple #[.int .i64 ps.length, .int .i64 0]) ∧ Cs w' p bm a b c d id rs' (ps ++ [q]) K' ∧ Only (fun k => k = p ∨ k = bm ∨ rs.ownBlock = some k) w w' ∧ ∀ g, rs'.ownBlock = some g → rs.ownBlock = some g ∨ w.heap.size ≤ g := by
  have HB := hid (append_new_in w h hn g cc arr hg ha)
  clear h hg ha
  go_enter Tryz.func18, Tryz.ntmps18
  go_wp2_with fail
  refine HB.out.mono ?_
  rintro e w1 ⟨q, rs', K', rfl, hC, hs, hR⟩
  go_wp2
  go_ret2
  exact ⟨q, rs', K', rfl, hC, hs, hR⟩

set_option maxRecDepth 100000 in
set_option maxHeartbeats 4000000 in
theorem result_yes_in (w : World) (h : Cs w p bm a b c d id rs ps K) (i : Nat) (hi : i < ps.length) :
    Calls Tryz.prog 50 #[.pointer (some ⟨p, 0, none⟩), .int .i64 i] w fun e w' => e = .returned (.tuple #[.agg #[.int .i64 0, .int .i64 0, .slice none 0 0], .int .i64 0]) ∧ Bl w w' := by
  obtain ⟨g, cap, hrs⟩ : ∃ g cap, rs = .slice (some ⟨g, 0, none⟩) ps.length cap := by
    rcases h.own.2 with ⟨_, h0⟩ | ⟨g, cap, cur, h1, _⟩
    · omega
    · exact ⟨g, cap, h1⟩
  have h7 := h.c7
  subst hrs
  obtain ⟨z0, z1, z2⟩ := zs_flat ps.length i hi g cap h.own
  have hgl := (h.own.lt g rfl).2
  have hlt := h.at'.lt
  have hi0 : (0 : Int) ≤ (i : Int) := by omega
  have hi1 : (i : Int) < (ps.length : Int) := by omega
  have HK := hid clone_nil
  clear h
  go_enter Tryz.func50, Tryz.ntmps50
  go_wp2_with fail
  refine (HK.out _).mono ?_
  rintro e w1 ⟨rfl, rfl⟩
  go_wp2
  (try simp only [Exit.inBlock, Exit.then])
  exact bodyPost_ret (v := .tuple #[.agg #[.int .i64 0, .int .i64 0, .slice none 0 0], .int .i64 0]) (by simp [results, Tryz.results50, go_sem]) rfl ⟨rfl, ((Bl.refl _).alloc _).alloc _⟩

set_option maxRecDepth 100000 in
set_option maxHeartbeats 1000000 in
theorem result_yes (w : World) (h : Cs w p bm a b c d id rs ps K) (i : Nat) (hi : i < ps.length) :
    Calls Tryz.prog 23 #[.pointer (some ⟨p, 0, none⟩), .int .i64 i] w fun e w' => e = .returned (.tuple #[.agg #[.int .i64 0, .int .i64 0, .slice none 0 0], .int .i64 0]) ∧ Bl w w' := by
  have hA := (Bl.refl w).alloc (.cells #[.int .i64 0, .int .i64 0, .slice none 0 0] 43)
  have HC := hid (result_yes_in _ (h.bl hA) i hi)
  go_enter Tryz.func23, Tryz.ntmps23
  go_wp2_with fail
  refine HC.out.mono ?_
  rintro e w' ⟨rfl, hb⟩
  have hN := (hb.heap (b := w.heap.size) (by simp)).trans (heap_alloc_new w _)
  have n0 := cell_of_row w' w.heap.size 0 _ 43 (0, 0) hN
  have n1 := cell_of_row w' w.heap.size 1 _ 43 (0, 0) hN
  have n2 := cell_of_row w' w.heap.size 2 _ 43 (0, 0) hN
  have f0 := frozen_of_row w' w.heap.size 0 _ 43 hN
  have f1 := frozen_of_row w' w.heap.size 1 _ 43 hN
  have f2 := frozen_of_row w' w.heap.size 2 _ 43 hN
  go_wp2
  (try simp only [Exit.inBlock, Exit.then])
  exact bodyPost_ret (v := .tuple #[.agg #[.int .i64 0, .int .i64 0, .slice none 0 0], .int .i64 0]) (by simp [results, Tryz.results23, go_sem, n0, n1, n2]) rfl ⟨rfl, Below.setCell (Below.setCell (Below.setCell (hA.trans hb) (Nat.le_refl _) _) (Nat.le_refl _) _) (Nat.le_refl _) _⟩
end
end Go.Proofs.YtbghhbpacijmmaaGreat
