-- Two replies that are one; is there such a unit; the document's cells are copied.
-- The document's cells are copied.
import Derived.Test.YtkgjpfamjedncaaGreatRefLRefRRefWRefXQ
import Derived.Test.YtkgjpfamjedncaaGreatRefPRefAKeptQ
namespace Go.Proofs.YtkgjpfamjedncaaGreat
open Go.RowKit Go.Maps
attribute [local go_sem ↓] Go.wp_at_zero Go.wp_at_succ

set_option maxRecDepth 100000 in
set_option maxHeartbeats 4000000 in
theorem sameReply_any (wh ep mk kd cl ca : Int) (u v : Value) (ys : List Int) (w : World) (hu : Sl w u (ys.map B8)) (hv : Sl w v (ys.map B8)) :
    Calls Tryz.prog 42 #[reply wh ep mk kd cl ca u, reply wh ep mk kd cl ca v] w fun e w' => e = .returned (.bool true) ∧ Bl w w' := by
  obtain ⟨a, c, e⟩ := hu.len
  obtain ⟨a', c', e'⟩ := hv.len
  have bA := ((((Bl.refl w).alloc (.cells #[.int .i64 wh, .int .i64 ep, .int .i64 mk, .int .i64 kd, .int .i64 cl, .int .i64 ca, u] 98)).alloc (.cells #[.int .i64 wh, .int .i64 ep, .int .i64 mk, .int .i64 kd, .int .i64 cl, .int .i64 ca, v] 98)).alloc (.cells #[.int .i64 kd, .int .i64 cl, .int .i64 ca, u] 42)).alloc (.cells #[.int .i64 kd, .int .i64 cl, .int .i64 ca, v] 42)
  have k1 := conv_any u ys _ (hu.bl bA)
  have k2 := conv_any v ys _ (hv.bl bA)
  have HB := hid bA
  subst e e'
  simp only [List.length_map] at k1 k2 HB ⊢
  clear hu hv bA
  generalize strOf ys = st at *
  unfold reply
  go_enter Tryz.func42, Tryz.ntmps42
  go_wp2
  go_ret
  exact ⟨rfl, HB.out⟩

set_option maxRecDepth 100000 in
set_option maxHeartbeats 1000000 in
theorem isUnit_any (a b c d u : Int) (w : World) :
    Calls Tryz.prog 31 #[.agg #[.int .i64 a, .int .i64 b, .int .i64 c, .int .i64 d], .int .i64 u] w fun e w' => e = .returned (.bool (fit a b c d && decide (0 ≤ u) && decide (u < a * b))) ∧ Bl w w' := by
  have bA := (Bl.refl w).alloc (.cells #[.int .i64 a, .int .i64 b, .int .i64 c, .int .i64 d] 38)
  have HF := hid (fits_any a b c d (w.alloc (.cells #[.int .i64 a, .int .i64 b, .int .i64 c, .int .i64 d] 38)))
  have hN := heap_alloc_new w (.cells #[.int .i64 a, .int .i64 b, .int .i64 c, .int .i64 d] 38)
  obtain ⟨r, hr⟩ : ∃ r, Hid (r = (fit a b c d && decide (0 ≤ u) && decide (u < a * b))) := ⟨_, rfl⟩
  rw [← hr.out]
  have HbA := hid bA
  have HN := hid hN
  cases hf : fit a b c d with
  | false =>
    rw [hf] at HF hr
    clear hf bA hN
    go_enter Tryz.func31, Tryz.ntmps31
    go_wp2_with fail
    refine HF.out.mono ?_
    rintro e w' ⟨rfl, hb⟩
    have HB := hid (HbA.out.trans hb)
    clear HF hb
    go_wp2
    go_ret
    exact ⟨ret_bool (by rw [hr.out]; rfl), HB.out⟩
  | true =>
    obtain ⟨h1, h2, _, _⟩ := fit_bd hf
    obtain ⟨h3, h4⟩ := fit_bd2 hf
    have hm : 1 ≤ a * b ∧ a * b ≤ 9 := by
      have := Int.mul_le_mul h2 h4 (by omega) (by omega)
      have := Int.mul_le_mul h1 h3 (by omega) (by omega)
      omega
    rw [hf] at HF hr
    clear hf bA hN
    by_cases hu : 0 ≤ u
    · have hdu : decide (0 ≤ u) = true := by simpa using hu
      rw [hdu] at hr
      clear hdu
      go_enter Tryz.func31, Tryz.ntmps31
      go_wp2_with fail
      refine HF.out.mono ?_
      rintro e w' ⟨rfl, hb⟩
      have hN' := (hb.heap (by simp)).trans HN.out
      have c0 : w'.cell? ⟨w.heap.size, 0, none⟩ = some (.int .i64 a) := cell_of_row w' w.heap.size 0 _ 38 (0, 0) hN'
      have c1 : w'.cell? ⟨w.heap.size, 1, none⟩ = some (.int .i64 b) := cell_of_row w' w.heap.size 1 _ 38 (0, 0) hN'
      have lN : w.heap.size < w'.heap.size := (Array.getElem?_eq_some_iff.1 hN').1
      have HB := hid (HbA.out.trans hb)
      clear HF hb hN'
      go_wp2
      go_ret
      exact ⟨ret_bool (by rw [hr.out]; simp), HB.out⟩
    · have hdu : decide (0 ≤ u) = false := by simpa using hu
      rw [hdu] at hr
      clear hdu
      go_enter Tryz.func31, Tryz.ntmps31
      go_wp2_with fail
      refine HF.out.mono ?_
      rintro e w' ⟨rfl, hb⟩
      have HB := hid (HbA.out.trans hb)
      clear HF hb
      go_wp2
      go_ret
      exact ⟨ret_bool (by rw [hr.out]; simp), HB.out⟩
end Go.Proofs.YtkgjpfamjedncaaGreat

namespace Go.Proofs.YtkgjpfamjedncaaGreat
open Go.RowKit Go.Maps
attribute [local go_sem ↓] Go.wp_at_zero Go.wp_at_succ

theorem Cw.one {B0 : Nat} {w : World} {y : Nat} {a b c d u ep mk : Int} {lv : Value} {n : Nat} {F : Nat → Wq} (h : Cw B0 w y a b c d u ep mk lv n F) : ∀ q ∈ row5 F n, q.oneCell' = true := by
  have key : ∀ m, m ≤ n → ∀ q ∈ row5 F m, q.oneCell' = true := by
    intro m
    induction m with
    | zero => intro _ q hq; simp [row5] at hq
    | succ m ih =>
      intro hm q hq
      rw [row5, List.mem_append] at hq
      rcases hq with hq | hq
      · exact ih (by omega) q hq
      · simp only [wq5, List.mem_cons, List.not_mem_nil, or_false] at hq
        rcases hq with rfl | rfl | rfl | rfl | rfl
        · rfl
        · rfl
        · rfl
        · rfl
        · exact owns_oneCell (h.val m (by omega))
  exact key n (Nat.le_refl _)
abbrev blank8 : Array Value := #[.int .i64 0, .int .i64 0, .int .i64 0, .int .i64 0, .int .i64 0, .int .i64 0, .int .i64 0, .slice none 0 0]
theorem row8 {W : World} {g : Nat} {t : TypeId} {x0 x1 x2 x3 x4 x5 x6 x7 : Value} (h : W.heap[g]? = some (.cells #[x0, x1, x2, x3, x4, x5, x6, x7] t (0, 0))) : (W.cell? ⟨g, 0, none⟩ = some x0 ∧ W.cell? ⟨g, 1, none⟩ = some x1 ∧ W.cell? ⟨g, 2, none⟩ = some x2 ∧ W.cell? ⟨g, 3, none⟩ = some x3 ∧ W.cell? ⟨g, 4, none⟩ = some x4 ∧ W.cell? ⟨g, 5, none⟩ = some x5 ∧ W.cell? ⟨g, 6, none⟩ = some x6 ∧ W.cell? ⟨g, 7, none⟩ = some x7) ∧ (W.frozen? ⟨g, 0, none⟩ = false ∧ W.frozen? ⟨g, 1, none⟩ = false ∧ W.frozen? ⟨g, 2, none⟩ = false ∧ W.frozen? ⟨g, 3, none⟩ = false ∧ W.frozen? ⟨g, 4, none⟩ = false ∧ W.frozen? ⟨g, 5, none⟩ = false ∧ W.frozen? ⟨g, 6, none⟩ = false ∧ W.frozen? ⟨g, 7, none⟩ = false) :=
  ⟨⟨cell_of_row W g 0 _ t (0, 0) h, cell_of_row W g 1 _ t (0, 0) h, cell_of_row W g 2 _ t (0, 0) h, cell_of_row W g 3 _ t (0, 0) h, cell_of_row W g 4 _ t (0, 0) h, cell_of_row W g 5 _ t (0, 0) h, cell_of_row W g 6 _ t (0, 0) h, cell_of_row W g 7 _ t (0, 0) h⟩, frozen_of_row W g 0 _ t h, frozen_of_row W g 1 _ t h, frozen_of_row W g 2 _ t h, frozen_of_row W g 3 _ t h, frozen_of_row W g 4 _ t h, frozen_of_row W g 5 _ t h, frozen_of_row W g 6 _ t h, frozen_of_row W g 7 _ t h⟩

set_option maxRecDepth 100000 in
set_option maxHeartbeats 4000000 in
theorem refCopied_any (B0 y : Nat) (a b c d u ep mk : Int) (lv : Value) (n : Nat) (F : Nat → Wq) (w : World) (h : Cw B0 w y a b c d u ep mk lv n F) (hn : n ≤ 4000000) :
    Calls Tryz.prog 39 #[.pointer (some ⟨y, 0, none⟩)] w fun en w' => ∃ ca cc, en = .returned (.agg #[.int .i64 a, .int .i64 b, .int .i64 c, .int .i64 d, .int .i64 u, .int .i64 ep, .int .i64 mk, .slice ca n cc]) ∧ Bl w w' ∧ w'.ownsRow w.heap.size 137 5 (.slice ca n cc) n (row5 F n) := by
  obtain ⟨i137, j137, t0, t1, t2⟩ := info_parts Tryz.info137
  have ly := h.lt
  have bA := (Bl.refl w).alloc (.cells blank8 77)
  have hA := h.bl bA
  obtain ⟨k0, k1, k2, k3, k4, k5, k6, k7, _⟩ := h.cells
  have HN := hid (heap_alloc_new w (.cells blank8 77))
  obtain ⟨la, lc, hlv⟩ : ∃ la lc, lv = .slice la n lc := by
    rcases h.own.2 with ⟨e, e'⟩ | ⟨g, cap, cur, e, _⟩
    · exact ⟨_, _, by rw [e, e']⟩
    · exact ⟨_, _, e⟩
  subst hlv
  have HA := hid hA.own
  have H1c := hid h.one
  have HK := hid (And.intro k0 (And.intro k1 (And.intro k2 (And.intro k3 (And.intro k4 (And.intro k5 k6))))))
  have HbA := hid bA
  have nyN : ¬ y = w.heap.size := by omega
  have hm1 : Hid (0 + n ≤ maxLen) := by unfold Hid maxLen; omega
  have hb1 : Hid ((0 + n) * 56 ≤ 140737488355328) := by unfold Hid; omega
  clear h hA bA k0 k1 k2 k3 k4 k5 k6
  go_enter Tryz.func39, Tryz.ntmps39
  go_wp2_with (at_builtin; refine wpList_append_row _ rfl _ _ 75 rfl w.heap.size 137 i137 _ 5 56 Tryz.underlying75 j137 t0 t1 t2 rfl (by decide) _ 0 [] rfl (World.ownsRow_nil _ _ _ _) _ n B0 _ rfl HA.out H1c.out hm1.out hb1.out (by simp) ?_)
  intro lw w1 r1 r2 r3
  have b1 := HbA.out.trans (r2.to_bl fun k _ e => by simp [Value.ownBlock] at e)
  have hN1 := ((r2.to_bl fun k _ e => by simp [Value.ownBlock] at e).heap (by simp)).trans HN.out
  have r1' : w1.ownsRow w.heap.size 137 5 lw n (row5 F n) := by simpa using r1
  obtain ⟨ca, cc, hlc⟩ : ∃ ca cc, lw = .slice ca n cc := by
    rcases r1'.2 with ⟨e, e'⟩ | ⟨g, cap, cur, e, _⟩
    · exact ⟨_, _, by rw [e, e']⟩
    · exact ⟨_, _, e⟩
  subst hlc
  obtain ⟨⟨n0, n1, n2, n3, n4, n5, n6, n7⟩, f0, f1, f2, f3, f4, f5, f6, f7⟩ := row8 hN1
  obtain ⟨k0, k1, k2, k3, k4, k5, k6⟩ := HK.out
  have m0 := (b1.cell ly).trans k0
  have m1 := (b1.cell ly).trans k1
  have m2 := (b1.cell ly).trans k2
  have m3 := (b1.cell ly).trans k3
  have m4 := (b1.cell ly).trans k4
  have m5 := (b1.cell ly).trans k5
  have m6 := (b1.cell ly).trans k6
  have ly1 := Nat.lt_of_lt_of_le ly b1.lt
  have lN : w.heap.size < w1.heap.size := (Array.getElem?_eq_some_iff.1 hN1).1
  have nNy : ¬ w.heap.size = y := by omega
  have HB1 := hid b1
  have HR1 : Hid (w1.ownsRow w.heap.size 137 5 (.slice ca n cc) n (row5 F n)) := r1'
  have HN1 := hid hN1
  clear r1 r1' r2 r3 b1 hN1 k0 k1 k2 k3 k4 k5 k6 k7
  go_upto_region 3 with fail
  go_region_held3 (fun W => W.cell? ⟨y, 0, none⟩ = some (.int .i64 a) ∧ W.cell? ⟨y, 1, none⟩ = some (.int .i64 b) ∧ W.cell? ⟨y, 2, none⟩ = some (.int .i64 c) ∧ W.cell? ⟨y, 3, none⟩ = some (.int .i64 d) ∧ W.cell? ⟨y, 4, none⟩ = some (.int .i64 u) ∧ W.cell? ⟨y, 5, none⟩ = some (.int .i64 ep) ∧ W.cell? ⟨y, 6, none⟩ = some (.int .i64 mk)) (go_keep) (fail)
  all_goals
    go_wp2
    have Z := ((((((((Only.refl (fun b => b = w.heap.size) w1).setCell ⟨w.heap.size, 0, none⟩ (.inl rfl) (.int .i64 a)).setCell ⟨w.heap.size, 1, none⟩ (.inl rfl) (.int .i64 b)).setCell ⟨w.heap.size, 2, none⟩ (.inl rfl) (.int .i64 c)).setCell ⟨w.heap.size, 3, none⟩ (.inl rfl) (.int .i64 d)).setCell ⟨w.heap.size, 4, none⟩ (.inl rfl) (.int .i64 u)).setCell ⟨w.heap.size, 5, none⟩ (.inl rfl) (.int .i64 ep)).setCell ⟨w.heap.size, 6, none⟩ (.inl rfl) (.int .i64 mk)).setCell ⟨w.heap.size, 7, none⟩ (.inl rfl) (.slice ca n cc)
    have hB := HB1.out.trans_only Z fun n e => by omega
    have hR := Z.owns HR1.out fun b hb e => own_ne_block HR1.out HN1.out (by decide) (by rw [hb, e])
    exact bodyPost_ret (v := .agg #[.int .i64 a, .int .i64 b, .int .i64 c, .int .i64 d, .int .i64 u, .int .i64 ep, .int .i64 mk, .slice ca n cc]) (by simp [results, Tryz.results39, go_sem, n0, n1, n2, n3, n4, n5, n6, n7]) rfl ⟨ca, cc, rfl, hB.drew, (Only.of_bl (S := fun _ => False) (Bl.refl _).drew).owns hR fun _ _ e => e⟩
end Go.Proofs.YtkgjpfamjedncaaGreat
