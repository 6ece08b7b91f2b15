-- What is told of an address.
import Derived.Test.YtbghhbpacijmmaaReach
namespace Go.Proofs.Ytbghhbpacijmmaa
open Go.RowKit
attribute [local go_sem ↓] Go.wp_at_zero Go.wp_at_succ

/-- What is told of an address: the answer, a mark, a content. -/
def lookC (a b c d ch mk : Int) (ct : Nat → Ct) (x : Int) : Int × Int × Ct :=
  if (loc a b c d x).2.2 ≠ 0 ∨ (loc a b c d x).1 ≠ ch then (6, 0, ⟨0, 0, 0, []⟩)
  else if x < mk then (4, mk, { ct (loc a b c d x).2.1.toNat with val := [] })
  else if (ct (loc a b c d x).2.1.toNat).kd = 0 then (3, 0, ⟨0, 0, 0, []⟩)
  else (2, 0, ct (loc a b c d x).2.1.toNat)

theorem loc_cell {a b c d x : Int} (h : (loc a b c d x).2.2 = 0) : ∃ i : Nat, i < 16 ∧ loc a b c d x = ((loc a b c d x).1, (i : Int), 0) := by
  unfold loc at h ⊢
  by_cases hf : fit a b c d = true
  · rw [if_pos hf] at h ⊢
    by_cases hx : x < 0 ∨ a * d ≤ x
    · rw [if_pos hx] at h; simp at h
    · rw [if_neg hx]
      obtain ⟨h1, h2, h3, h4⟩ := fit_bd hf
      have hd : x / a < 16 := by
        refine Int.ediv_lt_of_lt_mul (by omega) ?_
        have := Int.mul_le_mul_of_nonneg_left h4 (show 0 ≤ a by omega)
        rw [Int.mul_comm 16 a]; omega
      have hd0 : 0 ≤ x / a := Int.ediv_nonneg (by omega) (by omega)
      refine ⟨(x / a).toNat, by omega, ?_⟩
      rw [Int.toNat_of_nonneg hd0]
  · rw [if_neg hf] at h; simp at h

/-- An answer that is not given yet. -/
def blank : Array Value := #[.int .i64 0, .int .i64 0, .int .i64 0, .int .i64 0, .int .i64 0, .int .i64 0, .slice none 0 0]
theorem blank_row {w : World} {g : Nat} (h : w.heap[g]? = some (.cells blank 34 (0, 0))) :
    w.cell? ⟨g, 0, none⟩ = some (.int .i64 0) ∧ w.cell? ⟨g, 1, none⟩ = some (.int .i64 0) ∧ w.cell? ⟨g, 2, none⟩ = some (.int .i64 0) ∧ w.cell? ⟨g, 3, none⟩ = some (.int .i64 0) ∧ w.cell? ⟨g, 4, none⟩ = some (.int .i64 0) ∧ w.cell? ⟨g, 5, none⟩ = some (.int .i64 0) ∧ w.cell? ⟨g, 6, none⟩ = some (.slice none 0 0) ∧
    w.frozen? ⟨g, 0, none⟩ = false ∧ w.frozen? ⟨g, 1, none⟩ = false ∧ w.frozen? ⟨g, 2, none⟩ = false ∧ w.frozen? ⟨g, 3, none⟩ = false ∧ w.frozen? ⟨g, 4, none⟩ = false ∧ w.frozen? ⟨g, 5, none⟩ = false ∧ w.frozen? ⟨g, 6, none⟩ = false := by
  refine ⟨?_, ?_, ?_, ?_, ?_, ?_, ?_, ?_, ?_, ?_, ?_, ?_, ?_, ?_⟩
  all_goals first | exact frozen_of_row w g _ _ 34 h | (rw [cell_of_row w g _ _ 34 (0, 0) h]; rfl)
/-- Seven cells of a block are set. -/
theorem Only.set7 {S : Nat → Prop} {w : World} {g : Nat} (hg : S g) (u0 u1 u2 u3 u4 u5 u6 : Value) : Only S w (((((((w.setCell ⟨g, 0, none⟩ u0).setCell ⟨g, 1, none⟩ u1).setCell ⟨g, 2, none⟩ u2).setCell ⟨g, 3, none⟩ u3).setCell ⟨g, 4, none⟩ u4).setCell ⟨g, 5, none⟩ u5).setCell ⟨g, 6, none⟩ u6) :=
  (((((((Only.refl S w).setCell ⟨g, 0, none⟩ (.inl hg) u0).setCell ⟨g, 1, none⟩ (.inl hg) u1).setCell ⟨g, 2, none⟩ (.inl hg) u2).setCell ⟨g, 3, none⟩ (.inl hg) u3).setCell ⟨g, 4, none⟩ (.inl hg) u4).setCell ⟨g, 5, none⟩ (.inl hg) u5).setCell ⟨g, 6, none⟩ (.inl hg) u6

set_option maxRecDepth 100000 in
set_option maxHeartbeats 2000000 in
theorem look_any (base p : Nat) (a b c d ch ep mk : Int) (ct : Nat → Ct) (img : List Int) (K : Nat → Value) (x : Int) (w : World) (h : Ks base w p a b c d ch ep mk ct img K) (hl : ∀ i, i < 16 → (ct i).val.length ≤ 255) :
    Calls Try.prog 34 #[.pointer (some ⟨p, 0, none⟩), .int .i64 x] w fun e w' => ∃ v', e = .returned (reply (lookC a b c d ch mk ct x).1 0 (lookC a b c d ch mk ct x).2.1 (lookC a b c d ch mk ct x).2.2.kd (lookC a b c d ch mk ct x).2.2.cl (lookC a b c d ch mk ct x).2.2.ca v') ∧ w'.ownsRow w.heap.size 5 1 v' (lookC a b c d ch mk ct x).2.2.val.length ((lookC a b c d ch mk ct x).2.2.val.map B8) ∧ Bl w w' := by
  have H := hid h
  have Hl := hid hl
  have hp := h.at'.lt
  have c0 := h.at'.cell 0 (by decide)
  have c1 := h.at'.cell 1 (by decide)
  have c2 := h.at'.cell 2 (by decide)
  have c3 := h.at'.cell 3 (by decide)
  have c4 := h.at'.cell 4 (by decide)
  have c6 := h.at'.cell 6 (by decide)
  rw [h.k0] at c0; rw [h.k1] at c1; rw [h.k2] at c2; rw [h.k3] at c3; rw [h.k4] at c4; rw [h.k6] at c6
  clear h hl
  by_cases hbad : (loc a b c d x).2.2 ≠ 0 ∨ (loc a b c d x).1 ≠ ch
  · have F : Hid (lookC a b c d ch mk ct x = (6, 0, ⟨0, 0, 0, []⟩)) := by unfold Hid lookC; rw [if_pos hbad]
    rw [F.out]
    have hbd : Hid (((loc a b c d x).2.2 == 0) = false ∨ ((loc a b c d x).2.2 == 0) = true ∧ ((loc a b c d x).1 == ch) = false) := by
      unfold Hid
      by_cases h0 : (loc a b c d x).2.2 = 0
      · right; simp [h0]; rcases hbad with h | h
        · exact absurd h0 h
        · exact h
      · left; simpa using h0
    clear hbad
    go_enter Try.func34, Try.ntmps34
    go_wp2_with fail
    refine (locate_any a b c d x _).mono ?_
    unfold tup
    generalize loc a b c d x = l at *
    obtain ⟨l1, l2, l3⟩ := l
    rintro e w' ⟨rfl, hbl⟩
    simp only at hbd ⊢
    have d4 := (hbl.cell (b := p) (o := 4) (by simp; omega)).trans ((((Bl.refl w).alloc _).cell hp).trans c4)
    obtain ⟨n0, n1, n2, n3, n4, n5, n6, f0, f1, f2, f3, f4, f5, f6⟩ := blank_row ((hbl.heap (by simp)).trans (heap_alloc_new w (.cells blank 34)))
    have HB := hid (((Bl.refl w).alloc _).trans hbl)
    clear hbl c0 c1 c2 c3 c4 c6
    rcases hbd.out with hz | ⟨hz, hy⟩
    all_goals
      clear hbd
      go_wp2
    all_goals
      exact bodyPost_ret (v := reply 6 0 0 0 0 0 (.slice none 0 0)) (by simp [results, Try.results34, go_sem, reply, n0, n1, n2, n3, n4, n5, n6]) rfl ⟨_, rfl, World.ownsRow_nil _ _ _ _, HB.out.trans_only (Only.set7 (S := fun b => b = w.heap.size) rfl _ _ _ _ _ _ _) (fun n e => Nat.le_of_eq e.symm)⟩
  · have h0 : (loc a b c d x).2.2 = 0 := by
      rcases Int.decEq (loc a b c d x).2.2 0 with h | h
      · exact absurd (.inl h) hbad
      · exact h
    have hch : (loc a b c d x).1 = ch := by
      rcases Int.decEq (loc a b c d x).1 ch with h | h
      · exact absurd (.inr h) hbad
      · exact h
    obtain ⟨i, hi, hloc⟩ := loc_cell h0
    rw [hch] at hloc
    have F : Hid (lookC a b c d ch mk ct x = if x < mk then (4, mk, { ct i with val := [] }) else if (ct i).kd = 0 then (3, 0, ⟨0, 0, 0, []⟩) else (2, 0, ct i)) := by
      unfold Hid lookC; rw [if_neg hbad, hloc]; simp
    have q0 := (H.out.at'.cell (7 + 4 * i) (by omega)).trans (congrArg some (H.out.kd i hi))
    have q1 := (H.out.at'.cell (8 + 4 * i) (by omega)).trans (congrArg some (H.out.cl i hi))
    have q2 := (H.out.at'.cell (9 + 4 * i) (by omega)).trans (congrArg some (H.out.ca i hi))
    have q3 := H.out.at'.cell (10 + 4 * i) (by omega)
    rw [show 7 + 4 * i = 7 + i * 4 by omega] at q0
    rw [show 8 + 4 * i = 7 + i * 4 + 1 by omega] at q1
    rw [show 9 + 4 * i = 7 + i * 4 + 2 by omega] at q2
    have e10 : 10 + 4 * i = 7 + i * 4 + 3 := by omega
    have Hv := hid (ownsRow_bs (H.out.val i hi))
    obtain ⟨va, vc, ev⟩ := Hv.out.len
    rw [List.length_map] at ev
    rw [ev] at q3 Hv
    rw [e10] at q3
    have Hli := hid (Hl.out i hi)
    clear hbad h0 hch ev e10
    rw [F.out]
    clear F
    generalize ct i = t at *
    obtain ⟨tk, tl, ta, tv⟩ := t
    simp only at Hli Hv q0 q1 q2 q3 ⊢
    by_cases hx : x < mk
    · rw [if_pos hx]
      simp only
      go_enter Try.func34, Try.ntmps34
      go_wp2_with fail
      refine (locate_any a b c d x _).mono ?_
      rw [hloc]
      unfold tup
      rintro e w' ⟨rfl, hbl⟩
      have HB := hid (((Bl.refl w).alloc _).trans hbl)
      have d4 := (HB.out.cell hp).trans c4
      have d6 := (HB.out.cell hp).trans c6
      have r0 := (HB.out.cell hp).trans q0
      have r1 := (HB.out.cell hp).trans q1
      have r2 := (HB.out.cell hp).trans q2
      have r3 := (HB.out.cell hp).trans q3
      have HN := hid ((hbl.heap (by simp)).trans (heap_alloc_new w (.cells blank 34)))
      have lN : w.heap.size < w'.heap.size := (Array.getElem?_eq_some_iff.1 HN.out).1
      have lP : p < w'.heap.size := Nat.lt_trans hp lN
      clear hbl c0 c1 c2 c3 c4 c6 q0 q1 q2 q3 hloc
      have i16 : (i : Int) < 16 := by omega
      obtain ⟨n0, n1, n2, n3, n4, n5, n6, f0, f1, f2, f3, f4, f5, f6⟩ := blank_row HN.out
      go_wp2
      go_region
      all_goals
        go_wp2
      all_goals
        exact bodyPost_ret (v := reply 4 0 mk tk tl ta (.slice none 0 0)) (by simp [results, Try.results34, go_sem, reply, n0, n1, n2, n3, n4, n5, n6, lN]) rfl ⟨_, rfl, World.ownsRow_nil _ _ _ _, by first | exact ((HB.out.trans_only (Only.set7 (S := fun b => b = w.heap.size) rfl _ _ _ _ _ _ _) (fun n e => Nat.le_of_eq e.symm)).alloc _).drew | exact ((HB.out.trans_only (Only.set7 (S := fun b => b = w.heap.size) rfl _ _ _ _ _ _ _) (fun n e => Nat.le_of_eq e.symm)).alloc _).drewN _⟩
    · rw [if_neg hx]
      by_cases hk : tk = 0
      · rw [if_pos hk]
        subst hk
        simp only
        go_enter Try.func34, Try.ntmps34
        go_wp2_with fail
        refine (locate_any a b c d x _).mono ?_
        rw [hloc]
        unfold tup
        rintro e w' ⟨rfl, hbl⟩
        have HB := hid (((Bl.refl w).alloc _).trans hbl)
        have d4 := (HB.out.cell hp).trans c4
        have d6 := (HB.out.cell hp).trans c6
        have r0 := (HB.out.cell hp).trans q0
        have r1 := (HB.out.cell hp).trans q1
        have r2 := (HB.out.cell hp).trans q2
        have r3 := (HB.out.cell hp).trans q3
        have HN := hid ((hbl.heap (by simp)).trans (heap_alloc_new w (.cells blank 34)))
        have lN : w.heap.size < w'.heap.size := (Array.getElem?_eq_some_iff.1 HN.out).1
        have lP : p < w'.heap.size := Nat.lt_trans hp lN
        clear hbl c0 c1 c2 c3 c4 c6 q0 q1 q2 q3 hloc
        have i16 : (i : Int) < 16 := by omega
        obtain ⟨n0, n1, n2, n3, n4, n5, n6, f0, f1, f2, f3, f4, f5, f6⟩ := blank_row HN.out
        go_wp2
        exact bodyPost_ret (v := reply 3 0 0 0 0 0 (.slice none 0 0)) (by simp [results, Try.results34, go_sem, reply, n0, n1, n2, n3, n4, n5, n6, lN]) rfl ⟨_, rfl, World.ownsRow_nil _ _ _ _, (HB.out.trans_only (Only.set7 (S := fun b => b = w.heap.size) rfl _ _ _ _ _ _ _) (fun n e => Nat.le_of_eq e.symm)).alloc _⟩
      · rw [if_neg hk]
        have hkz : (tk == 0) = false := by simpa using hk
        clear hk
        simp only
        go_enter Try.func34, Try.ntmps34
        go_wp2_with fail
        refine (locate_any a b c d x _).mono ?_
        rw [hloc]
        unfold tup
        rintro e w' ⟨rfl, hbl⟩
        have HB := hid (((Bl.refl w).alloc _).trans hbl)
        have d4 := (HB.out.cell hp).trans c4
        have d6 := (HB.out.cell hp).trans c6
        have r0 := (HB.out.cell hp).trans q0
        have r1 := (HB.out.cell hp).trans q1
        have r2 := (HB.out.cell hp).trans q2
        have r3 := (HB.out.cell hp).trans q3
        have HN := hid ((hbl.heap (by simp)).trans (heap_alloc_new w (.cells blank 34)))
        have lN : w.heap.size < w'.heap.size := (Array.getElem?_eq_some_iff.1 HN.out).1
        have lP : p < w'.heap.size := Nat.lt_trans hp lN
        clear hbl c0 c1 c2 c3 c4 c6 q0 q1 q2 q3 hloc
        have i16 : (i : Int) < 16 := by omega
        obtain ⟨n0, n1, n2, n3, n4, n5, n6, f0, f1, f2, f3, f4, f5, f6⟩ := blank_row HN.out
        have bA := hid ((Bl.refl w').alloc (.cells #[.int .i64 tk, .int .i64 tl, .int .i64 ta, .slice va tv.length vc] 31))
        go_wp2_with fail
        refine (copied_any tk tl ta _ tv _ ((Hv.out.bl HB.out).bl bA.out) (by have := Hli.out; omega)).mono ?_
        rintro e w2 ⟨v', rfl, hb2, hv2⟩
        obtain ⟨va', vc', ev⟩ : ∃ a c, v' = .slice a tv.length c := by
          obtain ⟨a', c', e'⟩ := (ownsRow_sl hv2).len
          rw [ownsRow_len hv2] at e'
          exact ⟨a', c', e'⟩
        subst ev
        have HN2 := hid (((bA.out.trans hb2).heap lN).trans HN.out)
        have HB2 := hid (HB.out.trans (bA.out.trans hb2))
        have lw := hid (Nat.le_trans (Nat.le_of_lt lN) bA.out.lt)
        have Hv2 := hid (ownsRow_base (base' := w.heap.size) hv2 (fun b hb' => Nat.le_trans lw.out (hv2.lt b hb').1))
        clear n0 n1 n2 n3 n4 n5 n6 f0 f1 f2 f3 f4 f5 f6 hb2 hv2 bA
        obtain ⟨n0, n1, n2, n3, n4, n5, n6, f0, f1, f2, f3, f4, f5, f6⟩ := blank_row HN2.out
        go_wp2
        have F := Only.set7 (w := w2) (S := fun b => b = w.heap.size) rfl (.int .i64 2) (.int .i64 0) (.int .i64 0) (.int .i64 tk) (.int .i64 tl) (.int .i64 ta) (.slice va' tv.length vc')
        exact bodyPost_ret (v := reply 2 0 0 tk tl ta (.slice va' tv.length vc')) (by simp [results, Try.results34, go_sem, reply, n0, n1, n2, n3, n4, n5, n6]) rfl ⟨_, rfl, F.owns Hv2.out fun b hb e => own_ne_block Hv2.out HN2.out (by decide) (by rw [hb, e]), HB2.out.trans_only F (fun n e => Nat.le_of_eq e.symm)⟩
end Go.Proofs.Ytbghhbpacijmmaa
