-- What is told of an address.
-- Seal, Read and Trim of the cells of a unit.
import Derived.Test.YtkgjpfamjedncaaGreatLocateSmallKeepReachQ
namespace Go.Proofs.YtkgjpfamjedncaaGreat
open Go.RowKit
attribute [local go_sem ↓] Go.wp_at_zero Go.wp_at_succ

/-- What is told of an address: the answer, a mark, a content. -/
def lookC (a b c d ch mk : Int) (ct : Nat → Ct) (x : Int) : Int × Int × Ct :=
  if (loc a b c d x).2.2 ≠ 0 ∨ (loc a b c d x).1 ≠ ch then (6, 0, ⟨0, 0, 0, []⟩)
  else if x < mk then (4, mk, { ct (loc a b c d x).2.1.toNat with val := [] })
  else if (ct (loc a b c d x).2.1.toNat).kd = 0 then (3, 0, ⟨0, 0, 0, []⟩)
  else (2, 0, ct (loc a b c d x).2.1.toNat)

theorem loc_cell {a b c d x : Int} (h : (loc a b c d x).2.2 = 0) : ∃ i : Nat, i < 16 ∧ loc a b c d x = ((loc a b c d x).1, (i : Int), 0) := by
  unfold loc at h ⊢
  by_cases hf : fit a b c d = true
  · rw [if_pos hf] at h ⊢
    by_cases hx : x < 0 ∨ a * d ≤ x
    · rw [if_pos hx] at h; simp at h
    · rw [if_neg hx]
      obtain ⟨h1, h2, h3, h4⟩ := fit_bd hf
      have hd : x / a < 16 := by
        refine Int.ediv_lt_of_lt_mul (by omega) ?_
        have := Int.mul_le_mul_of_nonneg_left h4 (show 0 ≤ a by omega)
        rw [Int.mul_comm 16 a]; omega
      have hd0 : 0 ≤ x / a := Int.ediv_nonneg (by omega) (by omega)
      refine ⟨(x / a).toNat, by omega, ?_⟩
      rw [Int.toNat_of_nonneg hd0]
  · rw [if_neg hf] at h; simp at h

/-- An answer that is not given yet. -/
def blank : Array Value := #[.int .i64 0, .int .i64 0, .int .i64 0, .int .i64 0, .int .i64 0, .int .i64 0, .slice none 0 0]
theorem blank_row {w : World} {g : Nat} (h : w.heap[g]? = some (.cells blank 98 (0, 0))) :
    w.cell? ⟨g, 0, none⟩ = some (.int .i64 0) ∧ w.cell? ⟨g, 1, none⟩ = some (.int .i64 0) ∧ w.cell? ⟨g, 2, none⟩ = some (.int .i64 0) ∧ w.cell? ⟨g, 3, none⟩ = some (.int .i64 0) ∧ w.cell? ⟨g, 4, none⟩ = some (.int .i64 0) ∧ w.cell? ⟨g, 5, none⟩ = some (.int .i64 0) ∧ w.cell? ⟨g, 6, none⟩ = some (.slice none 0 0) ∧
    w.frozen? ⟨g, 0, none⟩ = false ∧ w.frozen? ⟨g, 1, none⟩ = false ∧ w.frozen? ⟨g, 2, none⟩ = false ∧ w.frozen? ⟨g, 3, none⟩ = false ∧ w.frozen? ⟨g, 4, none⟩ = false ∧ w.frozen? ⟨g, 5, none⟩ = false ∧ w.frozen? ⟨g, 6, none⟩ = false := by
  refine ⟨?_, ?_, ?_, ?_, ?_, ?_, ?_, ?_, ?_, ?_, ?_, ?_, ?_, ?_⟩
  all_goals first | exact frozen_of_row w g _ _ 98 h | (rw [cell_of_row w g _ _ 98 (0, 0) h]; rfl)
/-- Seven cells of a block are set. -/
theorem Only.set7 {S : Nat → Prop} {w : World} {g : Nat} (hg : S g) (u0 u1 u2 u3 u4 u5 u6 : Value) : Only S w (((((((w.setCell ⟨g, 0, none⟩ u0).setCell ⟨g, 1, none⟩ u1).setCell ⟨g, 2, none⟩ u2).setCell ⟨g, 3, none⟩ u3).setCell ⟨g, 4, none⟩ u4).setCell ⟨g, 5, none⟩ u5).setCell ⟨g, 6, none⟩ u6) :=
  (((((((Only.refl S w).setCell ⟨g, 0, none⟩ (.inl hg) u0).setCell ⟨g, 1, none⟩ (.inl hg) u1).setCell ⟨g, 2, none⟩ (.inl hg) u2).setCell ⟨g, 3, none⟩ (.inl hg) u3).setCell ⟨g, 4, none⟩ (.inl hg) u4).setCell ⟨g, 5, none⟩ (.inl hg) u5).setCell ⟨g, 6, none⟩ (.inl hg) u6

set_option maxRecDepth 100000 in
set_option maxHeartbeats 2000000 in
theorem look_any (base p : Nat) (a b c d ch ep mk : Int) (ct : Nat → Ct) (img : List Int) (K : Nat → Value) (x : Int) (w : World) (h : Ks base w p a b c d ch ep mk ct img K) (hl : ∀ i, i < 16 → (ct i).val.length ≤ 255) :
    Calls Tryz.prog 97 #[.pointer (some ⟨p, 0, none⟩), .int .i64 x] w fun e w' => ∃ v', e = .returned (reply (lookC a b c d ch mk ct x).1 0 (lookC a b c d ch mk ct x).2.1 (lookC a b c d ch mk ct x).2.2.kd (lookC a b c d ch mk ct x).2.2.cl (lookC a b c d ch mk ct x).2.2.ca v') ∧ w'.ownsRow w.heap.size 5 1 v' (lookC a b c d ch mk ct x).2.2.val.length ((lookC a b c d ch mk ct x).2.2.val.map B8) ∧ Bl w w' := by
  have H := hid h
  have Hl := hid hl
  have hp := h.at'.lt
  have c0 := h.at'.cell 0 (by decide)
  have c1 := h.at'.cell 1 (by decide)
  have c2 := h.at'.cell 2 (by decide)
  have c3 := h.at'.cell 3 (by decide)
  have c4 := h.at'.cell 4 (by decide)
  have c6 := h.at'.cell 6 (by decide)
  rw [h.k0] at c0; rw [h.k1] at c1; rw [h.k2] at c2; rw [h.k3] at c3; rw [h.k4] at c4; rw [h.k6] at c6
  clear h hl
  by_cases hbad : (loc a b c d x).2.2 ≠ 0 ∨ (loc a b c d x).1 ≠ ch
  · have F : Hid (lookC a b c d ch mk ct x = (6, 0, ⟨0, 0, 0, []⟩)) := by unfold Hid lookC; rw [if_pos hbad]
    rw [F.out]
    have hbd : Hid (((loc a b c d x).2.2 == 0) = false ∨ ((loc a b c d x).2.2 == 0) = true ∧ ((loc a b c d x).1 == ch) = false) := by
      unfold Hid
      by_cases h0 : (loc a b c d x).2.2 = 0
      · right; simp [h0]; rcases hbad with h | h
        · exact absurd h0 h
        · exact h
      · left; simpa using h0
    clear hbad
    go_enter Tryz.func97, Tryz.ntmps97
    go_wp2_with fail
    refine (locate_any a b c d x _).mono ?_
    unfold tup
    generalize loc a b c d x = l at *
    obtain ⟨l1, l2, l3⟩ := l
    rintro e w' ⟨rfl, hbl⟩
    simp only at hbd ⊢
    have d4 := (hbl.cell (b := p) (o := 4) (by simp; omega)).trans ((((Bl.refl w).alloc _).cell hp).trans c4)
    obtain ⟨n0, n1, n2, n3, n4, n5, n6, f0, f1, f2, f3, f4, f5, f6⟩ := blank_row ((hbl.heap (by simp)).trans (heap_alloc_new w (.cells blank 98)))
    have HB := hid (((Bl.refl w).alloc _).trans hbl)
    clear hbl c0 c1 c2 c3 c4 c6
    rcases hbd.out with hz | ⟨hz, hy⟩
    all_goals
      clear hbd
      go_wp2
    all_goals
      exact bodyPost_ret (v := reply 6 0 0 0 0 0 (.slice none 0 0)) (by simp [results, Tryz.results97, go_sem, reply, n0, n1, n2, n3, n4, n5, n6]) rfl ⟨_, rfl, World.ownsRow_nil _ _ _ _, HB.out.trans_only (Only.set7 (S := fun b => b = w.heap.size) rfl _ _ _ _ _ _ _) (fun n e => Nat.le_of_eq e.symm)⟩
  · have h0 : (loc a b c d x).2.2 = 0 := by
      rcases Int.decEq (loc a b c d x).2.2 0 with h | h
      · exact absurd (.inl h) hbad
      · exact h
    have hch : (loc a b c d x).1 = ch := by
      rcases Int.decEq (loc a b c d x).1 ch with h | h
      · exact absurd (.inr h) hbad
      · exact h
    obtain ⟨i, hi, hloc⟩ := loc_cell h0
    rw [hch] at hloc
    have F : Hid (lookC a b c d ch mk ct x = if x < mk then (4, mk, { ct i with val := [] }) else if (ct i).kd = 0 then (3, 0, ⟨0, 0, 0, []⟩) else (2, 0, ct i)) := by
      unfold Hid lookC; rw [if_neg hbad, hloc]; simp
    have q0 := (H.out.at'.cell (7 + 4 * i) (by omega)).trans (congrArg some (H.out.kd i hi))
    have q1 := (H.out.at'.cell (8 + 4 * i) (by omega)).trans (congrArg some (H.out.cl i hi))
    have q2 := (H.out.at'.cell (9 + 4 * i) (by omega)).trans (congrArg some (H.out.ca i hi))
    have q3 := H.out.at'.cell (10 + 4 * i) (by omega)
    rw [show 7 + 4 * i = 7 + i * 4 by omega] at q0
    rw [show 8 + 4 * i = 7 + i * 4 + 1 by omega] at q1
    rw [show 9 + 4 * i = 7 + i * 4 + 2 by omega] at q2
    have e10 : 10 + 4 * i = 7 + i * 4 + 3 := by omega
    have Hv := hid (ownsRow_bs (H.out.val i hi))
    obtain ⟨va, vc, ev⟩ := Hv.out.len
    rw [List.length_map] at ev
    rw [ev] at q3 Hv
    rw [e10] at q3
    have Hli := hid (Hl.out i hi)
    clear hbad h0 hch ev e10
    rw [F.out]
    clear F
    generalize ct i = t at *
    obtain ⟨tk, tl, ta, tv⟩ := t
    simp only at Hli Hv q0 q1 q2 q3 ⊢
    by_cases hx : x < mk
    · rw [if_pos hx]
      simp only
      go_enter Tryz.func97, Tryz.ntmps97
      go_wp2_with fail
      refine (locate_any a b c d x _).mono ?_
      rw [hloc]
      unfold tup
      rintro e w' ⟨rfl, hbl⟩
      have HB := hid (((Bl.refl w).alloc _).trans hbl)
      have d4 := (HB.out.cell hp).trans c4
      have d6 := (HB.out.cell hp).trans c6
      have r0 := (HB.out.cell hp).trans q0
      have r1 := (HB.out.cell hp).trans q1
      have r2 := (HB.out.cell hp).trans q2
      have r3 := (HB.out.cell hp).trans q3
      have HN := hid ((hbl.heap (by simp)).trans (heap_alloc_new w (.cells blank 98)))
      have lN : w.heap.size < w'.heap.size := (Array.getElem?_eq_some_iff.1 HN.out).1
      have lP : p < w'.heap.size := Nat.lt_trans hp lN
      clear hbl c0 c1 c2 c3 c4 c6 q0 q1 q2 q3 hloc
      have i16 : (i : Int) < 16 := by omega
      obtain ⟨n0, n1, n2, n3, n4, n5, n6, f0, f1, f2, f3, f4, f5, f6⟩ := blank_row HN.out
      go_wp2
      go_region
      all_goals
        go_wp2
      all_goals
        exact bodyPost_ret (v := reply 4 0 mk tk tl ta (.slice none 0 0)) (by simp [results, Tryz.results97, go_sem, reply, n0, n1, n2, n3, n4, n5, n6, lN]) rfl ⟨_, rfl, World.ownsRow_nil _ _ _ _, by first | exact ((HB.out.trans_only (Only.set7 (S := fun b => b = w.heap.size) rfl _ _ _ _ _ _ _) (fun n e => Nat.le_of_eq e.symm)).alloc _).drew | exact ((HB.out.trans_only (Only.set7 (S := fun b => b = w.heap.size) rfl _ _ _ _ _ _ _) (fun n e => Nat.le_of_eq e.symm)).alloc _).drewN _⟩
    · rw [if_neg hx]
      by_cases hk : tk = 0
      · rw [if_pos hk]
        subst hk
        simp only
        go_enter Tryz.func97, Tryz.ntmps97
        go_wp2_with fail
        refine (locate_any a b c d x _).mono ?_
        rw [hloc]
        unfold tup
        rintro e w' ⟨rfl, hbl⟩
        have HB := hid (((Bl.refl w).alloc _).trans hbl)
        have d4 := (HB.out.cell hp).trans c4
        have d6 := (HB.out.cell hp).trans c6
        have r0 := (HB.out.cell hp).trans q0
        have r1 := (HB.out.cell hp).trans q1
        have r2 := (HB.out.cell hp).trans q2
        have r3 := (HB.out.cell hp).trans q3
        have HN := hid ((hbl.heap (by simp)).trans (heap_alloc_new w (.cells blank 98)))
        have lN : w.heap.size < w'.heap.size := (Array.getElem?_eq_some_iff.1 HN.out).1
        have lP : p < w'.heap.size := Nat.lt_trans hp lN
        clear hbl c0 c1 c2 c3 c4 c6 q0 q1 q2 q3 hloc
        have i16 : (i : Int) < 16 := by omega
        obtain ⟨n0, n1, n2, n3, n4, n5, n6, f0, f1, f2, f3, f4, f5, f6⟩ := blank_row HN.out
        go_wp2
        exact bodyPost_ret (v := reply 3 0 0 0 0 0 (.slice none 0 0)) (by simp [results, Tryz.results97, go_sem, reply, n0, n1, n2, n3, n4, n5, n6, lN]) rfl ⟨_, rfl, World.ownsRow_nil _ _ _ _, (HB.out.trans_only (Only.set7 (S := fun b => b = w.heap.size) rfl _ _ _ _ _ _ _) (fun n e => Nat.le_of_eq e.symm)).alloc _⟩
      · rw [if_neg hk]
        have hkz : (tk == 0) = false := by simpa using hk
        clear hk
        simp only
        go_enter Tryz.func97, Tryz.ntmps97
        go_wp2_with fail
        refine (locate_any a b c d x _).mono ?_
        rw [hloc]
        unfold tup
        rintro e w' ⟨rfl, hbl⟩
        have HB := hid (((Bl.refl w).alloc _).trans hbl)
        have d4 := (HB.out.cell hp).trans c4
        have d6 := (HB.out.cell hp).trans c6
        have r0 := (HB.out.cell hp).trans q0
        have r1 := (HB.out.cell hp).trans q1
        have r2 := (HB.out.cell hp).trans q2
        have r3 := (HB.out.cell hp).trans q3
        have HN := hid ((hbl.heap (by simp)).trans (heap_alloc_new w (.cells blank 98)))
        have lN : w.heap.size < w'.heap.size := (Array.getElem?_eq_some_iff.1 HN.out).1
        have lP : p < w'.heap.size := Nat.lt_trans hp lN
        clear hbl c0 c1 c2 c3 c4 c6 q0 q1 q2 q3 hloc
        have i16 : (i : Int) < 16 := by omega
        obtain ⟨n0, n1, n2, n3, n4, n5, n6, f0, f1, f2, f3, f4, f5, f6⟩ := blank_row HN.out
        have bA := hid ((Bl.refl w').alloc (.cells #[.int .i64 tk, .int .i64 tl, .int .i64 ta, .slice va tv.length vc] 42))
        go_wp2_with fail
        refine (copied_any tk tl ta _ tv _ ((Hv.out.bl HB.out).bl bA.out) (by have := Hli.out; omega)).mono ?_
        rintro e w2 ⟨v', rfl, hb2, hv2⟩
        obtain ⟨va', vc', ev⟩ : ∃ a c, v' = .slice a tv.length c := by
          obtain ⟨a', c', e'⟩ := (ownsRow_sl hv2).len
          rw [ownsRow_len hv2] at e'
          exact ⟨a', c', e'⟩
        subst ev
        have HN2 := hid (((bA.out.trans hb2).heap lN).trans HN.out)
        have HB2 := hid (HB.out.trans (bA.out.trans hb2))
        have lw := hid (Nat.le_trans (Nat.le_of_lt lN) bA.out.lt)
        have Hv2 := hid (ownsRow_base (base' := w.heap.size) hv2 (fun b hb' => Nat.le_trans lw.out (hv2.lt b hb').1))
        clear n0 n1 n2 n3 n4 n5 n6 f0 f1 f2 f3 f4 f5 f6 hb2 hv2 bA
        obtain ⟨n0, n1, n2, n3, n4, n5, n6, f0, f1, f2, f3, f4, f5, f6⟩ := blank_row HN2.out
        go_wp2
        have F := Only.set7 (w := w2) (S := fun b => b = w.heap.size) rfl (.int .i64 2) (.int .i64 0) (.int .i64 0) (.int .i64 tk) (.int .i64 tl) (.int .i64 ta) (.slice va' tv.length vc')
        exact bodyPost_ret (v := reply 2 0 0 tk tl ta (.slice va' tv.length vc')) (by simp [results, Tryz.results97, go_sem, reply, n0, n1, n2, n3, n4, n5, n6]) rfl ⟨_, rfl, F.owns Hv2.out fun b hb e => own_ne_block Hv2.out HN2.out (by decide) (by rw [hb, e]), HB2.out.trans_only F (fun n e => Nat.le_of_eq e.symm)⟩
end Go.Proofs.YtkgjpfamjedncaaGreat

namespace Go.Proofs.YtkgjpfamjedncaaGreat
open Go.RowKit
attribute [local go_sem ↓] Go.wp_at_zero Go.wp_at_succ

theorem Ks.bl {base : Nat} {w w' : World} {p : Nat} {a b c d ch ep mk : Int} {ct : Nat → Ct} {img : List Int} {K : Nat → Value} (h : Ks base w p a b c d ch ep mk ct img K) (hb : Bl w w') : Ks base w' p a b c d ch ep mk ct img K :=
  ⟨h.at'.bl hb, h.k0, h.k1, h.k2, h.k3, h.k4, h.k5, h.k6, (Only.of_bl (S := fun _ => False) hb).owns h.own fun _ _ e => e, h.kd, h.cl, h.ca, fun i hi => (Only.of_bl (S := fun _ => False) hb).owns (h.val i hi) fun _ _ e => e, h.apart⟩

/-- A block that is none of the unit's may turn. -/
theorem Ks.other {base : Nat} {w w' : World} {p g : Nat} {a b c d ch ep mk : Int} {ct : Nat → Ct} {img : List Int} {K : Nat → Value} (h : Ks base w p a b c d ch ep mk ct img K) (ho : Only (fun x => x = g) w w') {cs : Array Value} (hg : w.heap[g]? = some (.cells cs 98 (0, 0))) (hp : p ≠ g) : Ks base w' p a b c d ch ep mk ct img K :=
  ⟨h.at'.only ho hp, h.k0, h.k1, h.k2, h.k3, h.k4, h.k5, h.k6, ho.owns h.own fun b e e' => own_ne_block h.own hg (by decide) (by rw [e, e']), h.kd, h.cl, h.ca, fun i hi => ho.owns (h.val i hi) fun b e e' => own_ne_block (h.val i hi) hg (by decide) (by rw [e, e']), h.apart⟩

theorem Only.trans_new {S T : Nat → Prop} {a b c : World} (h : Only S a b) (k : Only T b c) (hs : ∀ n, T n → a.heap.size ≤ n) : Only S a c :=
  ⟨k.os.trans h.os, k.tape.trans h.tape, k.output.trans h.output, Nat.le_trans h.size k.size, fun i hi hn => by rw [k.block i (Nat.lt_of_lt_of_le hi h.size) (fun e => by have := hs i e; omega), h.block i hi hn]⟩

set_option maxRecDepth 100000 in
set_option maxHeartbeats 2000000 in
theorem seal_any (base p : Nat) (a b c d ch ep mk : Int) (ct : Nat → Ct) (img : List Int) (K : Nat → Value) (ep' : Int) (w : World) (h : Ks base w p a b c d ch ep mk ct img K) (hb : base ≤ w.heap.size) (hl : img.length ≤ 30000000) :
    Calls Tryz.prog 78 #[.pointer (some ⟨p, 0, none⟩), .int .i64 ep'] w fun e w' => ∃ K', e = .returned (if ep' < ep then reply 5 ep 0 0 0 0 (.slice none 0 0) else reply 1 ep' 0 0 0 0 (.slice none 0 0)) ∧ Ks base w' p a b c d ch (if ep' < ep then ep else ep') mk ct (if ep' < ep ∨ ep' = ep then img else img ++ recB 1 [ep'] []) K' ∧ Gk p K K' w w' := by
  have H := hid h
  have hp := h.at'.lt
  have c5 := h.at'.cell 5 (by decide)
  rw [h.k5] at c5
  clear h
  have bA := hid ((Bl.refl w).alloc (.cells blank 98))
  have HN := hid (heap_alloc_new w (.cells blank 98))
  by_cases he : ep' < ep
  · simp only [he, if_true, true_or]
    go_enter Tryz.func78, Tryz.ntmps78
    go_wp2_with fail
    refine (sealed_any p K ep _ (H.out.at'.bl bA.out) H.out.k5).mono ?_
    rintro e w' ⟨rfl, hb2⟩
    have HN2 := hid ((hb2.heap (by simp)).trans HN.out)
    have HK2 := hid ((H.out.bl bA.out).bl hb2)
    have HB2 := hid (bA.out.trans hb2)
    have lN : w.heap.size < w'.heap.size := (Array.getElem?_eq_some_iff.1 HN2.out).1
    obtain ⟨n0, n1, n2, n3, n4, n5, n6, f0, f1, f2, f3, f4, f5, f6⟩ := blank_row HN2.out
    unfold reply
    clear hb2
    go_wp2
    have F := Only.set7 (w := w') (S := fun b => b = w.heap.size) rfl (.int .i64 5) (.int .i64 ep) (.int .i64 0) (.int .i64 0) (.int .i64 0) (.int .i64 0) (.slice none 0 0)
    refine bodyPost_ret (v := reply 5 ep 0 0 0 0 (.slice none 0 0)) (by simp [results, Tryz.results78, go_sem, reply, n0, n1, n2, n3, n4, n5, n6]) rfl ⟨K, rfl, HK2.out.other F HN2.out (by omega), Gk.of_bl (HB2.out.trans_only F (fun n e => Nat.le_of_eq e.symm))⟩
  · have E : Hid ((if ep' < ep ∨ ep' = ep then img else img ++ recB 1 [ep'] []) = img ++ if ep' = ep then [] else recB 1 [ep'] []) := by
      unfold Hid
      by_cases hq : ep' = ep
      · rw [if_pos (.inr hq), if_pos hq, List.append_nil]
      · rw [if_neg (fun h => h.elim he hq), if_neg hq]
    rw [E.out, if_neg he, if_neg he]
    have Hr := hid (reach_any base p a b c d ch ep mk ct img K ep' _ (H.out.bl bA.out) (Nat.le_trans hb bA.out.lt) hl)
    generalize (img ++ if ep' = ep then [] else recB 1 [ep'] []) = img' at *
    clear E
    go_enter Tryz.func78, Tryz.ntmps78
    go_wp2_with fail
    refine Hr.out.mono ?_
    rintro e w' ⟨K', rfl, hk, ho, _⟩
    have hne : Hid (¬ (w.heap.size = p ∨ (K 71).ownBlock = some w.heap.size)) := by
      rintro (e | e)
      · omega
      · exact Nat.lt_irrefl _ (H.out.own.lt _ e).2
    have HN2 := hid ((ho.only.block _ (by simp) hne.out).trans HN.out)
    have HK2 := hid hk
    have d5 := hk.at'.cell 5 (by decide)
    rw [hk.k5] at d5
    have HO2 := hid (ho.pre bA.out)
    have lN : w.heap.size < w'.heap.size := (Array.getElem?_eq_some_iff.1 HN2.out).1
    obtain ⟨n0, n1, n2, n3, n4, n5, n6, f0, f1, f2, f3, f4, f5, f6⟩ := blank_row HN2.out
    clear hk ho c5 Hr
    go_wp2
    have F := Only.set7 (w := w') (S := fun b => b = w.heap.size) rfl (.int .i64 1) (.int .i64 ep') (.int .i64 0) (.int .i64 0) (.int .i64 0) (.int .i64 0) (.slice none 0 0)
    refine bodyPost_ret (v := reply 1 ep' 0 0 0 0 (.slice none 0 0)) (by simp [results, Tryz.results78, go_sem, reply, n0, n1, n2, n3, n4, n5, n6]) rfl ⟨K', rfl, HK2.out.other F HN2.out (by omega), HO2.out.new F (fun b e => Nat.le_of_eq e.symm)⟩

set_option maxRecDepth 100000 in
set_option maxHeartbeats 2000000 in
theorem readOld_any (base p : Nat) (a b c d ch ep mk : Int) (ct : Nat → Ct) (img : List Int) (K : Nat → Value) (ep' x : Int) (w : World) (h : Ks base w p a b c d ch ep mk ct img K) (he : ep' < ep) :
    Calls Tryz.prog 71 #[.pointer (some ⟨p, 0, none⟩), .int .i64 ep', .int .i64 x] w fun e w' => e = .returned (reply 5 ep 0 0 0 0 (.slice none 0 0)) ∧ Ks base w' p a b c d ch ep mk ct img K ∧ Bl w w' := by
  have H := hid h
  have hp := h.at'.lt
  have c5 := h.at'.cell 5 (by decide)
  rw [h.k5] at c5
  clear h
  have bA := hid ((Bl.refl w).alloc (.cells blank 98))
  have HN := hid (heap_alloc_new w (.cells blank 98))
  go_enter Tryz.func71, Tryz.ntmps71
  go_wp2_with fail
  refine (sealed_any p K ep _ (H.out.at'.bl bA.out) H.out.k5).mono ?_
  rintro e w' ⟨rfl, hb2⟩
  have HN2 := hid ((hb2.heap (by simp)).trans HN.out)
  have HK2 := hid ((H.out.bl bA.out).bl hb2)
  have HB2 := hid (bA.out.trans hb2)
  have lN : w.heap.size < w'.heap.size := (Array.getElem?_eq_some_iff.1 HN2.out).1
  obtain ⟨n0, n1, n2, n3, n4, n5, n6, f0, f1, f2, f3, f4, f5, f6⟩ := blank_row HN2.out
  unfold reply
  clear hb2
  go_wp2
  have F := Only.set7 (w := w') (S := fun b => b = w.heap.size) rfl (.int .i64 5) (.int .i64 ep) (.int .i64 0) (.int .i64 0) (.int .i64 0) (.int .i64 0) (.slice none 0 0)
  exact bodyPost_ret (v := reply 5 ep 0 0 0 0 (.slice none 0 0)) (by simp [results, Tryz.results71, go_sem, reply, n0, n1, n2, n3, n4, n5, n6]) rfl ⟨rfl, HK2.out.other F HN2.out (by omega), HB2.out.trans_only F (fun n e => Nat.le_of_eq e.symm)⟩

set_option maxRecDepth 100000 in
set_option maxHeartbeats 2000000 in
theorem readNew_any (base p : Nat) (a b c d ch ep mk : Int) (ct : Nat → Ct) (img : List Int) (K : Nat → Value) (ep' x : Int) (w : World) (h : Ks base w p a b c d ch ep mk ct img K) (hb : base ≤ w.heap.size) (hl : img.length ≤ 30000000) (hct : ∀ i, i < 16 → (ct i).val.length ≤ 255) (he : ¬ ep' < ep) (wh m : Int) (t : Ct) (hlook : lookC a b c d ch mk ct x = (wh, m, t)) :
    Calls Tryz.prog 71 #[.pointer (some ⟨p, 0, none⟩), .int .i64 ep', .int .i64 x] w fun e w' => ∃ K' v', e = .returned (reply wh 0 m t.kd t.cl t.ca v') ∧ w'.ownsRow w.heap.size 5 1 v' t.val.length (t.val.map B8) ∧ Ks base w' p a b c d ch ep' mk ct (img ++ if ep' = ep then [] else recB 1 [ep'] []) K' ∧ Gk p K K' w w' ∧ (ep' = ep → K' = K ∧ Bl w w') ∧ ∀ g, v'.ownBlock = some g → ¬ KF K' g := by
  have H := hid h
  have hp := h.at'.lt
  have c5 := h.at'.cell 5 (by decide)
  rw [h.k5] at c5
  clear h
  have bA := hid ((Bl.refl w).alloc (.cells blank 98))
  have HN := hid (heap_alloc_new w (.cells blank 98))
  have Hr := hid (reach_any base p a b c d ch ep mk ct img K ep' _ (H.out.bl bA.out) (Nat.le_trans hb bA.out.lt) hl)
  generalize (img ++ if ep' = ep then [] else recB 1 [ep'] []) = img' at *
  have HL : Hid (∀ W K', Ks base W p a b c d ch ep' mk ct img' K' → _) := fun W K' hk => look_any base p a b c d ch ep' mk ct img' K' x W hk hct
  rw [hlook] at HL
  obtain ⟨tk, tl, ta, tv⟩ := t
  simp only at HL ⊢
  clear hct hlook
  go_enter Tryz.func71, Tryz.ntmps71
  go_wp2_with fail
  refine Hr.out.mono ?_
  rintro e w' ⟨K', rfl, hk, ho, hs⟩
  have Hs := hid hs
  have hne : Hid (¬ (w.heap.size = p ∨ (K 71).ownBlock = some w.heap.size)) := by
    rintro (e | e)
    · omega
    · exact Nat.lt_irrefl _ (H.out.own.lt _ e).2
  have HN2 := hid ((ho.only.block _ (by simp) hne.out).trans HN.out)
  have HK2 := hid hk
  have HO2 := hid (ho.pre bA.out)
  have lN : w.heap.size < w'.heap.size := (Array.getElem?_eq_some_iff.1 HN2.out).1
  clear hk ho hs c5 Hr
  go_wp2_with fail
  refine (HL.out _ _ HK2.out).mono ?_
  rintro e w2 ⟨v', rfl, hv, hb2⟩
  obtain ⟨va, vc, ev⟩ : ∃ a c, v' = .slice a tv.length c := by
    obtain ⟨a', c', e'⟩ := (ownsRow_sl hv).len
    rw [ownsRow_len hv] at e'
    exact ⟨a', c', e'⟩
  subst ev
  have HN3 := hid ((hb2.heap lN).trans HN2.out)
  have HK3 := hid (HK2.out.bl hb2)
  have HO3 := hid (HO2.out.post hb2)
  have Hv := hid (ownsRow_base (base' := w.heap.size) hv (fun b hb' => Nat.le_trans (Nat.le_of_lt lN) (hv.lt b hb').1))
  obtain ⟨n0, n1, n2, n3, n4, n5, n6, f0, f1, f2, f3, f4, f5, f6⟩ := blank_row HN3.out
  unfold reply
  have Hs3 : Hid (ep' = ep → K' = K ∧ Bl w w2) := fun e => ⟨(Hs.out e).1, (bA.out.trans (Hs.out e).2).trans hb2⟩
  have Hvd : Hid (∀ g, (Value.slice va tv.length vc).ownBlock = some g → ¬ KF K' g) := fun g e hF => by
    have := (hv.lt g e).1
    have := (HK2.out.foot hF).2
    omega
  clear hb2 hv HL
  go_wp2
  have F := Only.set7 (w := w2) (S := fun b => b = w.heap.size) rfl (.int .i64 wh) (.int .i64 0) (.int .i64 m) (.int .i64 tk) (.int .i64 tl) (.int .i64 ta) (.slice va tv.length vc)
  exact bodyPost_ret (v := reply wh 0 m tk tl ta (.slice va tv.length vc)) (by simp [results, Tryz.results71, go_sem, reply, n0, n1, n2, n3, n4, n5, n6]) rfl ⟨K', _, rfl, F.owns Hv.out fun b hb e => own_ne_block Hv.out HN3.out (by decide) (by rw [hb, e]), HK3.out.other F HN3.out (by omega), HO3.out.new F (fun b e => Nat.le_of_eq e.symm), fun e => ⟨(Hs3.out e).1, (Hs3.out e).2.trans_only F (fun n e => by omega)⟩, Hvd.out⟩

set_option maxRecDepth 100000 in
set_option maxHeartbeats 2000000 in
theorem trimOld_any (base p : Nat) (a b c d ch ep mk : Int) (ct : Nat → Ct) (img : List Int) (K : Nat → Value) (ep' x : Int) (w : World) (h : Ks base w p a b c d ch ep mk ct img K) (he : ep' < ep) :
    Calls Tryz.prog 77 #[.pointer (some ⟨p, 0, none⟩), .int .i64 ep', .int .i64 x] w fun e w' => e = .returned (reply 5 ep 0 0 0 0 (.slice none 0 0)) ∧ Ks base w' p a b c d ch ep mk ct img K ∧ Bl w w' := by
  have H := hid h
  have hp := h.at'.lt
  have c5 := h.at'.cell 5 (by decide)
  rw [h.k5] at c5
  clear h
  have bA := hid ((Bl.refl w).alloc (.cells blank 98))
  have HN := hid (heap_alloc_new w (.cells blank 98))
  go_enter Tryz.func77, Tryz.ntmps77
  go_wp2_with fail
  refine (sealed_any p K ep _ (H.out.at'.bl bA.out) H.out.k5).mono ?_
  rintro e w' ⟨rfl, hb2⟩
  have HN2 := hid ((hb2.heap (by simp)).trans HN.out)
  have HK2 := hid ((H.out.bl bA.out).bl hb2)
  have HB2 := hid (bA.out.trans hb2)
  have lN : w.heap.size < w'.heap.size := (Array.getElem?_eq_some_iff.1 HN2.out).1
  obtain ⟨n0, n1, n2, n3, n4, n5, n6, f0, f1, f2, f3, f4, f5, f6⟩ := blank_row HN2.out
  unfold reply
  clear hb2
  go_wp2
  have F := Only.set7 (w := w') (S := fun b => b = w.heap.size) rfl (.int .i64 5) (.int .i64 ep) (.int .i64 0) (.int .i64 0) (.int .i64 0) (.int .i64 0) (.slice none 0 0)
  exact bodyPost_ret (v := reply 5 ep 0 0 0 0 (.slice none 0 0)) (by simp [results, Tryz.results77, go_sem, reply, n0, n1, n2, n3, n4, n5, n6]) rfl ⟨rfl, HK2.out.other F HN2.out (by omega), HB2.out.trans_only F (fun n e => Nat.le_of_eq e.symm)⟩

set_option maxRecDepth 100000 in
set_option maxHeartbeats 2000000 in
theorem trimNew_any (base p : Nat) (a b c d ch ep mk : Int) (ct : Nat → Ct) (img : List Int) (K : Nat → Value) (ep' mk' : Int) (w : World) (h : Ks base w p a b c d ch ep mk ct img K) (hb : base ≤ w.heap.size) (hl : img.length ≤ 30000000) (he : ¬ ep' < ep) :
    Calls Tryz.prog 77 #[.pointer (some ⟨p, 0, none⟩), .int .i64 ep', .int .i64 mk'] w fun e w' => ∃ K', e = .returned (reply 1 0 (if mk < mk' then mk' else mk) 0 0 0 (.slice none 0 0)) ∧ Ks base w' p a b c d ch ep' (if mk < mk' then mk' else mk) ct (img ++ if mk < mk' then recB 2 [ep', mk'] [] else if ep' = ep then [] else recB 1 [ep'] []) K' ∧ Gk p K K' w w' := by
  have H := hid h
  have hp := h.at'.lt
  have c5 := h.at'.cell 5 (by decide)
  rw [h.k5] at c5
  have c6 := h.at'.cell 6 (by decide)
  rw [h.k6] at c6
  clear h
  have bA := hid ((Bl.refl w).alloc (.cells blank 98))
  have HN := hid (heap_alloc_new w (.cells blank 98))
  have hne : Hid (¬ (w.heap.size = p ∨ (K 71).ownBlock = some w.heap.size)) := by
    rintro (e | e)
    · omega
    · exact Nat.lt_irrefl _ (H.out.own.lt _ e).2
  by_cases hm : mk < mk'
  · rw [if_pos hm, if_pos hm]
    have Hr := hid (lay_any base p a b c d ch ep mk ct img K ep' mk' _ (H.out.bl bA.out) (Nat.le_trans hb bA.out.lt) hl)
    generalize (img ++ recB 2 [ep', mk'] []) = img' at *
    go_enter Tryz.func77, Tryz.ntmps77
    go_wp2_with fail
    refine Hr.out.mono ?_
    rintro e w' ⟨K', rfl, hk, ho⟩
    have HN2 := hid ((ho.only.block _ (by simp) hne.out).trans HN.out)
    have HK2 := hid hk
    have d6 := hk.at'.cell 6 (by decide)
    rw [hk.k6] at d6
    have HO2 := hid (ho.pre bA.out)
    have lN : w.heap.size < w'.heap.size := (Array.getElem?_eq_some_iff.1 HN2.out).1
    obtain ⟨n0, n1, n2, n3, n4, n5, n6, f0, f1, f2, f3, f4, f5, f6⟩ := blank_row HN2.out
    clear hk ho c5 c6 Hr
    go_wp2
    have F := Only.set7 (w := w') (S := fun b => b = w.heap.size) rfl (.int .i64 1) (.int .i64 0) (.int .i64 mk') (.int .i64 0) (.int .i64 0) (.int .i64 0) (.slice none 0 0)
    exact bodyPost_ret (v := reply 1 0 mk' 0 0 0 (.slice none 0 0)) (by simp [results, Tryz.results77, go_sem, reply, n0, n1, n2, n3, n4, n5, n6]) rfl ⟨K', rfl, HK2.out.other F HN2.out (by omega), HO2.out.new F (fun b e => Nat.le_of_eq e.symm)⟩
  · rw [if_neg hm, if_neg hm]
    have Hr := hid (reach_any base p a b c d ch ep mk ct img K ep' _ (H.out.bl bA.out) (Nat.le_trans hb bA.out.lt) hl)
    generalize (img ++ if ep' = ep then [] else recB 1 [ep'] []) = img' at *
    go_enter Tryz.func77, Tryz.ntmps77
    go_wp2_with fail
    refine Hr.out.mono ?_
    rintro e w' ⟨K', rfl, hk, ho, _⟩
    have HN2 := hid ((ho.only.block _ (by simp) hne.out).trans HN.out)
    have HK2 := hid hk
    have d6 := hk.at'.cell 6 (by decide)
    rw [hk.k6] at d6
    have HO2 := hid (ho.pre bA.out)
    have lN : w.heap.size < w'.heap.size := (Array.getElem?_eq_some_iff.1 HN2.out).1
    obtain ⟨n0, n1, n2, n3, n4, n5, n6, f0, f1, f2, f3, f4, f5, f6⟩ := blank_row HN2.out
    clear hk ho c5 c6 Hr
    go_wp2
    have F := Only.set7 (w := w') (S := fun b => b = w.heap.size) rfl (.int .i64 1) (.int .i64 0) (.int .i64 mk) (.int .i64 0) (.int .i64 0) (.int .i64 0) (.slice none 0 0)
    exact bodyPost_ret (v := reply 1 0 mk 0 0 0 (.slice none 0 0)) (by simp [results, Tryz.results77, go_sem, reply, n0, n1, n2, n3, n4, n5, n6]) rfl ⟨K', rfl, HK2.out.other F HN2.out (by omega), HO2.out.new F (fun b e => Nat.le_of_eq e.symm)⟩
end Go.Proofs.YtkgjpfamjedncaaGreat
