-- Write: three cases.
import Derived.Test.YtbghhbpacijmmaaImage
namespace Go.Proofs.Ytbghhbpacijmmaa
open Go.RowKit
attribute [local go_sem ↓] Go.wp_at_zero Go.wp_at_succ

theorem lookC_empty {a b c d ch mk : Int} {ct : Nat → Ct} {x : Int} (h : (lookC a b c d ch mk ct x).1 = 3) : lookC a b c d ch mk ct x = (3, 0, ⟨0, 0, 0, []⟩) ∧ ∃ i : Nat, i < 16 ∧ loc a b c d x = (ch, (i : Int), 0) := by
  unfold lookC at h ⊢
  by_cases h1 : (loc a b c d x).2.2 ≠ 0 ∨ (loc a b c d x).1 ≠ ch
  · rw [if_pos h1] at h; simp at h
  · rw [if_neg h1] at h ⊢
    have h0 : (loc a b c d x).2.2 = 0 := by
      rcases Int.decEq (loc a b c d x).2.2 0 with h | h
      · exact absurd (.inl h) h1
      · exact h
    have hch : (loc a b c d x).1 = ch := by
      rcases Int.decEq (loc a b c d x).1 ch with h | h
      · exact absurd (.inr h) h1
      · exact h
    by_cases h2 : x < mk
    · rw [if_pos h2] at h; simp at h
    · rw [if_neg h2] at h ⊢
      by_cases h3 : (ct (loc a b c d x).2.1.toNat).kd = 0
      · rw [if_pos h3]
        obtain ⟨i, hi, e⟩ := loc_cell h0
        exact ⟨rfl, i, hi, by rw [hch] at e; exact e⟩
      · rw [if_neg h3] at h; simp at h

set_option maxRecDepth 100000 in
set_option maxHeartbeats 2000000 in
theorem writeEmpty_any (base p : Nat) (a b c d ch ep mk : Int) (ct : Nat → Ct) (img : List Int) (K : Nat → Value) (ep' x kd cl ca : Int) (v : Value) (ys : List Int) (i : Nat) (w : World) (h : Ks base w p a b c d ch ep mk ct img K) (hb : base ≤ w.heap.size) (hl : img.length ≤ 30000000) (hct : ∀ i, i < 16 → (ct i).val.length ≤ 255) (hv : Bs w v (ys.map B8)) (hy : ys.length ≤ 255) (hvb : ∀ g, v.ownBlock = some g → g < w.heap.size ∧ (K 71).ownBlock ≠ some g ∧ g ≠ p)
    (he : ¬ ep' < ep) (hi : i < 16) (hloc : loc a b c d x = (ch, (i : Int), 0)) (hlook : lookC a b c d ch mk ct x = (3, 0, ⟨0, 0, 0, []⟩)) (hc : isC kd ys.length = true) :
    Calls Try.prog 23 #[.pointer (some ⟨p, 0, none⟩), .int .i64 ep', .int .i64 x, .agg #[.int .i64 kd, .int .i64 cl, .int .i64 ca, v]] w fun e w' => ∃ K', e = .returned (reply 1 0 0 0 0 0 (.slice none 0 0)) ∧ Ks base w' p a b c d ch ep' mk (fun j => if j = i then ⟨kd, cl, ca, ys⟩ else ct j) (img ++ recB 3 [ep', x, kd, cl, ca] ys) K' ∧ Only (fun b => b = p ∨ (K 71).ownBlock = some b) w w' := by
  obtain ⟨va, vc, ev⟩ := hv.len
  rw [List.length_map] at ev
  subst ev
  have H := hid h
  have hp := h.at'.lt
  have c5 := h.at'.cell 5 (by decide)
  rw [h.k5] at c5
  have Hv := hid hv
  have Hvb := hid hvb
  have Hc := hid hc
  have HX := hid (Below.heap_alloc (w.alloc (.cells #[.int .i64 kd, .int .i64 cl, .int .i64 ca, .slice va ys.length vc] 31)) (.cells blank 34) w.heap.size (by simp))
  have bA := hid (((Bl.refl w).alloc (.cells #[.int .i64 kd, .int .i64 cl, .int .i64 ca, .slice va ys.length vc] 31)).alloc (.cells blank 34))
  have HN := hid (heap_alloc_new (w.alloc (.cells #[.int .i64 kd, .int .i64 cl, .int .i64 ca, .slice va ys.length vc] 31)) (.cells blank 34))
  rw [show (w.alloc (.cells #[.int .i64 kd, .int .i64 cl, .int .i64 ca, .slice va ys.length vc] 31)).heap.size = w.heap.size + 1 from by simp] at HN
  have HX0 := hid (HX.out.trans (heap_alloc_new w (.cells #[.int .i64 kd, .int .i64 cl, .int .i64 ca, .slice va ys.length vc] 31)))
  have HL := hid (look_any base p a b c d ch ep mk ct img K x _ (H.out.bl bA.out) hct)
  rw [hlook] at HL
  simp only at HL
  have HP : Hid (∀ W, Bl w W → _) := fun W hW => put_any base p a b c d ch ep mk ct img K ep' x kd cl ca _ ys i W (H.out.bl hW) (Nat.le_trans hb hW.lt) hl (hv.bl hW) hy (fun g e => ⟨Nat.lt_of_lt_of_le (hvb g e).1 hW.lt, (hvb g e).2⟩) hi hloc
  generalize (img ++ recB 3 [ep', x, kd, cl, ca] ys) = img' at *
  generalize (fun j => if j = i then (⟨kd, cl, ca, ys⟩ : Ct) else ct j) = ct' at *
  clear h hv hvb hc HX hct hlook hloc
  go_enter Try.func23, Try.ntmps23
  go_wp2_with fail
  refine HL.out.mono ?_
  rintro e w1 ⟨v1, rfl, hv1, hb1⟩
  obtain ⟨va1, vc1, ev⟩ : ∃ a c, v1 = .slice a 0 c := by
    obtain ⟨a', c', e'⟩ := (ownsRow_sl hv1).len
    exact ⟨a', c', e'⟩
  subst ev
  have HX1 := hid ((hb1.heap (by simp; omega)).trans HX0.out)
  have HN1 := hid ((hb1.heap (by simp)).trans HN.out)
  have lN : w.heap.size + 1 < w1.heap.size := (Array.getElem?_eq_some_iff.1 HN1.out).1
  have x0 := cell_of_row w1 w.heap.size 0 _ 31 (0, 0) HX1.out
  have x1 := cell_of_row w1 w.heap.size 1 _ 31 (0, 0) HX1.out
  have x2 := cell_of_row w1 w.heap.size 2 _ 31 (0, 0) HX1.out
  have x3 := cell_of_row w1 w.heap.size 3 _ 31 (0, 0) HX1.out
  simp at x0 x1 x2 x3
  have HB1 := hid (bA.out.trans hb1)
  have lX : w.heap.size < w1.heap.size := by omega
  unfold reply
  clear hb1 hv1 HL HX0 HN
  go_wp2_with fail
  refine (isContent_any kd cl ca va ys.length vc _ (by omega)).mono ?_
  rw [Hc.out]
  rintro e w2 ⟨rfl, hb2⟩
  have bE := hid ((Bl.refl w1).alloc (.cells #[.int .i64 3, .int .i64 0, .int .i64 0, .int .i64 0, .int .i64 0, .int .i64 0, .slice va1 0 vc1] 34))
  have HY := hid (heap_alloc_new w1 (.cells #[.int .i64 3, .int .i64 0, .int .i64 0, .int .i64 0, .int .i64 0, .int .i64 0, .slice va1 0 vc1] 34))
  have b2 := hid (bE.out.trans hb2)
  have y0 := cell_of_row w2 w1.heap.size 0 _ 34 (0, 0) ((hb2.heap (by simp)).trans HY.out)
  have q0 := (b2.out.cell lX).trans x0
  have q1 := (b2.out.cell lX).trans x1
  have q2 := (b2.out.cell lX).trans x2
  have q3 := (b2.out.cell lX).trans x3
  simp at y0
  have HB2 := hid (HB1.out.trans b2.out)
  have HN2 := hid ((b2.out.heap lN).trans HN1.out)
  have Hput := hid (HP.out w2 HB2.out)
  have lN2 := Nat.lt_of_lt_of_le lN b2.out.lt
  clear hb2 x0 x1 x2 x3 HY bE
  go_wp2_with fail
  refine Hput.out.mono ?_
  rintro e w3 ⟨K3, rfl, hk3, ho3⟩
  have hne : Hid (¬ (w.heap.size + 1 = p ∨ (K 71).ownBlock = some (w.heap.size + 1))) := by
    rintro (e | e)
    · omega
    · have := (H.out.own.lt _ e).2; omega
  have HN3 := hid ((ho3.block _ lN2 hne.out).trans HN2.out)
  have HK3 := hid hk3
  have HO3 := hid ((Only.of_bl HB2.out).trans ho3)
  obtain ⟨n0, n1, n2, n3, n4, n5, n6, f0, f1, f2, f3, f4, f5, f6⟩ := blank_row HN3.out
  clear hk3 ho3 Hput
  go_wp2
  have F := Only.set7 (w := w3) (S := fun b => b = w.heap.size + 1) rfl (.int .i64 1) (.int .i64 0) (.int .i64 0) (.int .i64 0) (.int .i64 0) (.int .i64 0) (.slice none 0 0)
  exact bodyPost_ret (v := reply 1 0 0 0 0 0 (.slice none 0 0)) (by simp [results, Try.results23, go_sem, reply, n0, n1, n2, n3, n4, n5, n6]) rfl ⟨K3, rfl, HK3.out.other F HN3.out (by omega), HO3.out.trans_new F (fun b e => by omega)⟩

set_option maxRecDepth 100000 in
set_option maxHeartbeats 2000000 in
theorem writeTold_any (base p : Nat) (a b c d ch ep mk : Int) (ct : Nat → Ct) (img : List Int) (K : Nat → Value) (ep' x kd cl ca : Int) (va : Option Addr) (vn vc : Nat) (w : World) (h : Ks base w p a b c d ch ep mk ct img K) (hb : base ≤ w.heap.size) (hl : img.length ≤ 30000000) (hct : ∀ i, i < 16 → (ct i).val.length ≤ 255) (hvn : vn ≤ 255)
    (he : ¬ ep' < ep) (wh m : Int) (t : Ct) (hlook : lookC a b c d ch mk ct x = (wh, m, t)) (hwh : wh ≠ 3) (hc : isC kd vn = true) :
    Calls Try.prog 23 #[.pointer (some ⟨p, 0, none⟩), .int .i64 ep', .int .i64 x, .agg #[.int .i64 kd, .int .i64 cl, .int .i64 ca, .slice va vn vc]] w fun e w' => ∃ K' v', e = .returned (reply wh 0 m t.kd t.cl t.ca v') ∧ w'.ownsRow w.heap.size 5 1 v' t.val.length (t.val.map B8) ∧ Ks base w' p a b c d ch ep' mk ct (img ++ if ep' = ep then [] else recB 1 [ep'] []) K' ∧ Only (fun b => b = p ∨ (K 71).ownBlock = some b) w w' ∧ (ep' = ep → K' = K ∧ Bl w w') := by
  have H := hid h
  have hp := h.at'.lt
  have c5 := h.at'.cell 5 (by decide)
  rw [h.k5] at c5
  have Hc := hid hc
  have HX := hid (Below.heap_alloc (w.alloc (.cells #[.int .i64 kd, .int .i64 cl, .int .i64 ca, .slice va vn vc] 31)) (.cells blank 34) w.heap.size (by simp))
  have bA := hid (((Bl.refl w).alloc (.cells #[.int .i64 kd, .int .i64 cl, .int .i64 ca, .slice va vn vc] 31)).alloc (.cells blank 34))
  have HN := hid (heap_alloc_new (w.alloc (.cells #[.int .i64 kd, .int .i64 cl, .int .i64 ca, .slice va vn vc] 31)) (.cells blank 34))
  rw [show (w.alloc (.cells #[.int .i64 kd, .int .i64 cl, .int .i64 ca, .slice va vn vc] 31)).heap.size = w.heap.size + 1 from by simp] at HN
  have HX0 := hid (HX.out.trans (heap_alloc_new w (.cells #[.int .i64 kd, .int .i64 cl, .int .i64 ca, .slice va vn vc] 31)))
  have HL := hid (look_any base p a b c d ch ep mk ct img K x _ (H.out.bl bA.out) hct)
  rw [hlook] at HL
  obtain ⟨tk, tl, ta, tv⟩ := t
  simp only at HL ⊢
  have HP : Hid (∀ W, Bl w W → _) := fun W hW => reach_any base p a b c d ch ep mk ct img K ep' W (H.out.bl hW) (Nat.le_trans hb hW.lt) hl
  generalize (img ++ if ep' = ep then [] else recB 1 [ep'] []) = img' at *
  have hw3 : (wh == 3) = false := by simpa using hwh
  clear h hc HX hct hlook hwh
  go_enter Try.func23, Try.ntmps23
  go_wp2_with fail
  refine HL.out.mono ?_
  rintro e w1 ⟨v1, rfl, hv1, hb1⟩
  obtain ⟨va1, vc1, ev⟩ : ∃ a c, v1 = .slice a tv.length c := by
    obtain ⟨a', c', e'⟩ := (ownsRow_sl hv1).len
    rw [ownsRow_len hv1] at e'
    exact ⟨a', c', e'⟩
  subst ev
  have HX1 := hid ((hb1.heap (by simp; omega)).trans HX0.out)
  have HN1 := hid ((hb1.heap (by simp)).trans HN.out)
  have lN : w.heap.size + 1 < w1.heap.size := (Array.getElem?_eq_some_iff.1 HN1.out).1
  have x0 := cell_of_row w1 w.heap.size 0 _ 31 (0, 0) HX1.out
  have x1 := cell_of_row w1 w.heap.size 1 _ 31 (0, 0) HX1.out
  have x2 := cell_of_row w1 w.heap.size 2 _ 31 (0, 0) HX1.out
  have x3 := cell_of_row w1 w.heap.size 3 _ 31 (0, 0) HX1.out
  simp at x0 x1 x2 x3
  have HB1 := hid (bA.out.trans hb1)
  have lX : w.heap.size < w1.heap.size := by omega
  have HV1 : Hid (w1.ownsRow w.heap.size 5 1 (.slice va1 tv.length vc1) tv.length (tv.map B8)) := ownsRow_base hv1 (fun g hg => Nat.le_trans bA.out.lt (hv1.lt g hg).1)
  unfold reply
  clear hb1 hv1 HL HX0 HN
  go_wp2_with fail
  refine (isContent_any kd cl ca va vn vc _ (by omega)).mono ?_
  rw [Hc.out]
  rintro e w2 ⟨rfl, hb2⟩
  have bE := hid ((Bl.refl w1).alloc (.cells #[.int .i64 wh, .int .i64 0, .int .i64 m, .int .i64 tk, .int .i64 tl, .int .i64 ta, .slice va1 tv.length vc1] 34))
  have HY := hid (heap_alloc_new w1 (.cells #[.int .i64 wh, .int .i64 0, .int .i64 m, .int .i64 tk, .int .i64 tl, .int .i64 ta, .slice va1 tv.length vc1] 34))
  have b2 := hid (bE.out.trans hb2)
  have HY2 := hid ((hb2.heap (by simp)).trans HY.out)
  have y0 := cell_of_row w2 w1.heap.size 0 _ 34 (0, 0) HY2.out
  simp at y0
  have HB2 := hid (HB1.out.trans b2.out)
  have HN2 := hid ((b2.out.heap lN).trans HN1.out)
  have HV2 := hid ((Only.of_bl (S := fun _ => False) b2.out).owns HV1.out fun _ _ e => e)
  have lN2 := Nat.lt_of_lt_of_le lN b2.out.lt
  have lY2 : w1.heap.size < w2.heap.size := (Array.getElem?_eq_some_iff.1 HY2.out).1
  have Hrc := hid (HP.out w2 HB2.out)
  clear hb2 x0 x1 x2 x3 HY bE
  go_wp2_with fail
  refine Hrc.out.mono ?_
  rintro e w3 ⟨K3, rfl, hk3, ho3, hs3⟩
  have Hs3 := hid hs3
  have hne : Hid (∀ g, w.heap.size ≤ g → ¬ (g = p ∨ (K 71).ownBlock = some g)) := by
    rintro g hg (e | e)
    · omega
    · have := (H.out.own.lt _ e).2; omega
  have HN3 := hid ((ho3.block _ lN2 (hne.out _ (by omega))).trans HN2.out)
  have HY3 := hid ((ho3.block _ lY2 (hne.out _ (by omega))).trans HY2.out)
  have HV3 := hid (ho3.owns HV2.out fun g hg => hne.out g (HV2.out.lt g hg).1)
  have HK3 := hid hk3
  have HO3 := hid ((Only.of_bl HB2.out).trans ho3)
  obtain ⟨n0, n1, n2, n3, n4, n5, n6, f0, f1, f2, f3, f4, f5, f6⟩ := blank_row HN3.out
  have z0 := cell_of_row w3 w1.heap.size 0 _ 34 (0, 0) HY3.out
  have z1 := cell_of_row w3 w1.heap.size 1 _ 34 (0, 0) HY3.out
  have z2 := cell_of_row w3 w1.heap.size 2 _ 34 (0, 0) HY3.out
  have z3 := cell_of_row w3 w1.heap.size 3 _ 34 (0, 0) HY3.out
  have z4 := cell_of_row w3 w1.heap.size 4 _ 34 (0, 0) HY3.out
  have z5 := cell_of_row w3 w1.heap.size 5 _ 34 (0, 0) HY3.out
  have z6 := cell_of_row w3 w1.heap.size 6 _ 34 (0, 0) HY3.out
  simp at z0 z1 z2 z3 z4 z5 z6
  clear hk3 ho3 hs3 Hrc
  go_wp2
  have F := Only.set7 (w := w3) (S := fun b => b = w.heap.size + 1) rfl (.int .i64 wh) (.int .i64 0) (.int .i64 m) (.int .i64 tk) (.int .i64 tl) (.int .i64 ta) (.slice va1 tv.length vc1)
  exact bodyPost_ret (v := reply wh 0 m tk tl ta (.slice va1 tv.length vc1)) (by simp [results, Try.results23, go_sem, reply, n0, n1, n2, n3, n4, n5, n6]) rfl ⟨K3, _, rfl, F.owns HV3.out fun b hb e => own_ne_block HV3.out HN3.out (by decide) (by rw [hb, e]), HK3.out.other F HN3.out (by omega), HO3.out.trans_new F (fun b e => by omega), fun e => ⟨(Hs3.out e).1, (HB2.out.trans (Hs3.out e).2).trans_only F (fun n e => by omega)⟩⟩

theorem set7_heap {w : World} {g : Nat} {a0 a1 a2 a3 a4 a5 a6 : Value} (h : w.heap[g]? = some (.cells #[a0, a1, a2, a3, a4, a5, a6] 34 (0, 0))) (u0 u1 u2 u3 u4 u5 u6 : Value) : (((((((w.setCell ⟨g, 0, none⟩ u0).setCell ⟨g, 1, none⟩ u1).setCell ⟨g, 2, none⟩ u2).setCell ⟨g, 3, none⟩ u3).setCell ⟨g, 4, none⟩ u4).setCell ⟨g, 5, none⟩ u5).setCell ⟨g, 6, none⟩ u6).heap[g]? = some (.cells #[u0, u1, u2, u3, u4, u5, u6] 34 (0, 0)) := by
  have h0 := Go.heap_setCell_same _ g 0 _ 34 u0 h
  rw [show (#[a0, a1, a2, a3, a4, a5, a6] : Array Value).setIfInBounds 0 u0 = #[u0, a1, a2, a3, a4, a5, a6] from rfl] at h0
  have h1 := Go.heap_setCell_same _ g 1 _ 34 u1 h0
  rw [show (#[u0, a1, a2, a3, a4, a5, a6] : Array Value).setIfInBounds 1 u1 = #[u0, u1, a2, a3, a4, a5, a6] from rfl] at h1
  have h2 := Go.heap_setCell_same _ g 2 _ 34 u2 h1
  rw [show (#[u0, u1, a2, a3, a4, a5, a6] : Array Value).setIfInBounds 2 u2 = #[u0, u1, u2, a3, a4, a5, a6] from rfl] at h2
  have h3 := Go.heap_setCell_same _ g 3 _ 34 u3 h2
  rw [show (#[u0, u1, u2, a3, a4, a5, a6] : Array Value).setIfInBounds 3 u3 = #[u0, u1, u2, u3, a4, a5, a6] from rfl] at h3
  have h4 := Go.heap_setCell_same _ g 4 _ 34 u4 h3
  rw [show (#[u0, u1, u2, u3, a4, a5, a6] : Array Value).setIfInBounds 4 u4 = #[u0, u1, u2, u3, u4, a5, a6] from rfl] at h4
  have h5 := Go.heap_setCell_same _ g 5 _ 34 u5 h4
  rw [show (#[u0, u1, u2, u3, u4, a5, a6] : Array Value).setIfInBounds 5 u5 = #[u0, u1, u2, u3, u4, u5, a6] from rfl] at h5
  have h6 := Go.heap_setCell_same _ g 6 _ 34 u6 h5
  rw [show (#[u0, u1, u2, u3, u4, u5, a6] : Array Value).setIfInBounds 6 u6 = #[u0, u1, u2, u3, u4, u5, u6] from rfl] at h6
  exact h6

set_option maxRecDepth 100000 in
set_option maxHeartbeats 2000000 in
theorem writeNot_any (base p : Nat) (a b c d ch ep mk : Int) (ct : Nat → Ct) (img : List Int) (K : Nat → Value) (ep' x kd cl ca : Int) (va : Option Addr) (vn vc : Nat) (w : World) (h : Ks base w p a b c d ch ep mk ct img K) (hb : base ≤ w.heap.size) (hl : img.length ≤ 30000000) (hct : ∀ i, i < 16 → (ct i).val.length ≤ 255) (hvn : vn ≤ 255)
    (he : ¬ ep' < ep) (wh m : Int) (t : Ct) (hlook : lookC a b c d ch mk ct x = (wh, m, t)) (hc : isC kd vn = false) :
    Calls Try.prog 23 #[.pointer (some ⟨p, 0, none⟩), .int .i64 ep', .int .i64 x, .agg #[.int .i64 kd, .int .i64 cl, .int .i64 ca, .slice va vn vc]] w fun e w' => ∃ K', e = .returned (reply 6 0 0 0 0 0 (.slice none 0 0)) ∧ Ks base w' p a b c d ch ep' mk ct (img ++ if ep' = ep then [] else recB 1 [ep'] []) K' ∧ Only (fun b => b = p ∨ (K 71).ownBlock = some b) w w' := by
  have H := hid h
  have hp := h.at'.lt
  have c5 := h.at'.cell 5 (by decide)
  rw [h.k5] at c5
  have Hc := hid hc
  have HX := hid (Below.heap_alloc (w.alloc (.cells #[.int .i64 kd, .int .i64 cl, .int .i64 ca, .slice va vn vc] 31)) (.cells blank 34) w.heap.size (by simp))
  have bA := hid (((Bl.refl w).alloc (.cells #[.int .i64 kd, .int .i64 cl, .int .i64 ca, .slice va vn vc] 31)).alloc (.cells blank 34))
  have HN := hid (heap_alloc_new (w.alloc (.cells #[.int .i64 kd, .int .i64 cl, .int .i64 ca, .slice va vn vc] 31)) (.cells blank 34))
  rw [show (w.alloc (.cells #[.int .i64 kd, .int .i64 cl, .int .i64 ca, .slice va vn vc] 31)).heap.size = w.heap.size + 1 from by simp] at HN
  have HX0 := hid (HX.out.trans (heap_alloc_new w (.cells #[.int .i64 kd, .int .i64 cl, .int .i64 ca, .slice va vn vc] 31)))
  have HL := hid (look_any base p a b c d ch ep mk ct img K x _ (H.out.bl bA.out) hct)
  rw [hlook] at HL
  obtain ⟨tk, tl, ta, tv⟩ := t
  simp only at HL
  have HP : Hid (∀ W, Bl w W → _) := fun W hW => reach_any base p a b c d ch ep mk ct img K ep' W (H.out.bl hW) (Nat.le_trans hb hW.lt) hl
  generalize (img ++ if ep' = ep then [] else recB 1 [ep'] []) = img' at *
  clear h hc HX hct hlook
  go_enter Try.func23, Try.ntmps23
  go_wp2_with fail
  refine HL.out.mono ?_
  rintro e w1 ⟨v1, rfl, hv1, hb1⟩
  obtain ⟨va1, vc1, ev⟩ : ∃ a c, v1 = .slice a tv.length c := by
    obtain ⟨a', c', e'⟩ := (ownsRow_sl hv1).len
    rw [ownsRow_len hv1] at e'
    exact ⟨a', c', e'⟩
  subst ev
  have HX1 := hid ((hb1.heap (by simp; omega)).trans HX0.out)
  have HN1 := hid ((hb1.heap (by simp)).trans HN.out)
  have lN : w.heap.size + 1 < w1.heap.size := (Array.getElem?_eq_some_iff.1 HN1.out).1
  have x0 := cell_of_row w1 w.heap.size 0 _ 31 (0, 0) HX1.out
  have x1 := cell_of_row w1 w.heap.size 1 _ 31 (0, 0) HX1.out
  have x2 := cell_of_row w1 w.heap.size 2 _ 31 (0, 0) HX1.out
  have x3 := cell_of_row w1 w.heap.size 3 _ 31 (0, 0) HX1.out
  simp at x0 x1 x2 x3
  have HB1 := hid (bA.out.trans hb1)
  have lX : w.heap.size < w1.heap.size := by omega
  have HV1 : Hid (w1.ownsRow w.heap.size 5 1 (.slice va1 tv.length vc1) tv.length (tv.map B8)) := ownsRow_base hv1 (fun g hg => Nat.le_trans bA.out.lt (hv1.lt g hg).1)
  unfold reply
  clear hb1 hv1 HL HX0 HN
  go_wp2_with fail
  refine (isContent_any kd cl ca va vn vc _ (by omega)).mono ?_
  rw [Hc.out]
  rintro e w2 ⟨rfl, hb2⟩
  have bE := hid ((Bl.refl w1).alloc (.cells #[.int .i64 wh, .int .i64 0, .int .i64 m, .int .i64 tk, .int .i64 tl, .int .i64 ta, .slice va1 tv.length vc1] 34))
  have HY := hid (heap_alloc_new w1 (.cells #[.int .i64 wh, .int .i64 0, .int .i64 m, .int .i64 tk, .int .i64 tl, .int .i64 ta, .slice va1 tv.length vc1] 34))
  have b2 := hid (bE.out.trans hb2)
  have HY2 := hid ((hb2.heap (by simp)).trans HY.out)
  have y0 := cell_of_row w2 w1.heap.size 0 _ 34 (0, 0) HY2.out
  have g0 := frozen_of_row w2 w1.heap.size 0 _ 34 HY2.out
  have y1 := cell_of_row w2 w1.heap.size 1 _ 34 (0, 0) HY2.out
  have g1 := frozen_of_row w2 w1.heap.size 1 _ 34 HY2.out
  have y2 := cell_of_row w2 w1.heap.size 2 _ 34 (0, 0) HY2.out
  have g2 := frozen_of_row w2 w1.heap.size 2 _ 34 HY2.out
  have y3 := cell_of_row w2 w1.heap.size 3 _ 34 (0, 0) HY2.out
  have g3 := frozen_of_row w2 w1.heap.size 3 _ 34 HY2.out
  have y4 := cell_of_row w2 w1.heap.size 4 _ 34 (0, 0) HY2.out
  have g4 := frozen_of_row w2 w1.heap.size 4 _ 34 HY2.out
  have y5 := cell_of_row w2 w1.heap.size 5 _ 34 (0, 0) HY2.out
  have g5 := frozen_of_row w2 w1.heap.size 5 _ 34 HY2.out
  have y6 := cell_of_row w2 w1.heap.size 6 _ 34 (0, 0) HY2.out
  have g6 := frozen_of_row w2 w1.heap.size 6 _ 34 HY2.out
  simp at y0 y1 y2 y3 y4 y5 y6
  have HB2 := hid (HB1.out.trans b2.out)
  have HN2 := hid ((b2.out.heap lN).trans HN1.out)
  have lN2 := Nat.lt_of_lt_of_le lN b2.out.lt
  have lY2 : w1.heap.size < w2.heap.size := (Array.getElem?_eq_some_iff.1 HY2.out).1
  have O7 := hid (Only.set7 (w := w2) (S := fun b => b = w1.heap.size) rfl (.int .i64 6) (.int .i64 0) (.int .i64 0) (.int .i64 0) (.int .i64 0) (.int .i64 0) (.slice none 0 0))
  have HY7 := hid (set7_heap HY2.out (.int .i64 6) (.int .i64 0) (.int .i64 0) (.int .i64 0) (.int .i64 0) (.int .i64 0) (.slice none 0 0))
  have HB7 := hid (HB2.out.trans_only O7.out (fun g e => by omega))
  have Hrc := hid (HP.out _ HB7.out)
  have HN7 := hid ((O7.out.block _ lN2 (by omega)).trans HN2.out)
  clear hb2 x0 x1 x2 x3 HY bE
  go_wp2_with fail
  refine Hrc.out.mono ?_
  rintro e w3 ⟨K3, rfl, hk3, ho3, _⟩
  have hne : Hid (∀ g, w.heap.size ≤ g → ¬ (g = p ∨ (K 71).ownBlock = some g)) := by
    rintro g hg (e | e)
    · omega
    · have := (H.out.own.lt _ e).2; omega
  have HN3 := hid ((ho3.block _ (Nat.lt_of_lt_of_le lN2 O7.out.size) (hne.out _ (by omega))).trans HN7.out)
  have HY3 := hid ((ho3.block _ (Nat.lt_of_lt_of_le lY2 O7.out.size) (hne.out _ (by omega))).trans HY7.out)
  have HK3 := hid hk3
  have HO3 := hid ((Only.of_bl HB7.out).trans ho3)
  obtain ⟨n0, n1, n2, n3, n4, n5, n6, f0, f1, f2, f3, f4, f5, f6⟩ := blank_row HN3.out
  have z0 := cell_of_row w3 w1.heap.size 0 _ 34 (0, 0) HY3.out
  have z1 := cell_of_row w3 w1.heap.size 1 _ 34 (0, 0) HY3.out
  have z2 := cell_of_row w3 w1.heap.size 2 _ 34 (0, 0) HY3.out
  have z3 := cell_of_row w3 w1.heap.size 3 _ 34 (0, 0) HY3.out
  have z4 := cell_of_row w3 w1.heap.size 4 _ 34 (0, 0) HY3.out
  have z5 := cell_of_row w3 w1.heap.size 5 _ 34 (0, 0) HY3.out
  have z6 := cell_of_row w3 w1.heap.size 6 _ 34 (0, 0) HY3.out
  simp at z0 z1 z2 z3 z4 z5 z6
  clear hk3 ho3 Hrc
  go_wp2
  have F := Only.set7 (w := w3) (S := fun b => b = w.heap.size + 1) rfl (.int .i64 6) (.int .i64 0) (.int .i64 0) (.int .i64 0) (.int .i64 0) (.int .i64 0) (.slice none 0 0)
  exact bodyPost_ret (v := reply 6 0 0 0 0 0 (.slice none 0 0)) (by simp [results, Try.results23, go_sem, reply, n0, n1, n2, n3, n4, n5, n6]) rfl ⟨K3, rfl, HK3.out.other F HN3.out (by omega), HO3.out.trans_new F (fun b e => by omega)⟩
end Go.Proofs.Ytbghhbpacijmmaa
