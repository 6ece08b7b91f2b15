-- Write: three cases.
-- A record's call is done again.
import Derived.Test.YtkgjpfamjedncaaGreatPutImageQ
import Derived.Deep.RegionHeld3
namespace Go.Proofs.YtkgjpfamjedncaaGreat
open Go.RowKit
attribute [local go_sem ↓] Go.wp_at_zero Go.wp_at_succ

theorem lookC_empty {a b c d ch mk : Int} {ct : Nat → Ct} {x : Int} (h : (lookC a b c d ch mk ct x).1 = 3) : lookC a b c d ch mk ct x = (3, 0, ⟨0, 0, 0, []⟩) ∧ ∃ i : Nat, i < 16 ∧ loc a b c d x = (ch, (i : Int), 0) := by
  unfold lookC at h ⊢
  by_cases h1 : (loc a b c d x).2.2 ≠ 0 ∨ (loc a b c d x).1 ≠ ch
  · rw [if_pos h1] at h; simp at h
  · rw [if_neg h1] at h ⊢
    have h0 : (loc a b c d x).2.2 = 0 := by
      rcases Int.decEq (loc a b c d x).2.2 0 with h | h
      · exact absurd (.inl h) h1
      · exact h
    have hch : (loc a b c d x).1 = ch := by
      rcases Int.decEq (loc a b c d x).1 ch with h | h
      · exact absurd (.inr h) h1
      · exact h
    by_cases h2 : x < mk
    · rw [if_pos h2] at h; simp at h
    · rw [if_neg h2] at h ⊢
      by_cases h3 : (ct (loc a b c d x).2.1.toNat).kd = 0
      · rw [if_pos h3]
        obtain ⟨i, hi, e⟩ := loc_cell h0
        exact ⟨rfl, i, hi, by rw [hch] at e; exact e⟩
      · rw [if_neg h3] at h; simp at h

set_option maxRecDepth 100000 in
set_option maxHeartbeats 2000000 in
theorem writeEmpty_any (base p : Nat) (a b c d ch ep mk : Int) (ct : Nat → Ct) (img : List Int) (K : Nat → Value) (ep' x kd cl ca : Int) (v : Value) (ys : List Int) (i : Nat) (w : World) (h : Ks base w p a b c d ch ep mk ct img K) (hb : base ≤ w.heap.size) (hl : img.length ≤ 30000000) (hct : ∀ i, i < 16 → (ct i).val.length ≤ 255) (hv : Bs w v (ys.map B8)) (hy : ys.length ≤ 255) (hvb : ∀ g, v.ownBlock = some g → g < w.heap.size ∧ (K 71).ownBlock ≠ some g ∧ g ≠ p)
    (he : ¬ ep' < ep) (hi : i < 16) (hloc : loc a b c d x = (ch, (i : Int), 0)) (hlook : lookC a b c d ch mk ct x = (3, 0, ⟨0, 0, 0, []⟩)) (hc : isC kd ys.length = true) :
    Calls Tryz.prog 75 #[.pointer (some ⟨p, 0, none⟩), .int .i64 ep', .int .i64 x, .agg #[.int .i64 kd, .int .i64 cl, .int .i64 ca, v]] w fun e w' => ∃ K', e = .returned (reply 1 0 0 0 0 0 (.slice none 0 0)) ∧ Ks base w' p a b c d ch ep' mk (fun j => if j = i then ⟨kd, cl, ca, ys⟩ else ct j) (img ++ recB 3 [ep', x, kd, cl, ca] ys) K' ∧ Gk p K K' w w' := by
  obtain ⟨va, vc, ev⟩ := hv.len
  rw [List.length_map] at ev
  subst ev
  have H := hid h
  have hp := h.at'.lt
  have c5 := h.at'.cell 5 (by decide)
  rw [h.k5] at c5
  have Hv := hid hv
  have Hvb := hid hvb
  have Hc := hid hc
  have HX := hid (Below.heap_alloc (w.alloc (.cells #[.int .i64 kd, .int .i64 cl, .int .i64 ca, .slice va ys.length vc] 42)) (.cells blank 98) w.heap.size (by simp))
  have bA := hid (((Bl.refl w).alloc (.cells #[.int .i64 kd, .int .i64 cl, .int .i64 ca, .slice va ys.length vc] 42)).alloc (.cells blank 98))
  have HN := hid (heap_alloc_new (w.alloc (.cells #[.int .i64 kd, .int .i64 cl, .int .i64 ca, .slice va ys.length vc] 42)) (.cells blank 98))
  rw [show (w.alloc (.cells #[.int .i64 kd, .int .i64 cl, .int .i64 ca, .slice va ys.length vc] 42)).heap.size = w.heap.size + 1 from by simp] at HN
  have HX0 := hid (HX.out.trans (heap_alloc_new w (.cells #[.int .i64 kd, .int .i64 cl, .int .i64 ca, .slice va ys.length vc] 42)))
  have HL := hid (look_any base p a b c d ch ep mk ct img K x _ (H.out.bl bA.out) hct)
  rw [hlook] at HL
  simp only at HL
  have HP : Hid (∀ W, Bl w W → _) := fun W hW => put_any base p a b c d ch ep mk ct img K ep' x kd cl ca _ ys i W (H.out.bl hW) (Nat.le_trans hb hW.lt) hl (hv.bl hW) hy (fun g e => ⟨Nat.lt_of_lt_of_le (hvb g e).1 hW.lt, (hvb g e).2⟩) hi hloc
  generalize (img ++ recB 3 [ep', x, kd, cl, ca] ys) = img' at *
  generalize (fun j => if j = i then (⟨kd, cl, ca, ys⟩ : Ct) else ct j) = ct' at *
  clear h hv hvb hc HX hct hlook hloc
  go_enter Tryz.func75, Tryz.ntmps75
  go_wp2_with fail
  refine HL.out.mono ?_
  rintro e w1 ⟨v1, rfl, hv1, hb1⟩
  obtain ⟨va1, vc1, ev⟩ : ∃ a c, v1 = .slice a 0 c := by
    obtain ⟨a', c', e'⟩ := (ownsRow_sl hv1).len
    exact ⟨a', c', e'⟩
  subst ev
  have HX1 := hid ((hb1.heap (by simp; omega)).trans HX0.out)
  have HN1 := hid ((hb1.heap (by simp)).trans HN.out)
  have lN : w.heap.size + 1 < w1.heap.size := (Array.getElem?_eq_some_iff.1 HN1.out).1
  have x0 := cell_of_row w1 w.heap.size 0 _ 42 (0, 0) HX1.out
  have x1 := cell_of_row w1 w.heap.size 1 _ 42 (0, 0) HX1.out
  have x2 := cell_of_row w1 w.heap.size 2 _ 42 (0, 0) HX1.out
  have x3 := cell_of_row w1 w.heap.size 3 _ 42 (0, 0) HX1.out
  simp at x0 x1 x2 x3
  have HB1 := hid (bA.out.trans hb1)
  have lX : w.heap.size < w1.heap.size := by omega
  unfold reply
  clear hb1 hv1 HL HX0 HN
  go_wp2_with fail
  refine (isContent_any kd cl ca va ys.length vc _ (by omega)).mono ?_
  rw [Hc.out]
  rintro e w2 ⟨rfl, hb2⟩
  have bE := hid ((Bl.refl w1).alloc (.cells #[.int .i64 3, .int .i64 0, .int .i64 0, .int .i64 0, .int .i64 0, .int .i64 0, .slice va1 0 vc1] 98))
  have HY := hid (heap_alloc_new w1 (.cells #[.int .i64 3, .int .i64 0, .int .i64 0, .int .i64 0, .int .i64 0, .int .i64 0, .slice va1 0 vc1] 98))
  have b2 := hid (bE.out.trans hb2)
  have y0 := cell_of_row w2 w1.heap.size 0 _ 98 (0, 0) ((hb2.heap (by simp)).trans HY.out)
  have q0 := (b2.out.cell lX).trans x0
  have q1 := (b2.out.cell lX).trans x1
  have q2 := (b2.out.cell lX).trans x2
  have q3 := (b2.out.cell lX).trans x3
  simp at y0
  have HB2 := hid (HB1.out.trans b2.out)
  have HN2 := hid ((b2.out.heap lN).trans HN1.out)
  have Hput := hid (HP.out w2 HB2.out)
  have lN2 := Nat.lt_of_lt_of_le lN b2.out.lt
  clear hb2 x0 x1 x2 x3 HY bE
  go_wp2_with fail
  refine Hput.out.mono ?_
  rintro e w3 ⟨K3, rfl, hk3, ho3⟩
  have hne : Hid (¬ (w.heap.size + 1 = p ∨ (K 71).ownBlock = some (w.heap.size + 1))) := by
    rintro (e | e)
    · omega
    · have := (H.out.own.lt _ e).2; omega
  have HN3 := hid ((ho3.only.block _ lN2 hne.out).trans HN2.out)
  have HK3 := hid hk3
  have HO3 := hid (ho3.pre HB2.out)
  obtain ⟨n0, n1, n2, n3, n4, n5, n6, f0, f1, f2, f3, f4, f5, f6⟩ := blank_row HN3.out
  clear hk3 ho3 Hput
  go_wp2
  have F := Only.set7 (w := w3) (S := fun b => b = w.heap.size + 1) rfl (.int .i64 1) (.int .i64 0) (.int .i64 0) (.int .i64 0) (.int .i64 0) (.int .i64 0) (.slice none 0 0)
  exact bodyPost_ret (v := reply 1 0 0 0 0 0 (.slice none 0 0)) (by simp [results, Tryz.results75, go_sem, reply, n0, n1, n2, n3, n4, n5, n6]) rfl ⟨K3, rfl, HK3.out.other F HN3.out (by omega), HO3.out.new F (fun b e => by omega)⟩

set_option maxRecDepth 100000 in
set_option maxHeartbeats 2000000 in
theorem writeTold_any (base p : Nat) (a b c d ch ep mk : Int) (ct : Nat → Ct) (img : List Int) (K : Nat → Value) (ep' x kd cl ca : Int) (va : Option Addr) (vn vc : Nat) (w : World) (h : Ks base w p a b c d ch ep mk ct img K) (hb : base ≤ w.heap.size) (hl : img.length ≤ 30000000) (hct : ∀ i, i < 16 → (ct i).val.length ≤ 255) (hvn : vn ≤ 255)
    (he : ¬ ep' < ep) (wh m : Int) (t : Ct) (hlook : lookC a b c d ch mk ct x = (wh, m, t)) (hwh : wh ≠ 3) (hc : isC kd vn = true) :
    Calls Tryz.prog 75 #[.pointer (some ⟨p, 0, none⟩), .int .i64 ep', .int .i64 x, .agg #[.int .i64 kd, .int .i64 cl, .int .i64 ca, .slice va vn vc]] w fun e w' => ∃ K' v', e = .returned (reply wh 0 m t.kd t.cl t.ca v') ∧ w'.ownsRow w.heap.size 5 1 v' t.val.length (t.val.map B8) ∧ Ks base w' p a b c d ch ep' mk ct (img ++ if ep' = ep then [] else recB 1 [ep'] []) K' ∧ Gk p K K' w w' ∧ (ep' = ep → K' = K ∧ Bl w w') ∧ ∀ g, v'.ownBlock = some g → ¬ KF K' g := by
  have H := hid h
  have hp := h.at'.lt
  have c5 := h.at'.cell 5 (by decide)
  rw [h.k5] at c5
  have Hc := hid hc
  have HX := hid (Below.heap_alloc (w.alloc (.cells #[.int .i64 kd, .int .i64 cl, .int .i64 ca, .slice va vn vc] 42)) (.cells blank 98) w.heap.size (by simp))
  have bA := hid (((Bl.refl w).alloc (.cells #[.int .i64 kd, .int .i64 cl, .int .i64 ca, .slice va vn vc] 42)).alloc (.cells blank 98))
  have HN := hid (heap_alloc_new (w.alloc (.cells #[.int .i64 kd, .int .i64 cl, .int .i64 ca, .slice va vn vc] 42)) (.cells blank 98))
  rw [show (w.alloc (.cells #[.int .i64 kd, .int .i64 cl, .int .i64 ca, .slice va vn vc] 42)).heap.size = w.heap.size + 1 from by simp] at HN
  have HX0 := hid (HX.out.trans (heap_alloc_new w (.cells #[.int .i64 kd, .int .i64 cl, .int .i64 ca, .slice va vn vc] 42)))
  have HL := hid (look_any base p a b c d ch ep mk ct img K x _ (H.out.bl bA.out) hct)
  rw [hlook] at HL
  obtain ⟨tk, tl, ta, tv⟩ := t
  simp only at HL ⊢
  have HP : Hid (∀ W, Bl w W → _) := fun W hW => reach_any base p a b c d ch ep mk ct img K ep' W (H.out.bl hW) (Nat.le_trans hb hW.lt) hl
  generalize (img ++ if ep' = ep then [] else recB 1 [ep'] []) = img' at *
  have hw3 : (wh == 3) = false := by simpa using hwh
  clear h hc HX hct hlook hwh
  go_enter Tryz.func75, Tryz.ntmps75
  go_wp2_with fail
  refine HL.out.mono ?_
  rintro e w1 ⟨v1, rfl, hv1, hb1⟩
  obtain ⟨va1, vc1, ev⟩ : ∃ a c, v1 = .slice a tv.length c := by
    obtain ⟨a', c', e'⟩ := (ownsRow_sl hv1).len
    rw [ownsRow_len hv1] at e'
    exact ⟨a', c', e'⟩
  subst ev
  have HX1 := hid ((hb1.heap (by simp; omega)).trans HX0.out)
  have HN1 := hid ((hb1.heap (by simp)).trans HN.out)
  have lN : w.heap.size + 1 < w1.heap.size := (Array.getElem?_eq_some_iff.1 HN1.out).1
  have x0 := cell_of_row w1 w.heap.size 0 _ 42 (0, 0) HX1.out
  have x1 := cell_of_row w1 w.heap.size 1 _ 42 (0, 0) HX1.out
  have x2 := cell_of_row w1 w.heap.size 2 _ 42 (0, 0) HX1.out
  have x3 := cell_of_row w1 w.heap.size 3 _ 42 (0, 0) HX1.out
  simp at x0 x1 x2 x3
  have HB1 := hid (bA.out.trans hb1)
  have lX : w.heap.size < w1.heap.size := by omega
  have HV1 : Hid (w1.ownsRow w.heap.size 5 1 (.slice va1 tv.length vc1) tv.length (tv.map B8)) := ownsRow_base hv1 (fun g hg => Nat.le_trans bA.out.lt (hv1.lt g hg).1)
  unfold reply
  clear hb1 hv1 HL HX0 HN
  go_wp2_with fail
  refine (isContent_any kd cl ca va vn vc _ (by omega)).mono ?_
  rw [Hc.out]
  rintro e w2 ⟨rfl, hb2⟩
  have bE := hid ((Bl.refl w1).alloc (.cells #[.int .i64 wh, .int .i64 0, .int .i64 m, .int .i64 tk, .int .i64 tl, .int .i64 ta, .slice va1 tv.length vc1] 98))
  have HY := hid (heap_alloc_new w1 (.cells #[.int .i64 wh, .int .i64 0, .int .i64 m, .int .i64 tk, .int .i64 tl, .int .i64 ta, .slice va1 tv.length vc1] 98))
  have b2 := hid (bE.out.trans hb2)
  have HY2 := hid ((hb2.heap (by simp)).trans HY.out)
  have y0 := cell_of_row w2 w1.heap.size 0 _ 98 (0, 0) HY2.out
  simp at y0
  have HB2 := hid (HB1.out.trans b2.out)
  have HN2 := hid ((b2.out.heap lN).trans HN1.out)
  have HV2 := hid ((Only.of_bl (S := fun _ => False) b2.out).owns HV1.out fun _ _ e => e)
  have lN2 := Nat.lt_of_lt_of_le lN b2.out.lt
  have lY2 : w1.heap.size < w2.heap.size := (Array.getElem?_eq_some_iff.1 HY2.out).1
  have Hrc := hid (HP.out w2 HB2.out)
  clear hb2 x0 x1 x2 x3 HY bE
  go_wp2_with fail
  refine Hrc.out.mono ?_
  rintro e w3 ⟨K3, rfl, hk3, ho3, hs3⟩
  have Hs3 := hid hs3
  have hne : Hid (∀ g, w.heap.size ≤ g → ¬ (g = p ∨ (K 71).ownBlock = some g)) := by
    rintro g hg (e | e)
    · omega
    · have := (H.out.own.lt _ e).2; omega
  have HN3 := hid ((ho3.only.block _ lN2 (hne.out _ (by omega))).trans HN2.out)
  have HY3 := hid ((ho3.only.block _ lY2 (hne.out _ (by omega))).trans HY2.out)
  have HV3 := hid (ho3.only.owns HV2.out fun g hg => hne.out g (HV2.out.lt g hg).1)
  have HK3 := hid hk3
  have HO3 := hid (ho3.pre HB2.out)
  have Hvd : Hid (∀ g, (Value.slice va1 tv.length vc1).ownBlock = some g → ¬ KF K3 g) := fun g e hF => by
    have h1 := HV2.out.lt g e
    rcases ho3.lies g hF with h2 | h2
    · have := (H.out.foot h2).2; omega
    · omega
  obtain ⟨n0, n1, n2, n3, n4, n5, n6, f0, f1, f2, f3, f4, f5, f6⟩ := blank_row HN3.out
  have z0 := cell_of_row w3 w1.heap.size 0 _ 98 (0, 0) HY3.out
  have z1 := cell_of_row w3 w1.heap.size 1 _ 98 (0, 0) HY3.out
  have z2 := cell_of_row w3 w1.heap.size 2 _ 98 (0, 0) HY3.out
  have z3 := cell_of_row w3 w1.heap.size 3 _ 98 (0, 0) HY3.out
  have z4 := cell_of_row w3 w1.heap.size 4 _ 98 (0, 0) HY3.out
  have z5 := cell_of_row w3 w1.heap.size 5 _ 98 (0, 0) HY3.out
  have z6 := cell_of_row w3 w1.heap.size 6 _ 98 (0, 0) HY3.out
  simp at z0 z1 z2 z3 z4 z5 z6
  clear hk3 ho3 hs3 Hrc
  go_wp2
  have F := Only.set7 (w := w3) (S := fun b => b = w.heap.size + 1) rfl (.int .i64 wh) (.int .i64 0) (.int .i64 m) (.int .i64 tk) (.int .i64 tl) (.int .i64 ta) (.slice va1 tv.length vc1)
  exact bodyPost_ret (v := reply wh 0 m tk tl ta (.slice va1 tv.length vc1)) (by simp [results, Tryz.results75, go_sem, reply, n0, n1, n2, n3, n4, n5, n6]) rfl ⟨K3, _, rfl, F.owns HV3.out fun b hb e => own_ne_block HV3.out HN3.out (by decide) (by rw [hb, e]), HK3.out.other F HN3.out (by omega), HO3.out.new F (fun b e => by omega), fun e => ⟨(Hs3.out e).1, (HB2.out.trans (Hs3.out e).2).trans_only F (fun n e => by omega)⟩, Hvd.out⟩

theorem set7_heap {w : World} {g : Nat} {a0 a1 a2 a3 a4 a5 a6 : Value} (h : w.heap[g]? = some (.cells #[a0, a1, a2, a3, a4, a5, a6] 98 (0, 0))) (u0 u1 u2 u3 u4 u5 u6 : Value) : (((((((w.setCell ⟨g, 0, none⟩ u0).setCell ⟨g, 1, none⟩ u1).setCell ⟨g, 2, none⟩ u2).setCell ⟨g, 3, none⟩ u3).setCell ⟨g, 4, none⟩ u4).setCell ⟨g, 5, none⟩ u5).setCell ⟨g, 6, none⟩ u6).heap[g]? = some (.cells #[u0, u1, u2, u3, u4, u5, u6] 98 (0, 0)) := by
  have h0 := Go.heap_setCell_same _ g 0 _ 98 u0 h
  rw [show (#[a0, a1, a2, a3, a4, a5, a6] : Array Value).setIfInBounds 0 u0 = #[u0, a1, a2, a3, a4, a5, a6] from rfl] at h0
  have h1 := Go.heap_setCell_same _ g 1 _ 98 u1 h0
  rw [show (#[u0, a1, a2, a3, a4, a5, a6] : Array Value).setIfInBounds 1 u1 = #[u0, u1, a2, a3, a4, a5, a6] from rfl] at h1
  have h2 := Go.heap_setCell_same _ g 2 _ 98 u2 h1
  rw [show (#[u0, u1, a2, a3, a4, a5, a6] : Array Value).setIfInBounds 2 u2 = #[u0, u1, u2, a3, a4, a5, a6] from rfl] at h2
  have h3 := Go.heap_setCell_same _ g 3 _ 98 u3 h2
  rw [show (#[u0, u1, u2, a3, a4, a5, a6] : Array Value).setIfInBounds 3 u3 = #[u0, u1, u2, u3, a4, a5, a6] from rfl] at h3
  have h4 := Go.heap_setCell_same _ g 4 _ 98 u4 h3
  rw [show (#[u0, u1, u2, u3, a4, a5, a6] : Array Value).setIfInBounds 4 u4 = #[u0, u1, u2, u3, u4, a5, a6] from rfl] at h4
  have h5 := Go.heap_setCell_same _ g 5 _ 98 u5 h4
  rw [show (#[u0, u1, u2, u3, u4, a5, a6] : Array Value).setIfInBounds 5 u5 = #[u0, u1, u2, u3, u4, u5, a6] from rfl] at h5
  have h6 := Go.heap_setCell_same _ g 6 _ 98 u6 h5
  rw [show (#[u0, u1, u2, u3, u4, u5, a6] : Array Value).setIfInBounds 6 u6 = #[u0, u1, u2, u3, u4, u5, u6] from rfl] at h6
  exact h6

set_option maxRecDepth 100000 in
set_option maxHeartbeats 2000000 in
theorem writeNot_any (base p : Nat) (a b c d ch ep mk : Int) (ct : Nat → Ct) (img : List Int) (K : Nat → Value) (ep' x kd cl ca : Int) (va : Option Addr) (vn vc : Nat) (w : World) (h : Ks base w p a b c d ch ep mk ct img K) (hb : base ≤ w.heap.size) (hl : img.length ≤ 30000000) (hct : ∀ i, i < 16 → (ct i).val.length ≤ 255) (hvn : vn ≤ 255)
    (he : ¬ ep' < ep) (wh m : Int) (t : Ct) (hlook : lookC a b c d ch mk ct x = (wh, m, t)) (hc : isC kd vn = false) :
    Calls Tryz.prog 75 #[.pointer (some ⟨p, 0, none⟩), .int .i64 ep', .int .i64 x, .agg #[.int .i64 kd, .int .i64 cl, .int .i64 ca, .slice va vn vc]] w fun e w' => ∃ K', e = .returned (reply 6 0 0 0 0 0 (.slice none 0 0)) ∧ Ks base w' p a b c d ch ep' mk ct (img ++ if ep' = ep then [] else recB 1 [ep'] []) K' ∧ Gk p K K' w w' := by
  have H := hid h
  have hp := h.at'.lt
  have c5 := h.at'.cell 5 (by decide)
  rw [h.k5] at c5
  have Hc := hid hc
  have HX := hid (Below.heap_alloc (w.alloc (.cells #[.int .i64 kd, .int .i64 cl, .int .i64 ca, .slice va vn vc] 42)) (.cells blank 98) w.heap.size (by simp))
  have bA := hid (((Bl.refl w).alloc (.cells #[.int .i64 kd, .int .i64 cl, .int .i64 ca, .slice va vn vc] 42)).alloc (.cells blank 98))
  have HN := hid (heap_alloc_new (w.alloc (.cells #[.int .i64 kd, .int .i64 cl, .int .i64 ca, .slice va vn vc] 42)) (.cells blank 98))
  rw [show (w.alloc (.cells #[.int .i64 kd, .int .i64 cl, .int .i64 ca, .slice va vn vc] 42)).heap.size = w.heap.size + 1 from by simp] at HN
  have HX0 := hid (HX.out.trans (heap_alloc_new w (.cells #[.int .i64 kd, .int .i64 cl, .int .i64 ca, .slice va vn vc] 42)))
  have HL := hid (look_any base p a b c d ch ep mk ct img K x _ (H.out.bl bA.out) hct)
  rw [hlook] at HL
  obtain ⟨tk, tl, ta, tv⟩ := t
  simp only at HL
  have HP : Hid (∀ W, Bl w W → _) := fun W hW => reach_any base p a b c d ch ep mk ct img K ep' W (H.out.bl hW) (Nat.le_trans hb hW.lt) hl
  generalize (img ++ if ep' = ep then [] else recB 1 [ep'] []) = img' at *
  clear h hc HX hct hlook
  go_enter Tryz.func75, Tryz.ntmps75
  go_wp2_with fail
  refine HL.out.mono ?_
  rintro e w1 ⟨v1, rfl, hv1, hb1⟩
  obtain ⟨va1, vc1, ev⟩ : ∃ a c, v1 = .slice a tv.length c := by
    obtain ⟨a', c', e'⟩ := (ownsRow_sl hv1).len
    rw [ownsRow_len hv1] at e'
    exact ⟨a', c', e'⟩
  subst ev
  have HX1 := hid ((hb1.heap (by simp; omega)).trans HX0.out)
  have HN1 := hid ((hb1.heap (by simp)).trans HN.out)
  have lN : w.heap.size + 1 < w1.heap.size := (Array.getElem?_eq_some_iff.1 HN1.out).1
  have x0 := cell_of_row w1 w.heap.size 0 _ 42 (0, 0) HX1.out
  have x1 := cell_of_row w1 w.heap.size 1 _ 42 (0, 0) HX1.out
  have x2 := cell_of_row w1 w.heap.size 2 _ 42 (0, 0) HX1.out
  have x3 := cell_of_row w1 w.heap.size 3 _ 42 (0, 0) HX1.out
  simp at x0 x1 x2 x3
  have HB1 := hid (bA.out.trans hb1)
  have lX : w.heap.size < w1.heap.size := by omega
  have HV1 : Hid (w1.ownsRow w.heap.size 5 1 (.slice va1 tv.length vc1) tv.length (tv.map B8)) := ownsRow_base hv1 (fun g hg => Nat.le_trans bA.out.lt (hv1.lt g hg).1)
  unfold reply
  clear hb1 hv1 HL HX0 HN
  go_wp2_with fail
  refine (isContent_any kd cl ca va vn vc _ (by omega)).mono ?_
  rw [Hc.out]
  rintro e w2 ⟨rfl, hb2⟩
  have bE := hid ((Bl.refl w1).alloc (.cells #[.int .i64 wh, .int .i64 0, .int .i64 m, .int .i64 tk, .int .i64 tl, .int .i64 ta, .slice va1 tv.length vc1] 98))
  have HY := hid (heap_alloc_new w1 (.cells #[.int .i64 wh, .int .i64 0, .int .i64 m, .int .i64 tk, .int .i64 tl, .int .i64 ta, .slice va1 tv.length vc1] 98))
  have b2 := hid (bE.out.trans hb2)
  have HY2 := hid ((hb2.heap (by simp)).trans HY.out)
  have y0 := cell_of_row w2 w1.heap.size 0 _ 98 (0, 0) HY2.out
  have g0 := frozen_of_row w2 w1.heap.size 0 _ 98 HY2.out
  have y1 := cell_of_row w2 w1.heap.size 1 _ 98 (0, 0) HY2.out
  have g1 := frozen_of_row w2 w1.heap.size 1 _ 98 HY2.out
  have y2 := cell_of_row w2 w1.heap.size 2 _ 98 (0, 0) HY2.out
  have g2 := frozen_of_row w2 w1.heap.size 2 _ 98 HY2.out
  have y3 := cell_of_row w2 w1.heap.size 3 _ 98 (0, 0) HY2.out
  have g3 := frozen_of_row w2 w1.heap.size 3 _ 98 HY2.out
  have y4 := cell_of_row w2 w1.heap.size 4 _ 98 (0, 0) HY2.out
  have g4 := frozen_of_row w2 w1.heap.size 4 _ 98 HY2.out
  have y5 := cell_of_row w2 w1.heap.size 5 _ 98 (0, 0) HY2.out
  have g5 := frozen_of_row w2 w1.heap.size 5 _ 98 HY2.out
  have y6 := cell_of_row w2 w1.heap.size 6 _ 98 (0, 0) HY2.out
  have g6 := frozen_of_row w2 w1.heap.size 6 _ 98 HY2.out
  simp at y0 y1 y2 y3 y4 y5 y6
  have HB2 := hid (HB1.out.trans b2.out)
  have HN2 := hid ((b2.out.heap lN).trans HN1.out)
  have lN2 := Nat.lt_of_lt_of_le lN b2.out.lt
  have lY2 : w1.heap.size < w2.heap.size := (Array.getElem?_eq_some_iff.1 HY2.out).1
  have O7 := hid (Only.set7 (w := w2) (S := fun b => b = w1.heap.size) rfl (.int .i64 6) (.int .i64 0) (.int .i64 0) (.int .i64 0) (.int .i64 0) (.int .i64 0) (.slice none 0 0))
  have HY7 := hid (set7_heap HY2.out (.int .i64 6) (.int .i64 0) (.int .i64 0) (.int .i64 0) (.int .i64 0) (.int .i64 0) (.slice none 0 0))
  have HB7 := hid (HB2.out.trans_only O7.out (fun g e => by omega))
  have Hrc := hid (HP.out _ HB7.out)
  have HN7 := hid ((O7.out.block _ lN2 (by omega)).trans HN2.out)
  clear hb2 x0 x1 x2 x3 HY bE
  go_wp2_with fail
  refine Hrc.out.mono ?_
  rintro e w3 ⟨K3, rfl, hk3, ho3, _⟩
  have hne : Hid (∀ g, w.heap.size ≤ g → ¬ (g = p ∨ (K 71).ownBlock = some g)) := by
    rintro g hg (e | e)
    · omega
    · have := (H.out.own.lt _ e).2; omega
  have HN3 := hid ((ho3.only.block _ (Nat.lt_of_lt_of_le lN2 O7.out.size) (hne.out _ (by omega))).trans HN7.out)
  have HY3 := hid ((ho3.only.block _ (Nat.lt_of_lt_of_le lY2 O7.out.size) (hne.out _ (by omega))).trans HY7.out)
  have HK3 := hid hk3
  have HO3 := hid (ho3.pre HB7.out)
  obtain ⟨n0, n1, n2, n3, n4, n5, n6, f0, f1, f2, f3, f4, f5, f6⟩ := blank_row HN3.out
  have z0 := cell_of_row w3 w1.heap.size 0 _ 98 (0, 0) HY3.out
  have z1 := cell_of_row w3 w1.heap.size 1 _ 98 (0, 0) HY3.out
  have z2 := cell_of_row w3 w1.heap.size 2 _ 98 (0, 0) HY3.out
  have z3 := cell_of_row w3 w1.heap.size 3 _ 98 (0, 0) HY3.out
  have z4 := cell_of_row w3 w1.heap.size 4 _ 98 (0, 0) HY3.out
  have z5 := cell_of_row w3 w1.heap.size 5 _ 98 (0, 0) HY3.out
  have z6 := cell_of_row w3 w1.heap.size 6 _ 98 (0, 0) HY3.out
  simp at z0 z1 z2 z3 z4 z5 z6
  clear hk3 ho3 Hrc
  go_wp2
  have F := Only.set7 (w := w3) (S := fun b => b = w.heap.size + 1) rfl (.int .i64 6) (.int .i64 0) (.int .i64 0) (.int .i64 0) (.int .i64 0) (.int .i64 0) (.slice none 0 0)
  exact bodyPost_ret (v := reply 6 0 0 0 0 0 (.slice none 0 0)) (by simp [results, Tryz.results75, go_sem, reply, n0, n1, n2, n3, n4, n5, n6]) rfl ⟨K3, rfl, HK3.out.other F HN3.out (by omega), HO3.out.new F (fun b e => by omega)⟩
end Go.Proofs.YtkgjpfamjedncaaGreat

namespace Go.Proofs.YtkgjpfamjedncaaGreat
open Go.RowKit
attribute [local go_sem ↓] Go.wp_at_zero Go.wp_at_succ

/-- What cells hold besides their settings and their image. -/
structure St where
  ep : Int
  mark : Int
  ct : Nat → Ct

/-- The record that a call leaves, and what the cells are behind it. -/
inductive Plays (a b c d ch : Int) : St → Rc → St → Prop
  | sealed (s : St) (e : Int) (h : s.ep < e) : Plays a b c d ch s ⟨1, [e], []⟩ ⟨e, s.mark, s.ct⟩
  | trim (s : St) (e m : Int) (h : ¬ e < s.ep) (hm : s.mark < m) : Plays a b c d ch s ⟨2, [e, m], []⟩ ⟨e, m, s.ct⟩
  | write (s : St) (e x kd cl ca : Int) (ys : List Int) (i : Nat) (h : ¬ e < s.ep) (hi : i < 16) (hloc : loc a b c d x = (ch, (i : Int), 0)) (hlook : lookC a b c d ch s.mark s.ct x = (3, 0, ⟨0, 0, 0, []⟩)) (hc : isC kd ys.length = true) : Plays a b c d ch s ⟨3, [e, x, kd, cl, ca], ys⟩ ⟨e, s.mark, fun j => if j = i then ⟨kd, cl, ca, ys⟩ else s.ct j⟩

theorem isC_len {kd : Int} {n : Nat} (h : isC kd n = true) : n ≤ 8 := by
  unfold isC at h
  split at h
  · simp at h; omega
  · split at h
    · simp at h; omega
    · simp at h

set_option maxRecDepth 100000 in
set_option maxHeartbeats 2000000 in
theorem again_any (base p B : Nat) (a b c d ch : Int) (s s' : St) (r : Rc) (img : List Int) (K : Nat → Value) (nv vv : Value) (w : World) (h : Ks base w p a b c d ch s.ep s.mark s.ct img K) (hb : base ≤ w.heap.size) (hl : img.length ≤ 30000000) (hct : ∀ i, i < 16 → (s.ct i).val.length ≤ 255) (hpl : Plays a b c d ch s r s')
    (hn : w.ownsRow B 3 1 nv r.ns.length (r.ns.map (Value.int .i64))) (hv : w.ownsRow B 5 1 vv r.val.length (r.val.map B8)) (hvb : ∀ g, vv.ownBlock = some g → (K 71).ownBlock ≠ some g) :
    Calls Tryz.prog 91 #[.pointer (some ⟨p, 0, none⟩), .agg #[.int .i64 r.kd, nv, vv]] w fun e w' => ∃ K', e = .returned (.tuple #[]) ∧ Ks base w' p a b c d ch s'.ep s'.mark s'.ct (img ++ r.bytes) K' ∧ Only (fun b => b = p ∨ (K 71).ownBlock = some b) w w' := by
  have hp := h.at'.lt
  obtain ⟨va, vc, ev⟩ := (ownsRow_bs hv).len
  rw [List.length_map] at ev
  have Hvv := hid (ownsRow_bs hv)
  have hvp : ∀ g, vv.ownBlock = some g → g < w.heap.size ∧ (K 71).ownBlock ≠ some g ∧ g ≠ p := fun g e => ⟨(hv.lt g e).2, hvb g e, fun e' => h.at'.ne_own hv (by decide) (by rw [e, e'])⟩
  have Hvp := hid hvp
  have H := hid h
  clear h hv hvb hvp
  cases hpl with
  | sealed e he =>
    simp only at hn Hvv ev
    obtain ⟨g, cap, rfl⟩ := own_shape hn (by simp)
    have lg := (hn.lt g rfl).2
    have q0 := hn.cellAt 0 (by simp)
    simp only [List.map_cons, List.getElem?_cons_zero] at q0
    have bA : Hid (Bl w (w.alloc (.cells #[.int .i64 1, .slice (some ⟨g, 0, none⟩) 1 cap, vv] 170))) := (Bl.refl w).alloc _
    have HS := hid (seal_any base p a b c d ch s.ep s.mark s.ct img K e _ (H.out.bl bA.out) (Nat.le_trans hb bA.out.lt) hl)
    rw [if_neg (by omega), if_neg (by omega), if_neg (by omega)] at HS
    subst ev
    simp only [Rc.bytes]
    clear hn
    generalize img ++ recB 1 [e] [] = img' at *
    go_enter Tryz.func91, Tryz.ntmps91
    go_wp2_with fail
    refine HS.out.mono ?_
    rintro e1 w1 ⟨K', rfl, hk, ho⟩
    have HK := hid hk
    have HO := hid ho.only
    clear hk ho
    unfold reply
    go_wp2
    go_end0
    exact ⟨K', rfl, HK.out, (Only.of_bl bA.out).trans HO.out⟩
  | trim e m he hm =>
    simp only at hn Hvv ev
    obtain ⟨g, cap, rfl⟩ := own_shape hn (by simp)
    have lg := (hn.lt g rfl).2
    have q0 := hn.cellAt 0 (by simp)
    simp only [List.map_cons, List.getElem?_cons_zero] at q0
    have q1 := hn.cellAt 1 (by simp)
    simp only [List.map_cons, List.getElem?_cons_zero, List.getElem?_cons_succ] at q1
    have bA : Hid (Bl w (w.alloc (.cells #[.int .i64 2, .slice (some ⟨g, 0, none⟩) 2 cap, vv] 170))) := (Bl.refl w).alloc _
    have HS : Hid (∀ W, Bl w W → _) := fun W hW => trimNew_any base p a b c d ch s.ep s.mark s.ct img K e m W (H.out.bl hW) (Nat.le_trans hb hW.lt) hl he
    rw [if_pos hm, if_pos hm] at HS
    subst ev
    simp only [Rc.bytes]
    clear hn
    generalize img ++ recB 2 [e, m] [] = img' at *
    go_enter Tryz.func91, Tryz.ntmps91
    go_wp2_with fail
    go_region_with (go_at_call 77; refine (HS.out _ (by exact bA.out.drewN _)).mono ?_; rintro e1 w1 ⟨K', rfl, hk, ho⟩; have HK := hid hk; have HO := hid ho.only; clear hk ho; unfold reply)
    all_goals
      go_end0
      exact ⟨K', rfl, HK.out, (Only.of_bl (bA.out.drewN 1)).trans HO.out⟩
  | write e x kd cl ca ys i he hi hloc hlook hc =>
    simp only at hn Hvv ev
    obtain ⟨g, cap, rfl⟩ := own_shape hn (by simp)
    have lg := (hn.lt g rfl).2
    have q0 := hn.cellAt 0 (by simp)
    have q1 := hn.cellAt 1 (by simp)
    have q2 := hn.cellAt 2 (by simp)
    have q3 := hn.cellAt 3 (by simp)
    have q4 := hn.cellAt 4 (by simp)
    simp only [List.map_cons, List.getElem?_cons_zero, List.getElem?_cons_succ] at q0 q1 q2 q3 q4
    have bA : Hid (Bl w (w.alloc (.cells #[.int .i64 3, .slice (some ⟨g, 0, none⟩) 5 cap, vv] 170))) := (Bl.refl w).alloc _
    have hS1 : Hid (¬ (g = p ∨ (K 71).ownBlock = some g)) := by
      rintro (e' | e')
      · exact H.out.at'.ne_own hn (by decide) (by rw [← e']; rfl)
      · exact ownsRow_type hn H.out.own (by decide) g rfl e'
    have hS2 : Hid (¬ (w.heap.size = p ∨ (K 71).ownBlock = some w.heap.size)) := by
      rintro (e' | e')
      · omega
      · have := (H.out.own.lt _ e').2; omega
    have lA : g < (w.alloc (.cells #[.int .i64 3, .slice (some ⟨g, 0, none⟩) 5 cap, vv] 170)).heap.size := Nat.lt_of_lt_of_le lg bA.out.lt
    have lB : w.heap.size < (w.alloc (.cells #[.int .i64 3, .slice (some ⟨g, 0, none⟩) 5 cap, vv] 170)).heap.size := by simp
    have b2 : (w.alloc (.cells #[.int .i64 3, .slice (some ⟨g, 0, none⟩) 5 cap, vv] 170)).cell? ⟨w.heap.size, 2, none⟩ = some vv := by rw [cell_of_row _ _ 2 _ 170 (0, 0) (heap_alloc_new w _)]; rfl
    have HS : Hid (∀ W, Bl w W → _) := fun W hW => writeEmpty_any base p a b c d ch s.ep s.mark s.ct img K e x kd cl ca vv ys i W (H.out.bl hW) (Nat.le_trans hb hW.lt) hl hct (Hvv.out.bl hW) (by have := isC_len hc; omega) (fun g e => ⟨Nat.lt_of_lt_of_le (Hvp.out g e).1 hW.lt, (Hvp.out g e).2⟩) he hi hloc hlook hc
    subst ev
    simp only [Rc.bytes]
    clear hn
    generalize img ++ recB 3 [e, x, kd, cl, ca] ys = img' at *
    generalize (fun j => if j = i then (⟨kd, cl, ca, ys⟩ : Ct) else s.ct j) = ct' at *
    go_enter Tryz.func91, Tryz.ntmps91
    go_wp2_with fail
    go_region_held3 (fun W => W.cell? ⟨g, 0, none⟩ = some (.int .i64 e) ∧ W.cell? ⟨g, 1, none⟩ = some (.int .i64 x) ∧ W.cell? ⟨g, 2, none⟩ = some (.int .i64 kd) ∧ W.cell? ⟨g, 3, none⟩ = some (.int .i64 cl) ∧ W.cell? ⟨g, 4, none⟩ = some (.int .i64 ca) ∧ W.cell? ⟨w.heap.size, 2, none⟩ = some (.slice va ys.length vc)) (go_keep)
      (first | (go_at_call 75; refine (HS.out _ (by exact bA.out.drewN _)).mono ?_; rintro e1 w1 ⟨K', rfl, hk, ho⟩; have z0 := (ho.only.cell (o := 0) (by exact lA) hS1.out).trans (((bA.out.drew).cell lg).trans q0); have z1 := (ho.only.cell (o := 1) (by exact lA) hS1.out).trans (((bA.out.drew).cell lg).trans q1); have z2 := (ho.only.cell (o := 2) (by exact lA) hS1.out).trans (((bA.out.drew).cell lg).trans q2); have z3 := (ho.only.cell (o := 3) (by exact lA) hS1.out).trans (((bA.out.drew).cell lg).trans q3); have z4 := (ho.only.cell (o := 4) (by exact lA) hS1.out).trans (((bA.out.drew).cell lg).trans q4); have z5 := (ho.only.cell (o := 2) (by exact lB) hS2.out).trans b2; have HK := hid hk; have HO := hid ho.only; clear hk ho; unfold reply))
    all_goals
      go_end0
      exact ⟨K', rfl, HK.out, (Only.of_bl (bA.out.drewN 1)).trans HO.out⟩
end Go.Proofs.YtkgjpfamjedncaaGreat
