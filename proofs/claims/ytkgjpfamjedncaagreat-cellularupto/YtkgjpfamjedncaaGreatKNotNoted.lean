-- A content that may not be, however long: a unit refuses it.
-- Cells are kept as they are, with the image's length, and the image is put into the book.
import Derived.Test.YtkgjpfamjedncaaGreatKSpecKWriteDTagDRead
import Derived.Deep.DeepCutAuto
namespace Go.Proofs.YtkgjpfamjedncaaGreat
open Go.RowKit Go.Maps
attribute [local go_sem ↓] Go.wp_at_zero Go.wp_at_succ

set_option maxRecDepth 100000 in
set_option maxHeartbeats 2000000 in
theorem writeNot_big (base p : Nat) (a b c d ch ep mk : Int) (ct : Nat → Ct) (img : List Int) (K : Nat → Value) (ep' x kd cl ca : Int) (va : Option Addr) (vn vc : Nat) (w : World) (h : Ks base w p a b c d ch ep mk ct img K) (hb : base ≤ w.heap.size) (hl : img.length ≤ 30000000) (hct : ∀ i, i < 16 → (ct i).val.length ≤ 255) (hvn : vn ≤ 40000000)
    (he : ¬ ep' < ep) (wh m : Int) (t : Ct) (hlook : lookC a b c d ch mk ct x = (wh, m, t)) (hc : isC kd vn = false) :
    Calls Tryz.prog 75 #[.pointer (some ⟨p, 0, none⟩), .int .i64 ep', .int .i64 x, .agg #[.int .i64 kd, .int .i64 cl, .int .i64 ca, .slice va vn vc]] w fun e w' => ∃ K', e = .returned (reply 6 0 0 0 0 0 (.slice none 0 0)) ∧ Ks base w' p a b c d ch ep' mk ct (img ++ if ep' = ep then [] else recB 1 [ep'] []) K' ∧ Gk p K K' w w' := by
  have H := hid h
  have hp := h.at'.lt
  have c5 := h.at'.cell 5 (by decide)
  rw [h.k5] at c5
  have Hc := hid hc
  have HX := hid (Below.heap_alloc (w.alloc (.cells #[.int .i64 kd, .int .i64 cl, .int .i64 ca, .slice va vn vc] 42)) (.cells blank 98) w.heap.size (by simp))
  have bA := hid (((Bl.refl w).alloc (.cells #[.int .i64 kd, .int .i64 cl, .int .i64 ca, .slice va vn vc] 42)).alloc (.cells blank 98))
  have HN := hid (heap_alloc_new (w.alloc (.cells #[.int .i64 kd, .int .i64 cl, .int .i64 ca, .slice va vn vc] 42)) (.cells blank 98))
  rw [show (w.alloc (.cells #[.int .i64 kd, .int .i64 cl, .int .i64 ca, .slice va vn vc] 42)).heap.size = w.heap.size + 1 from by simp] at HN
  have HX0 := hid (HX.out.trans (heap_alloc_new w (.cells #[.int .i64 kd, .int .i64 cl, .int .i64 ca, .slice va vn vc] 42)))
  have HL := hid (look_any base p a b c d ch ep mk ct img K x _ (H.out.bl bA.out) hct)
  rw [hlook] at HL
  obtain ⟨tk, tl, ta, tv⟩ := t
  simp only at HL
  have HP : Hid (∀ W, Bl w W → _) := fun W hW => reach_any base p a b c d ch ep mk ct img K ep' W (H.out.bl hW) (Nat.le_trans hb hW.lt) hl
  generalize (img ++ if ep' = ep then [] else recB 1 [ep'] []) = img' at *
  clear h hc HX hct hlook
  go_enter Tryz.func75, Tryz.ntmps75
  go_wp2_with fail
  refine HL.out.mono ?_
  rintro e w1 ⟨v1, rfl, hv1, hb1⟩
  obtain ⟨va1, vc1, ev⟩ : ∃ a c, v1 = .slice a tv.length c := by
    obtain ⟨a', c', e'⟩ := (ownsRow_sl hv1).len
    rw [ownsRow_len hv1] at e'
    exact ⟨a', c', e'⟩
  subst ev
  have HX1 := hid ((hb1.heap (by simp; omega)).trans HX0.out)
  have HN1 := hid ((hb1.heap (by simp)).trans HN.out)
  have lN : w.heap.size + 1 < w1.heap.size := (Array.getElem?_eq_some_iff.1 HN1.out).1
  have x0 := cell_of_row w1 w.heap.size 0 _ 42 (0, 0) HX1.out
  have x1 := cell_of_row w1 w.heap.size 1 _ 42 (0, 0) HX1.out
  have x2 := cell_of_row w1 w.heap.size 2 _ 42 (0, 0) HX1.out
  have x3 := cell_of_row w1 w.heap.size 3 _ 42 (0, 0) HX1.out
  simp at x0 x1 x2 x3
  have HB1 := hid (bA.out.trans hb1)
  have lX : w.heap.size < w1.heap.size := by omega
  have HV1 : Hid (w1.ownsRow w.heap.size 5 1 (.slice va1 tv.length vc1) tv.length (tv.map B8)) := ownsRow_base hv1 (fun g hg => Nat.le_trans bA.out.lt (hv1.lt g hg).1)
  unfold reply
  clear hb1 hv1 HL HX0 HN
  go_wp2_with fail
  refine (isContent_any kd cl ca va vn vc _ (by omega)).mono ?_
  rw [Hc.out]
  rintro e w2 ⟨rfl, hb2⟩
  have bE := hid ((Bl.refl w1).alloc (.cells #[.int .i64 wh, .int .i64 0, .int .i64 m, .int .i64 tk, .int .i64 tl, .int .i64 ta, .slice va1 tv.length vc1] 98))
  have HY := hid (heap_alloc_new w1 (.cells #[.int .i64 wh, .int .i64 0, .int .i64 m, .int .i64 tk, .int .i64 tl, .int .i64 ta, .slice va1 tv.length vc1] 98))
  have b2 := hid (bE.out.trans hb2)
  have HY2 := hid ((hb2.heap (by simp)).trans HY.out)
  have y0 := cell_of_row w2 w1.heap.size 0 _ 98 (0, 0) HY2.out
  have g0 := frozen_of_row w2 w1.heap.size 0 _ 98 HY2.out
  have y1 := cell_of_row w2 w1.heap.size 1 _ 98 (0, 0) HY2.out
  have g1 := frozen_of_row w2 w1.heap.size 1 _ 98 HY2.out
  have y2 := cell_of_row w2 w1.heap.size 2 _ 98 (0, 0) HY2.out
  have g2 := frozen_of_row w2 w1.heap.size 2 _ 98 HY2.out
  have y3 := cell_of_row w2 w1.heap.size 3 _ 98 (0, 0) HY2.out
  have g3 := frozen_of_row w2 w1.heap.size 3 _ 98 HY2.out
  have y4 := cell_of_row w2 w1.heap.size 4 _ 98 (0, 0) HY2.out
  have g4 := frozen_of_row w2 w1.heap.size 4 _ 98 HY2.out
  have y5 := cell_of_row w2 w1.heap.size 5 _ 98 (0, 0) HY2.out
  have g5 := frozen_of_row w2 w1.heap.size 5 _ 98 HY2.out
  have y6 := cell_of_row w2 w1.heap.size 6 _ 98 (0, 0) HY2.out
  have g6 := frozen_of_row w2 w1.heap.size 6 _ 98 HY2.out
  simp at y0 y1 y2 y3 y4 y5 y6
  have HB2 := hid (HB1.out.trans b2.out)
  have HN2 := hid ((b2.out.heap lN).trans HN1.out)
  have lN2 := Nat.lt_of_lt_of_le lN b2.out.lt
  have lY2 : w1.heap.size < w2.heap.size := (Array.getElem?_eq_some_iff.1 HY2.out).1
  have O7 := hid (Only.set7 (w := w2) (S := fun b => b = w1.heap.size) rfl (.int .i64 6) (.int .i64 0) (.int .i64 0) (.int .i64 0) (.int .i64 0) (.int .i64 0) (.slice none 0 0))
  have HY7 := hid (set7_heap HY2.out (.int .i64 6) (.int .i64 0) (.int .i64 0) (.int .i64 0) (.int .i64 0) (.int .i64 0) (.slice none 0 0))
  have HB7 := hid (HB2.out.trans_only O7.out (fun g e => by omega))
  have Hrc := hid (HP.out _ HB7.out)
  have HN7 := hid ((O7.out.block _ lN2 (by omega)).trans HN2.out)
  clear hb2 x0 x1 x2 x3 HY bE
  go_wp2_with fail
  refine Hrc.out.mono ?_
  rintro e w3 ⟨K3, rfl, hk3, ho3, _⟩
  have hne : Hid (∀ g, w.heap.size ≤ g → ¬ (g = p ∨ (K 71).ownBlock = some g)) := by
    rintro g hg (e | e)
    · omega
    · have := (H.out.own.lt _ e).2; omega
  have HN3 := hid ((ho3.only.block _ (Nat.lt_of_lt_of_le lN2 O7.out.size) (hne.out _ (by omega))).trans HN7.out)
  have HY3 := hid ((ho3.only.block _ (Nat.lt_of_lt_of_le lY2 O7.out.size) (hne.out _ (by omega))).trans HY7.out)
  have HK3 := hid hk3
  have HO3 := hid (ho3.pre HB7.out)
  obtain ⟨n0, n1, n2, n3, n4, n5, n6, f0, f1, f2, f3, f4, f5, f6⟩ := blank_row HN3.out
  have z0 := cell_of_row w3 w1.heap.size 0 _ 98 (0, 0) HY3.out
  have z1 := cell_of_row w3 w1.heap.size 1 _ 98 (0, 0) HY3.out
  have z2 := cell_of_row w3 w1.heap.size 2 _ 98 (0, 0) HY3.out
  have z3 := cell_of_row w3 w1.heap.size 3 _ 98 (0, 0) HY3.out
  have z4 := cell_of_row w3 w1.heap.size 4 _ 98 (0, 0) HY3.out
  have z5 := cell_of_row w3 w1.heap.size 5 _ 98 (0, 0) HY3.out
  have z6 := cell_of_row w3 w1.heap.size 6 _ 98 (0, 0) HY3.out
  simp at z0 z1 z2 z3 z4 z5 z6
  clear hk3 ho3 Hrc
  go_wp2
  have F := Only.set7 (w := w3) (S := fun b => b = w.heap.size + 1) rfl (.int .i64 6) (.int .i64 0) (.int .i64 0) (.int .i64 0) (.int .i64 0) (.int .i64 0) (.slice none 0 0)
  exact bodyPost_ret (v := reply 6 0 0 0 0 0 (.slice none 0 0)) (by simp [results, Tryz.results75, go_sem, reply, n0, n1, n2, n3, n4, n5, n6]) rfl ⟨K3, rfl, HK3.out.other F HN3.out (by omega), HO3.out.new F (fun b e => by omega)⟩

theorem fwrite_notB (base p : Nat) (a b c d ch ep mk : Int) (ct : Nat → Ct) (img : List Int) (K : Nat → Value) (ep' x kd cl ca : Int) (va : Option Addr) (vn vc : Nat) (w : World) (h : Ks base w p a b c d ch ep mk ct img K) (hb : base ≤ w.heap.size) (hl : img.length ≤ 30000000) (hct : ∀ i, i < 16 → (ct i).val.length ≤ 255) (hvn : vn ≤ 40000000) (he : ¬ ep' < ep) (wh m : Int) (t : Ct) (hlook : lookC a b c d ch mk ct x = (wh, m, t)) (hc : isC kd vn = false) :
    Calls Tryz.prog 43 #[.pointer (some ⟨p, 0, none⟩), .int .i64 ep', .int .i64 x, .agg #[.int .i64 kd, .int .i64 cl, .int .i64 ca, .slice va vn vc]] w fun e w' => ∃ K', e = .returned (reply 6 0 0 0 0 0 nilS) ∧ Ks base w' p a b c d ch ep' mk ct (img ++ if ep' = ep then [] else recB 1 [ep'] []) K' ∧ Gk p K K' w w' := by
  refine (wrap_write p ep' x kd cl ca va vn vc w (fun wh1 ep1 mk1 kd cl ca v w1 => wh1 = 6 ∧ ep1 = 0 ∧ mk1 = 0 ∧ kd = 0 ∧ cl = 0 ∧ ca = 0 ∧ v = nilS ∧ ∃ K', Ks base w1 p a b c d ch ep' mk ct (img ++ if ep' = ep then [] else recB 1 [ep'] []) K' ∧ Gk p K K' w w1) ?_).mono ?_
  · intro W hW hs hN
    refine (writeNot_big base p a b c d ch ep mk ct img K ep' x kd cl ca va vn vc W (h.bl hW) (Nat.le_trans hb hW.lt) hl hct hvn he wh m t hlook hc).mono ?_
    rintro e w1 ⟨K', rfl, hk, ho⟩
    exact ⟨_, _, _, _, _, _, _, _, _, rfl, ⟨rfl, rfl, rfl, rfl, rfl, rfl, rfl, K', hk, ho.pre hW⟩, (ho.only.block _ (by omega) (h.ne (by omega))).trans hN⟩
  · rintro e w' ⟨_, _, _, _, _, _, v, w1, rfl, ⟨rfl, rfl, rfl, rfl, rfl, rfl, rfl, K', hk, ho⟩, hN, hO⟩
    have := h.at'.lt
    exact ⟨K', rfl, hk.other hO hN (by omega), ho.new hO (fun g e => by omega)⟩

section
variable {w : World} {tag : Nat → Nat} {tg p : Nat} {a b c d ch : Int} {rs : List Rc} {S : Nat → St}
theorem kp_writeNotB (h : Kt w tag tg p a b c d ch rs S) (e x kd cl ca : Int) (va : Option Addr) (vn vc : Nat) (hwf : (Lit.int .i64 e).wf = true) (hl : (flat rs).length ≤ 30000000) (hvn : vn ≤ 40000000) (he : ¬ e < (S rs.length).ep) (hc : isC kd vn = false) :
    Calls Tryz.prog 43 #[.pointer (some ⟨p, 0, none⟩), .int .i64 e, .int .i64 x, .agg #[.int .i64 kd, .int .i64 cl, .int .i64 ca, .slice va vn vc]] w fun en w' => ∃ rs' S', en = .returned (reply 6 0 0 0 0 0 nilS) ∧ MoreK rs S rs' S' ∧ S' rs'.length = ⟨e, (S rs.length).mark, (S rs.length).ct⟩ ∧ (flat rs').length ≤ (flat rs).length + 24 ∧ Kt w' (tagTo tag w.heap.size tg) tg p a b c d ch rs' S' ∧ Only (fun b => tag b = tg) w w' := by
  obtain ⟨K, hk, hw, hp, hg⟩ := h
  refine (fwrite_notB 0 p a b c d ch _ _ _ (flat rs) K e x kd cl ca va vn vc w hk (Nat.zero_le _) hl (hw.vals _ (Nat.le_refl _)) hvn he _ _ _ rfl hc).mono ?_
  rintro en w' ⟨K', rfl, hk', hG⟩
  obtain ⟨rs', S', r0, r1, r2, r3, r4⟩ := Kt.reach hk hw hp hg hwf he hk' hG
  refine ⟨rs', S', rfl, r0, r1, r2, ?_, r4⟩
  rw [← tagV_nil]
  exact r3 _ (nilS_own K')
end

set_option maxRecDepth 100000 in
set_option maxHeartbeats 1000000 in
theorem cellsOpen_no (a b c d x : Int) (v : Value) (w : World) (h : cha a b c d x = (0, 1)) :
    Calls Tryz.prog 67 #[.agg #[.int .i64 a, .int .i64 b, .int .i64 c, .int .i64 d], .int .i64 x, v] w fun e w' => e = .returned (.tuple #[.pointer none, .int .i64 1]) ∧ Bl w w' := by
  have HC : Hid (∀ w, Calls Tryz.prog 88 #[.agg #[.int .i64 a, .int .i64 b, .int .i64 c, .int .i64 d], .int .i64 x] w fun e w' => e = .returned (.tuple #[.int .i64 0, .int .i64 1]) ∧ Bl w w') := fun w => (chain_any a b c d x w).mono (by rintro e w' ⟨rfl, hb⟩; exact ⟨by rw [h]; rfl, hb⟩)
  have hA := (Bl.refl w).alloc (.cells #[.int .i64 a, .int .i64 b, .int .i64 c, .int .i64 d] 38)
  clear h
  go_enter Tryz.func67, Tryz.ntmps67
  go_wp2_with fail
  refine (HC.out _).mono ?_
  rintro e w' ⟨rfl, hb⟩
  go_wp2
  go_ret2
  exact ⟨rfl, hA.trans hb⟩

set_option maxRecDepth 100000 in
set_option maxHeartbeats 1000000 in
theorem openCells_no (a b c d x : Int) (v : Value) (w : World) (h : cha a b c d x = (0, 1)) :
    Calls Tryz.prog 29 #[.agg #[.int .i64 a, .int .i64 b, .int .i64 c, .int .i64 d], .int .i64 x, v] w fun e w' => e = .returned (.tuple #[.pointer none, .int .i64 1]) ∧ Bl w w' := by
  have HN := hid (fun w => cellsOpen_no a b c d x v w h)
  have hA := (Bl.refl w).alloc (.cells #[.int .i64 a, .int .i64 b, .int .i64 c, .int .i64 d] 38)
  clear h
  go_enter Tryz.func29, Tryz.ntmps29
  go_wp2_with fail
  refine (HN.out _).mono ?_
  rintro e w' ⟨rfl, hb⟩
  go_wp2
  go_ret2
  exact ⟨rfl, hA.trans hb⟩
end Go.Proofs.YtkgjpfamjedncaaGreat

namespace Go.Proofs.YtkgjpfamjedncaaGreat
open Go.RowKit Go.Maps
attribute [local go_sem ↓] Go.wp_at_zero Go.wp_at_succ
theorem Tryz.info77 : (Tryz.prog.info? 77).map (fun i => (i.zero, i.size, i.bytes)) = some (some (.agg #[.int .i64 0, .int .i64 0, .int .i64 0, .int .i64 0, .int .i64 0, .int .i64 0, .int .i64 0, .slice none 0 0]), 8, 80) := by kernel_rfl

set_option maxRecDepth 100000 in
set_option maxHeartbeats 4000000 in
theorem noted_any (bw q p y : Nat) (pv sv : Value) (m n : Nat) (xs zs : List Value) (a b c d u ep mk : Int) (lv : Value) (F : Nat → Wq) (img : List Int) (w : World) (R : World → Prop)
    (hq : w.heap[q]? = some (.cells #[.pointer (some ⟨p, 0, none⟩), .pointer (some ⟨y, 0, none⟩), pv, sv] 80 (0, 0))) (hc : Cw 0 w y a b c d u ep mk lv n F) (hn : n ≤ 4000000)
    (hI : ∀ W, Only (Kfoot q pv sv) w W → Calls Tryz.prog 35 #[.pointer (some ⟨p, 0, none⟩)] W fun en w' => ∃ v, en = .returned v ∧ Bl W w' ∧ w'.ownsRow W.heap.size 5 1 v img.length (img.map B8))
    (hp : w.ownsRow 0 77 8 pv m xs) (hs : w.ownsRow 0 3 1 sv m zs) (hm : m ≤ 4000000)
    (hby : ∀ (W : World) (pv' sv' lc iv : Value), W.heap[q]? = some (.cells #[.pointer (some ⟨p, 0, none⟩), .pointer (some ⟨y, 0, none⟩), pv', sv'] 80 (0, 0)) → W.ownsRow 0 77 8 pv' (m + 1) (xs ++ [.int .i64 a, .int .i64 b, .int .i64 c, .int .i64 d, .int .i64 u, .int .i64 ep, .int .i64 mk, lc]) → W.ownsRow 0 3 1 sv' (m + 1) (zs ++ [.int .i64 img.length]) → W.ownsRow w.heap.size 137 5 lc n (row5 F n) → W.ownsRow w.heap.size 5 1 iv img.length (img.map B8) → Only (Kfoot q pv sv) w W →
      (∀ b, pv'.ownBlock = some b → pv.ownBlock = some b ∨ w.heap.size ≤ b) → (∀ b, sv'.ownBlock = some b → sv.ownBlock = some b ∨ w.heap.size ≤ b) → Calls Tryz.prog 36 #[.pointer (some ⟨bw, 2, none⟩), iv] W fun en w' => en = .returned (.tuple #[]) ∧ R w') :
    Calls Tryz.prog 32 #[.pointer (some ⟨bw, 0, none⟩), .pointer (some ⟨q, 0, none⟩)] w fun en w' => en = .returned (.tuple #[]) ∧ R w' := by
  obtain ⟨i77, j77, y0, y1, y2⟩ := info_parts Tryz.info77
  obtain ⟨i3, j3, x0, x1, x2⟩ := info_parts Tryz.info3k
  obtain ⟨pa, pc, hpv⟩ : ∃ a c, pv = .slice a m c := by
    rcases hp.2 with ⟨e, e'⟩ | ⟨g, cap, cur, e, _⟩
    · exact ⟨_, _, by rw [e, e']⟩
    · exact ⟨_, _, e⟩
  subst hpv
  obtain ⟨sa, sc, hsv⟩ := (ownsRow_sl hs).len
  rw [ownsRow_len hs] at hsv
  subst hsv
  have lq := (Array.getElem?_eq_some_iff.1 hq).1
  have d1 := cell_of_row w q 1 _ 80 (0, 0) hq
  simp at d1
  have HRC := hid (refCopied_any 0 y a b c d u ep mk lv n F w hc hn)
  have HP := hid hp
  have HSv := hid hs
  have HQ := hid hq
  have HI := hid hI
  have HBY := hid hby
  have hm2 : Hid (m + 1 ≤ maxLen) := by unfold Hid maxLen; omega
  have hb2 : Hid ((m + 1) * 80 ≤ 140737488355328) := by unfold Hid; omega
  have hb3 : Hid ((m + 1) * 8 ≤ 140737488355328) := by unfold Hid; omega
  have np : Hid ((Value.slice pa m pc).ownBlock ≠ some q) := own_ne_block hp hq (by decide)
  clear hc hp hs hq hI hby
  go_enter Tryz.func32, Tryz.ntmps32
  go_wp2_with fail
  refine HRC.out.mono ?_
  rintro en w1 ⟨la, lc, rfl, b1, r1⟩
  have lw1 := b1.lt
  have B2 := hid (b1.alloc (.cells #[.int .i64 a, .int .i64 b, .int .i64 c, .int .i64 d, .int .i64 u, .int .i64 ep, .int .i64 mk, .slice la n lc] 77))
  have L2 := hid ((Only.of_bl (S := fun _ => False) ((Bl.refl w1).alloc (.cells #[.int .i64 a, .int .i64 b, .int .i64 c, .int .i64 d, .int .i64 u, .int .i64 ep, .int .i64 mk, .slice la n lc] 77))).owns r1 fun _ _ e => e)
  have N2 := heap_alloc_new w1 (.cells #[.int .i64 a, .int .i64 b, .int .i64 c, .int .i64 d, .int .i64 u, .int .i64 ep, .int .i64 mk, .slice la n lc] 77)
  clear d1 HRC r1 b1
  go_upto_region 1 with fail
  generalize w1.alloc (.cells #[.int .i64 a, .int .i64 b, .int .i64 c, .int .i64 d, .int .i64 u, .int .i64 ep, .int .i64 mk, .slice la n lc] 77) = W at *
  generalize w1.heap.size = gk at *
  have q2 : W.cell? ⟨q, 2, none⟩ = some (.slice pa m pc) := (B2.out.cell lq).trans (cell_of_row w q 2 _ 80 (0, 0) HQ.out)
  have f2 : W.frozen? ⟨q, 2, none⟩ = false := (B2.out.frozen lq).trans (frozen_of_row w q 2 _ 80 HQ.out)
  have n0 := cell_of_row W gk 0 _ 77 (0, 0) N2
  have n1 := cell_of_row W gk 1 _ 77 (0, 0) N2
  have n2 := cell_of_row W gk 2 _ 77 (0, 0) N2
  have n3 := cell_of_row W gk 3 _ 77 (0, 0) N2
  have n4 := cell_of_row W gk 4 _ 77 (0, 0) N2
  have n5 := cell_of_row W gk 5 _ 77 (0, 0) N2
  have n6 := cell_of_row W gk 6 _ 77 (0, 0) N2
  have n7 := cell_of_row W gk 7 _ 77 (0, 0) N2
  simp at n0 n1 n2 n3 n4 n5 n6 n7
  have lgk : gk < W.heap.size := (Array.getElem?_eq_some_iff.1 N2).1
  have lqW := Nat.lt_of_lt_of_le lq B2.out.lt
  have HPW := hid ((Only.of_bl (S := fun _ => False) B2.out).owns HP.out fun _ _ e => e)
  have HQW := hid ((B2.out.heap lq).trans HQ.out)
  have ngk : Hid ((Value.slice pa m pc).ownBlock ≠ some gk) := fun e => by have := (HP.out.lt _ e).2; omega
  clear N2
  go_cut [] from 11 to 20 (fun wx => ∃ gp capp, Hid (wx.heap[q]? = some (.cells #[.pointer (some ⟨p, 0, none⟩), .pointer (some ⟨y, 0, none⟩), .slice (some ⟨gp, 0, none⟩) (m + 1) capp, .slice sa m sc] 80 (0, 0))) ∧ Hid (wx.ownsRow 0 77 8 (.slice (some ⟨gp, 0, none⟩) (m + 1) capp) (m + 1) (xs ++ [.int .i64 a, .int .i64 b, .int .i64 c, .int .i64 d, .int .i64 u, .int .i64 ep, .int .i64 mk, .slice la n lc])) ∧ Hid (Only (fun b => b = q ∨ (Value.slice pa m pc).ownBlock = some b) W wx) ∧ Hid ((Value.slice pa m pc).ownBlock = some gp ∨ w.heap.size ≤ gp))
  case first =>
    go_region_law
      ((refine step_append_lies _ (by rfl) _ _ _ (by rfl) 0 77 i77 _ 8 80 Tryz.underlying78 j77 y0 y1 y2 rfl (by omega) _ m xs (by rfl) ((HPW.out.alloc _).drew)
          ⟨W.heap.size, 0, none⟩ 1 1 [.int .i64 a, .int .i64 b, .int .i64 c, .int .i64 d, .int .i64 u, .int .i64 ep, .int .i64 mk, .slice la n lc] (by rfl) (by rfl) (World.news_of_block (cs := #[.int .i64 a, .int .i64 b, .int .i64 c, .int .i64 d, .int .i64 u, .int .i64 ep, .int .i64 mk, .slice la n lc]) (t := 77) (fr := (0, 0)) (heap_alloc_new W _)) (by simp [Value.oneCell'])
          (by omega) hm2.out hb2.out (by simp) (W.heap.size + 1) (by simp) ?_; intro gg cap w3 hown3 hgrow hat hlt; have kc := (far (((Bl.refl W).alloc _).drew) hgrow (o := 2) lqW np.out).1.trans q2; have kf := (far (((Bl.refl W).alloc _).drew) hgrow (o := 2) lqW np.out).2.trans f2; have k0 := (far (((Bl.refl W).alloc _).drew) hgrow (o := 0) lgk ngk.out).1.trans n0; have k1 := (far (((Bl.refl W).alloc _).drew) hgrow (o := 1) lgk ngk.out).1.trans n1; have k2 := (far (((Bl.refl W).alloc _).drew) hgrow (o := 2) lgk ngk.out).1.trans n2; have k3 := (far (((Bl.refl W).alloc _).drew) hgrow (o := 3) lgk ngk.out).1.trans n3; have k4 := (far (((Bl.refl W).alloc _).drew) hgrow (o := 4) lgk ngk.out).1.trans n4; have k5 := (far (((Bl.refl W).alloc _).drew) hgrow (o := 5) lgk ngk.out).1.trans n5; have k6 := (far (((Bl.refl W).alloc _).drew) hgrow (o := 6) lgk ngk.out).1.trans n6; have k7 := (far (((Bl.refl W).alloc _).drew) hgrow (o := 7) lgk ngk.out).1.trans n7; have HX6 := hid (And.intro hown3 (And.intro hgrow (And.intro hat hlt))); clear hown3 hgrow hat hlt))
    all_goals (go_wp2_with fail; go_meet)
    all_goals
      obtain ⟨hown3, hgrow, hat, hlt⟩ := HX6.out
      have bW : Bl W (W.alloc (.cells #[.int .i64 a, .int .i64 b, .int .i64 c, .int .i64 d, .int .i64 u, .int .i64 ep, .int .i64 mk, .slice la n lc] 77)).drew := ((Bl.refl W).alloc _).drew
      have hq3 : w3.heap[q]? = some (.cells #[.pointer (some ⟨p, 0, none⟩), .pointer (some ⟨y, 0, none⟩), .slice pa m pc, .slice sa m sc] 80 (0, 0)) := (hgrow.block q (Nat.lt_of_lt_of_le lqW bW.lt) (fun e => np.out e.symm)).trans ((bW.heap lqW).trans HQW.out)
      refine ⟨gg, cap, heap_setCell_same w3 q 2 _ 80 _ hq3, ownsRow_of hown3 fun b hb' => Below.heap_setCell _ _ _ _ (fun e => own_ne_block hown3 hq3 (by decide) (by rw [hb', e])), ((Only.of_bl bW).trans ((Only.of_grown hgrow).mono fun k _ e => .inr e.symm)).setCell ⟨q, 2, none⟩ (.inl (.inl rfl)) _, ?_⟩
      rcases hat with e | e
      · exact .inl e
      · exact .inr (by have := B2.out.lt; omega)
  case rest =>
    obtain ⟨gp, capp, HQ3, HP3, HO2, Hgp⟩ := hcut
    have O3 : Only (Kfoot q (.slice pa m pc) (.slice sa m sc)) w wc := ((Only.of_bl B2.out).trans HO2.out).mono fun k _ e => e.imp id .inl
    have hS3 : wc.ownsRow 0 3 1 (.slice sa m sc) m zs := ((Only.of_bl B2.out).trans HO2.out).owns HSv.out (fun b hb e => by
      rcases e with rfl | e
      · exact own_ne_block HSv.out HQ.out (by decide) hb
      · exact ownsRow_type HSv.out HP.out (by decide) b hb e)
    have hL3 : wc.ownsRow w.heap.size 137 5 (.slice la n lc) n (row5 F n) := HO2.out.owns L2.out (fun b hb e => by
      rcases e with rfl | e
      · exact own_ne_block L2.out HQW.out (by decide) hb
      · exact ownsRow_type L2.out HPW.out (by decide) b hb e)
    have lq3 : q < wc.heap.size := (Array.getElem?_eq_some_iff.1 HQ3.out).1
    have d0 := cell_of_row wc q 0 _ 80 (0, 0) HQ3.out
    have d3 := cell_of_row wc q 3 _ 80 (0, 0) HQ3.out
    have g3 := frozen_of_row wc q 3 _ 80 HQ3.out
    simp at d0 d3
    have HIW := hid (HI.out wc O3)
    have HS3 := hid hS3
    have HL3 := hid hL3
    have HO3 := hid O3
    have lw3 := O3.size
    clear O3 hS3 hL3 HI q2 f2 n0 n1 n2 n3 n4 n5 n6 n7 lgk HPW HQW ngk L2 B2 HO2 lqW
    go_wp2_with fail
    refine HIW.out.mono ?_
    rintro en w4 ⟨iv, rfl, hb4, hiv⟩
    obtain ⟨ia, ic, rfl⟩ := owned_slice' hiv
    have k3 := (hb4.cell lq3).trans d3
    have kf := (hb4.frozen lq3).trans g3
    have lq4 := Nat.lt_of_lt_of_le lq3 hb4.lt
    have hS4 := hid ((Only.of_bl (S := fun _ => False) hb4).owns HS3.out fun _ _ e => e)
    have hP4 := hid ((Only.of_bl (S := fun _ => False) hb4).owns HP3.out fun _ _ e => e)
    have hL4 := hid ((Only.of_bl (S := fun _ => False) hb4).owns HL3.out fun _ _ e => e)
    have hI4 := hid (ownsRow_base hiv fun b hb => Nat.le_trans lw3 (hiv.lt b hb).1)
    have hQ4 := hid ((hb4.heap lq3).trans HQ3.out)
    have HB4 := hid hb4
    have ns : Hid ((Value.slice sa m sc).ownBlock ≠ some q) := own_ne_block HSv.out HQ.out (by decide)
    have lw4 := hb4.lt
    clear d0 d3 g3 HIW hb4 hiv HS3 HP3 HL3 HQ3
    go_wp2_with (at_builtin; refine wpList_append_lies _ rfl _ _ 24 rfl 0 3 i3 _ 1 8 Tryz.underlying24 j3 x0 x1 x2 rfl (by decide) _ m _ rfl (hS4.out.alloc _) ⟨w4.heap.size, 0, none⟩ 1 1 [.int .i64 img.length] rfl rfl (cell_one_new _ _ _) (by simp [Value.oneCell']) (by decide) hm2.out hb3.out (by simp) (w4.heap.size + 1) (by simp) ?_)
    intro gs caps w5 hown5 hgrow5 hat5 hlt5
    have hq5 : w5.heap[q]? = some (.cells #[.pointer (some ⟨p, 0, none⟩), .pointer (some ⟨y, 0, none⟩), .slice (some ⟨gp, 0, none⟩) (m + 1) capp, .slice sa m sc] 80 (0, 0)) := by
      have h1 := hgrow5.block q (by simp; omega) (fun e => ns.out e.symm)
      rw [h1, ((Bl.refl w4).alloc _).heap lq4]; exact hQ4.out
    have O5 : Only (fun b => b = q ∨ (Value.slice sa m sc).ownBlock = some b) w4 (w5.setCell ⟨q, 3, none⟩ (.slice (some ⟨gs, 0, none⟩) (m + 1) caps)) := ((Only.of_bl ((Bl.refl w4).alloc _)).trans ((Only.of_grown hgrow5).mono fun k _ e => .inr e.symm)).setCell ⟨q, 3, none⟩ (.inl (.inl rfl)) _
    have R1 := hid (heap_setCell_same w5 q 3 _ 80 (.slice (some ⟨gs, 0, none⟩) (m + 1) caps) hq5)
    have R2 := hid (O5.owns hP4.out (fun b hb e => by
      rcases e with rfl | e
      · exact own_ne_block hP4.out hQ4.out (by decide) hb
      · exact ownsRow_type hP4.out hS4.out (by decide) b hb e))
    have R3 := hid (ownsRow_of (w' := w5.setCell ⟨q, 3, none⟩ (.slice (some ⟨gs, 0, none⟩) (m + 1) caps)) hown5 fun b hb' => Below.heap_setCell _ _ _ _ (fun e => own_ne_block hown5 hq5 (by decide) (by rw [hb', e])))
    have R4 := hid (O5.owns hL4.out (fun b hb e => by
      rcases e with rfl | e
      · exact own_ne_block hL4.out hQ4.out (by decide) hb
      · exact ownsRow_type hL4.out hS4.out (by decide) b hb e))
    have R6 := hid (O5.owns hI4.out (fun b hb e => by
      rcases e with rfl | e
      · exact own_ne_block hI4.out hQ4.out (by decide) hb
      · exact ownsRow_type hI4.out hS4.out (by decide) b hb e))
    have R5 := hid ((HO3.out.trans (Only.of_bl HB4.out)).trans (O5.mono (T := Kfoot q (.slice pa m pc) (.slice sa m sc)) fun k _ e => e.imp id .inr))
    have kq := (far ((Bl.refl w4).alloc _) hgrow5 (o := 3) lq4 ns.out).1.trans k3
    have kf5 := (far ((Bl.refl w4).alloc _) hgrow5 (o := 3) lq4 ns.out).2.trans kf
    have lq5 : q < w5.heap.size := (Array.getElem?_eq_some_iff.1 hq5).1
    have HF := hid (HBY.out _ _ _ _ _ R1.out R2.out R3.out R4.out R6.out R5.out (fun b hb => by
      simp [Value.ownBlock] at hb
      subst hb
      exact Hgp.out) (fun b hb => by
      simp [Value.ownBlock] at hb
      subst hb
      rcases hat5 with h | h
      · exact .inl h
      · exact .inr (by omega)))
    clear O5 hq5 hown5 hgrow5 hat5 k3 kf hP4 hL4 hS4 hQ4 hI4 R1 R2 R3 R4 R5 R6 HBY
    go_wp2_with fail
    refine HF.out.mono ?_
    rintro en w6 ⟨rfl, hR⟩
    go_wp2
    go_end0
    exact ⟨rfl, hR⟩
end Go.Proofs.YtkgjpfamjedncaaGreat
