-- Cells are kept as they are, with the image's length, and the image is put into the book.
/-
  The last of some sizes that is no more than a number; which of some things a number speaks of.
-/
-- One voter of the script: the program's, the document's, and what was kept of it.
-- What a voter answers, the program's and the document's.
-- What the document's voter answers, and where its blocks lie then.
import Derived.Test.YtkgjpfamjedncaaGreatDTagDReadKNotQ
import Derived.Deep.DeepCutAuto
import Derived.Test.YtkgjpfamjedncaaGreatBaseNum
import Derived.Test.YtkgjpfamjedncaaGreatMatchVTagOpenCWrapQ
import Derived.Test.YtkgjpfamjedncaaGreatRefPRefAKeptQ
namespace Go.Proofs.YtkgjpfamjedncaaGreat
open Go.RowKit Go.Maps
attribute [local go_sem ↓] Go.wp_at_zero Go.wp_at_succ
theorem Tryz.info77 : (Tryz.prog.info? 77).map (fun i => (i.zero, i.size, i.bytes)) = some (some (.agg #[.int .i64 0, .int .i64 0, .int .i64 0, .int .i64 0, .int .i64 0, .int .i64 0, .int .i64 0, .slice none 0 0]), 8, 80) := by kernel_rfl

set_option maxRecDepth 100000 in
set_option maxHeartbeats 4000000 in
theorem noted_any (bw q p y : Nat) (pv sv : Value) (m n : Nat) (xs zs : List Value) (a b c d u ep mk : Int) (lv : Value) (F : Nat → Wq) (img : List Int) (w : World) (R : World → Prop)
    (hq : w.heap[q]? = some (.cells #[.pointer (some ⟨p, 0, none⟩), .pointer (some ⟨y, 0, none⟩), pv, sv] 80 (0, 0))) (hc : Cw 0 w y a b c d u ep mk lv n F) (hn : n ≤ 4000000)
    (hI : ∀ W, Only (Kfoot q pv sv) w W → Calls Tryz.prog 35 #[.pointer (some ⟨p, 0, none⟩)] W fun en w' => ∃ v, en = .returned v ∧ Bl W w' ∧ w'.ownsRow W.heap.size 5 1 v img.length (img.map B8))
    (hp : w.ownsRow 0 77 8 pv m xs) (hs : w.ownsRow 0 3 1 sv m zs) (hm : m ≤ 4000000)
    (hby : ∀ (W : World) (pv' sv' lc iv : Value), W.heap[q]? = some (.cells #[.pointer (some ⟨p, 0, none⟩), .pointer (some ⟨y, 0, none⟩), pv', sv'] 80 (0, 0)) → W.ownsRow 0 77 8 pv' (m + 1) (xs ++ [.int .i64 a, .int .i64 b, .int .i64 c, .int .i64 d, .int .i64 u, .int .i64 ep, .int .i64 mk, lc]) → W.ownsRow 0 3 1 sv' (m + 1) (zs ++ [.int .i64 img.length]) → W.ownsRow w.heap.size 137 5 lc n (row5 F n) → W.ownsRow w.heap.size 5 1 iv img.length (img.map B8) → Only (Kfoot q pv sv) w W →
      (∀ b, pv'.ownBlock = some b → pv.ownBlock = some b ∨ w.heap.size ≤ b) → (∀ b, sv'.ownBlock = some b → sv.ownBlock = some b ∨ w.heap.size ≤ b) → Calls Tryz.prog 36 #[.pointer (some ⟨bw, 2, none⟩), iv] W fun en w' => en = .returned (.tuple #[]) ∧ R w') :
    Calls Tryz.prog 32 #[.pointer (some ⟨bw, 0, none⟩), .pointer (some ⟨q, 0, none⟩)] w fun en w' => en = .returned (.tuple #[]) ∧ R w' := by
  obtain ⟨i77, j77, y0, y1, y2⟩ := info_parts Tryz.info77
  obtain ⟨i3, j3, x0, x1, x2⟩ := info_parts Tryz.info3k
  obtain ⟨pa, pc, hpv⟩ : ∃ a c, pv = .slice a m c := by
    rcases hp.2 with ⟨e, e'⟩ | ⟨g, cap, cur, e, _⟩
    · exact ⟨_, _, by rw [e, e']⟩
    · exact ⟨_, _, e⟩
  subst hpv
  obtain ⟨sa, sc, hsv⟩ := (ownsRow_sl hs).len
  rw [ownsRow_len hs] at hsv
  subst hsv
  have lq := (Array.getElem?_eq_some_iff.1 hq).1
  have d1 := cell_of_row w q 1 _ 80 (0, 0) hq
  simp at d1
  have HRC := hid (refCopied_any 0 y a b c d u ep mk lv n F w hc hn)
  have HP := hid hp
  have HSv := hid hs
  have HQ := hid hq
  have HI := hid hI
  have HBY := hid hby
  have hm2 : Hid (m + 1 ≤ maxLen) := by unfold Hid maxLen; omega
  have hb2 : Hid ((m + 1) * 80 ≤ 140737488355328) := by unfold Hid; omega
  have hb3 : Hid ((m + 1) * 8 ≤ 140737488355328) := by unfold Hid; omega
  have np : Hid ((Value.slice pa m pc).ownBlock ≠ some q) := own_ne_block hp hq (by decide)
  clear hc hp hs hq hI hby
  go_enter Tryz.func32, Tryz.ntmps32
  go_wp2_with fail
  refine HRC.out.mono ?_
  rintro en w1 ⟨la, lc, rfl, b1, r1⟩
  have lw1 := b1.lt
  have B2 := hid (b1.alloc (.cells #[.int .i64 a, .int .i64 b, .int .i64 c, .int .i64 d, .int .i64 u, .int .i64 ep, .int .i64 mk, .slice la n lc] 77))
  have L2 := hid ((Only.of_bl (S := fun _ => False) ((Bl.refl w1).alloc (.cells #[.int .i64 a, .int .i64 b, .int .i64 c, .int .i64 d, .int .i64 u, .int .i64 ep, .int .i64 mk, .slice la n lc] 77))).owns r1 fun _ _ e => e)
  have N2 := heap_alloc_new w1 (.cells #[.int .i64 a, .int .i64 b, .int .i64 c, .int .i64 d, .int .i64 u, .int .i64 ep, .int .i64 mk, .slice la n lc] 77)
  clear d1 HRC r1 b1
  go_upto_region 1 with fail
  generalize w1.alloc (.cells #[.int .i64 a, .int .i64 b, .int .i64 c, .int .i64 d, .int .i64 u, .int .i64 ep, .int .i64 mk, .slice la n lc] 77) = W at *
  generalize w1.heap.size = gk at *
  have q2 : W.cell? ⟨q, 2, none⟩ = some (.slice pa m pc) := (B2.out.cell lq).trans (cell_of_row w q 2 _ 80 (0, 0) HQ.out)
  have f2 : W.frozen? ⟨q, 2, none⟩ = false := (B2.out.frozen lq).trans (frozen_of_row w q 2 _ 80 HQ.out)
  have n0 := cell_of_row W gk 0 _ 77 (0, 0) N2
  have n1 := cell_of_row W gk 1 _ 77 (0, 0) N2
  have n2 := cell_of_row W gk 2 _ 77 (0, 0) N2
  have n3 := cell_of_row W gk 3 _ 77 (0, 0) N2
  have n4 := cell_of_row W gk 4 _ 77 (0, 0) N2
  have n5 := cell_of_row W gk 5 _ 77 (0, 0) N2
  have n6 := cell_of_row W gk 6 _ 77 (0, 0) N2
  have n7 := cell_of_row W gk 7 _ 77 (0, 0) N2
  simp at n0 n1 n2 n3 n4 n5 n6 n7
  have lgk : gk < W.heap.size := (Array.getElem?_eq_some_iff.1 N2).1
  have lqW := Nat.lt_of_lt_of_le lq B2.out.lt
  have HPW := hid ((Only.of_bl (S := fun _ => False) B2.out).owns HP.out fun _ _ e => e)
  have HQW := hid ((B2.out.heap lq).trans HQ.out)
  have ngk : Hid ((Value.slice pa m pc).ownBlock ≠ some gk) := fun e => by have := (HP.out.lt _ e).2; omega
  clear N2
  go_cut [] from 11 to 20 (fun wx => ∃ gp capp, Hid (wx.heap[q]? = some (.cells #[.pointer (some ⟨p, 0, none⟩), .pointer (some ⟨y, 0, none⟩), .slice (some ⟨gp, 0, none⟩) (m + 1) capp, .slice sa m sc] 80 (0, 0))) ∧ Hid (wx.ownsRow 0 77 8 (.slice (some ⟨gp, 0, none⟩) (m + 1) capp) (m + 1) (xs ++ [.int .i64 a, .int .i64 b, .int .i64 c, .int .i64 d, .int .i64 u, .int .i64 ep, .int .i64 mk, .slice la n lc])) ∧ Hid (Only (fun b => b = q ∨ (Value.slice pa m pc).ownBlock = some b) W wx) ∧ Hid ((Value.slice pa m pc).ownBlock = some gp ∨ w.heap.size ≤ gp))
  case first =>
    go_region_law
      ((refine step_append_lies _ (by rfl) _ _ _ (by rfl) 0 77 i77 _ 8 80 Tryz.underlying78 j77 y0 y1 y2 rfl (by omega) _ m xs (by rfl) ((HPW.out.alloc _).drew)
          ⟨W.heap.size, 0, none⟩ 1 1 [.int .i64 a, .int .i64 b, .int .i64 c, .int .i64 d, .int .i64 u, .int .i64 ep, .int .i64 mk, .slice la n lc] (by rfl) (by rfl) (World.news_of_block (cs := #[.int .i64 a, .int .i64 b, .int .i64 c, .int .i64 d, .int .i64 u, .int .i64 ep, .int .i64 mk, .slice la n lc]) (t := 77) (fr := (0, 0)) (heap_alloc_new W _)) (by simp [Value.oneCell'])
          (by omega) hm2.out hb2.out (by simp) (W.heap.size + 1) (by simp) ?_; intro gg cap w3 hown3 hgrow hat hlt; have kc := (far (((Bl.refl W).alloc _).drew) hgrow (o := 2) lqW np.out).1.trans q2; have kf := (far (((Bl.refl W).alloc _).drew) hgrow (o := 2) lqW np.out).2.trans f2; have k0 := (far (((Bl.refl W).alloc _).drew) hgrow (o := 0) lgk ngk.out).1.trans n0; have k1 := (far (((Bl.refl W).alloc _).drew) hgrow (o := 1) lgk ngk.out).1.trans n1; have k2 := (far (((Bl.refl W).alloc _).drew) hgrow (o := 2) lgk ngk.out).1.trans n2; have k3 := (far (((Bl.refl W).alloc _).drew) hgrow (o := 3) lgk ngk.out).1.trans n3; have k4 := (far (((Bl.refl W).alloc _).drew) hgrow (o := 4) lgk ngk.out).1.trans n4; have k5 := (far (((Bl.refl W).alloc _).drew) hgrow (o := 5) lgk ngk.out).1.trans n5; have k6 := (far (((Bl.refl W).alloc _).drew) hgrow (o := 6) lgk ngk.out).1.trans n6; have k7 := (far (((Bl.refl W).alloc _).drew) hgrow (o := 7) lgk ngk.out).1.trans n7; have HX6 := hid (And.intro hown3 (And.intro hgrow (And.intro hat hlt))); clear hown3 hgrow hat hlt))
    all_goals (go_wp2_with fail; go_meet)
    all_goals
      obtain ⟨hown3, hgrow, hat, hlt⟩ := HX6.out
      have bW : Bl W (W.alloc (.cells #[.int .i64 a, .int .i64 b, .int .i64 c, .int .i64 d, .int .i64 u, .int .i64 ep, .int .i64 mk, .slice la n lc] 77)).drew := ((Bl.refl W).alloc _).drew
      have hq3 : w3.heap[q]? = some (.cells #[.pointer (some ⟨p, 0, none⟩), .pointer (some ⟨y, 0, none⟩), .slice pa m pc, .slice sa m sc] 80 (0, 0)) := (hgrow.block q (Nat.lt_of_lt_of_le lqW bW.lt) (fun e => np.out e.symm)).trans ((bW.heap lqW).trans HQW.out)
      refine ⟨gg, cap, heap_setCell_same w3 q 2 _ 80 _ hq3, ownsRow_of hown3 fun b hb' => Below.heap_setCell _ _ _ _ (fun e => own_ne_block hown3 hq3 (by decide) (by rw [hb', e])), ((Only.of_bl bW).trans ((Only.of_grown hgrow).mono fun k _ e => .inr e.symm)).setCell ⟨q, 2, none⟩ (.inl (.inl rfl)) _, ?_⟩
      rcases hat with e | e
      · exact .inl e
      · exact .inr (by have := B2.out.lt; omega)
  case rest =>
    obtain ⟨gp, capp, HQ3, HP3, HO2, Hgp⟩ := hcut
    have O3 : Only (Kfoot q (.slice pa m pc) (.slice sa m sc)) w wc := ((Only.of_bl B2.out).trans HO2.out).mono fun k _ e => e.imp id .inl
    have hS3 : wc.ownsRow 0 3 1 (.slice sa m sc) m zs := ((Only.of_bl B2.out).trans HO2.out).owns HSv.out (fun b hb e => by
      rcases e with rfl | e
      · exact own_ne_block HSv.out HQ.out (by decide) hb
      · exact ownsRow_type HSv.out HP.out (by decide) b hb e)
    have hL3 : wc.ownsRow w.heap.size 137 5 (.slice la n lc) n (row5 F n) := HO2.out.owns L2.out (fun b hb e => by
      rcases e with rfl | e
      · exact own_ne_block L2.out HQW.out (by decide) hb
      · exact ownsRow_type L2.out HPW.out (by decide) b hb e)
    have lq3 : q < wc.heap.size := (Array.getElem?_eq_some_iff.1 HQ3.out).1
    have d0 := cell_of_row wc q 0 _ 80 (0, 0) HQ3.out
    have d3 := cell_of_row wc q 3 _ 80 (0, 0) HQ3.out
    have g3 := frozen_of_row wc q 3 _ 80 HQ3.out
    simp at d0 d3
    have HIW := hid (HI.out wc O3)
    have HS3 := hid hS3
    have HL3 := hid hL3
    have HO3 := hid O3
    have lw3 := O3.size
    clear O3 hS3 hL3 HI q2 f2 n0 n1 n2 n3 n4 n5 n6 n7 lgk HPW HQW ngk L2 B2 HO2 lqW
    go_wp2_with fail
    refine HIW.out.mono ?_
    rintro en w4 ⟨iv, rfl, hb4, hiv⟩
    obtain ⟨ia, ic, rfl⟩ := owned_slice' hiv
    have k3 := (hb4.cell lq3).trans d3
    have kf := (hb4.frozen lq3).trans g3
    have lq4 := Nat.lt_of_lt_of_le lq3 hb4.lt
    have hS4 := hid ((Only.of_bl (S := fun _ => False) hb4).owns HS3.out fun _ _ e => e)
    have hP4 := hid ((Only.of_bl (S := fun _ => False) hb4).owns HP3.out fun _ _ e => e)
    have hL4 := hid ((Only.of_bl (S := fun _ => False) hb4).owns HL3.out fun _ _ e => e)
    have hI4 := hid (ownsRow_base hiv fun b hb => Nat.le_trans lw3 (hiv.lt b hb).1)
    have hQ4 := hid ((hb4.heap lq3).trans HQ3.out)
    have HB4 := hid hb4
    have ns : Hid ((Value.slice sa m sc).ownBlock ≠ some q) := own_ne_block HSv.out HQ.out (by decide)
    have lw4 := hb4.lt
    clear d0 d3 g3 HIW hb4 hiv HS3 HP3 HL3 HQ3
    go_wp2_with (at_builtin; refine wpList_append_lies _ rfl _ _ 24 rfl 0 3 i3 _ 1 8 Tryz.underlying24 j3 x0 x1 x2 rfl (by decide) _ m _ rfl (hS4.out.alloc _) ⟨w4.heap.size, 0, none⟩ 1 1 [.int .i64 img.length] rfl rfl (cell_one_new _ _ _) (by simp [Value.oneCell']) (by decide) hm2.out hb3.out (by simp) (w4.heap.size + 1) (by simp) ?_)
    intro gs caps w5 hown5 hgrow5 hat5 hlt5
    have hq5 : w5.heap[q]? = some (.cells #[.pointer (some ⟨p, 0, none⟩), .pointer (some ⟨y, 0, none⟩), .slice (some ⟨gp, 0, none⟩) (m + 1) capp, .slice sa m sc] 80 (0, 0)) := by
      have h1 := hgrow5.block q (by simp; omega) (fun e => ns.out e.symm)
      rw [h1, ((Bl.refl w4).alloc _).heap lq4]; exact hQ4.out
    have O5 : Only (fun b => b = q ∨ (Value.slice sa m sc).ownBlock = some b) w4 (w5.setCell ⟨q, 3, none⟩ (.slice (some ⟨gs, 0, none⟩) (m + 1) caps)) := ((Only.of_bl ((Bl.refl w4).alloc _)).trans ((Only.of_grown hgrow5).mono fun k _ e => .inr e.symm)).setCell ⟨q, 3, none⟩ (.inl (.inl rfl)) _
    have R1 := hid (heap_setCell_same w5 q 3 _ 80 (.slice (some ⟨gs, 0, none⟩) (m + 1) caps) hq5)
    have R2 := hid (O5.owns hP4.out (fun b hb e => by
      rcases e with rfl | e
      · exact own_ne_block hP4.out hQ4.out (by decide) hb
      · exact ownsRow_type hP4.out hS4.out (by decide) b hb e))
    have R3 := hid (ownsRow_of (w' := w5.setCell ⟨q, 3, none⟩ (.slice (some ⟨gs, 0, none⟩) (m + 1) caps)) hown5 fun b hb' => Below.heap_setCell _ _ _ _ (fun e => own_ne_block hown5 hq5 (by decide) (by rw [hb', e])))
    have R4 := hid (O5.owns hL4.out (fun b hb e => by
      rcases e with rfl | e
      · exact own_ne_block hL4.out hQ4.out (by decide) hb
      · exact ownsRow_type hL4.out hS4.out (by decide) b hb e))
    have R6 := hid (O5.owns hI4.out (fun b hb e => by
      rcases e with rfl | e
      · exact own_ne_block hI4.out hQ4.out (by decide) hb
      · exact ownsRow_type hI4.out hS4.out (by decide) b hb e))
    have R5 := hid ((HO3.out.trans (Only.of_bl HB4.out)).trans (O5.mono (T := Kfoot q (.slice pa m pc) (.slice sa m sc)) fun k _ e => e.imp id .inr))
    have kq := (far ((Bl.refl w4).alloc _) hgrow5 (o := 3) lq4 ns.out).1.trans k3
    have kf5 := (far ((Bl.refl w4).alloc _) hgrow5 (o := 3) lq4 ns.out).2.trans kf
    have lq5 : q < w5.heap.size := (Array.getElem?_eq_some_iff.1 hq5).1
    have HF := hid (HBY.out _ _ _ _ _ R1.out R2.out R3.out R4.out R6.out R5.out (fun b hb => by
      simp [Value.ownBlock] at hb
      subst hb
      exact Hgp.out) (fun b hb => by
      simp [Value.ownBlock] at hb
      subst hb
      rcases hat5 with h | h
      · exact .inl h
      · exact .inr (by omega)))
    clear O5 hq5 hown5 hgrow5 hat5 k3 kf hP4 hL4 hS4 hQ4 hI4 R1 R2 R3 R4 R5 R6 HBY
    go_wp2_with fail
    refine HF.out.mono ?_
    rintro en w6 ⟨rfl, hR⟩
    go_wp2
    go_end0
    exact ⟨rfl, hR⟩
end Go.Proofs.YtkgjpfamjedncaaGreat

namespace Go.Proofs.YtkgjpfamjedncaaGreat
open Go.RowKit
attribute [local go_sem ↓] Go.wp_at_zero Go.wp_at_succ

def pk (c n : Int) : Int := (if c < 0 then -(c + 1) else c) % n
theorem pk_range (c n : Int) (hn : 0 < n) : 0 ≤ pk c n ∧ pk c n < n := ⟨Int.emod_nonneg _ (by omega), Int.emod_lt_of_pos _ hn⟩
set_option maxRecDepth 100000 in
set_option maxHeartbeats 1000000 in
theorem pick_any (c n : Int) (w : World) (h0 : -9223372036854775808 ≤ c) (h1 : c ≤ 9223372036854775807) (hn : 0 < n) (hn1 : n ≤ 9223372036854775807) :
    Calls Tryz.prog 11 #[.int .i64 c, .int .i64 n] w fun e w' => e = .returned (.int .i64 (pk c n)) ∧ w' = w := by
  unfold pk
  have hnz : n ≠ 0 := by omega
  by_cases hc : c < 0
  · rw [if_pos hc]
    have e3 : Int.tmod (-(c + 1)) n = (-(c + 1)) % n := Int.tmod_eq_emod_of_nonneg (by omega)
    have r := Int.emod_nonneg (-(c + 1)) hnz
    have r2 := Int.emod_lt_of_pos (-(c + 1)) hn
    go_enter Tryz.func11, Tryz.ntmps11
    go_wp2
    go_ret
    exact ⟨rfl, rfl⟩
  · rw [if_neg hc]
    have e3 : Int.tmod c n = c % n := Int.tmod_eq_emod_of_nonneg (by omega)
    have r := Int.emod_nonneg c hnz
    have r2 := Int.emod_lt_of_pos c hn
    go_enter Tryz.func11, Tryz.ntmps11
    go_wp2
    go_ret
    exact ⟨rfl, rfl⟩
theorem pick_nat (c : Int) (n : Nat) (w : World) (h0 : -9223372036854775808 ≤ c ∧ c ≤ 9223372036854775807) (hn : 0 < n) (hn1 : n ≤ 100000000) :
    Calls Tryz.prog 11 #[.int .i64 c, .int .i64 (n : Int)] w fun e w' => e = .returned (.int .i64 ((pk c n).toNat : Nat)) ∧ w' = w := by
  refine (pick_any c n w h0.1 h0.2 (by omega) (by omega)).mono ?_
  rintro e w' ⟨rfl, rfl⟩
  have := pk_range c n (by omega)
  exact ⟨by rw [Int.toNat_of_nonneg this.1], rfl⟩
theorem pk_lt (c : Int) (n : Nat) (hn : 0 < n) : (pk c n).toNat < n := by
  have := pk_range c n (by omega)
  omega

/-- Of the first k. -/
def lastTo (zs : List Int) (n : Int) : Nat → Nat
  | 0 => 0
  | k + 1 => if zs.getD k 0 ≤ n then k else lastTo zs n k
theorem lastTo_le (zs : List Int) (n : Int) : ∀ k, lastTo zs n k ≤ k
  | 0 => Nat.le_refl _
  | k + 1 => by unfold lastTo; split; omega; have := lastTo_le zs n k; omega
set_option maxRecDepth 100000 in
set_option maxHeartbeats 1000000 in
theorem last_any (v : Value) (zs : List Int) (n : Int) (w : World) (hv : Sl w v (zs.map (Value.int .i64))) (hs : zs.length ≤ 4000000) :
    Calls Tryz.prog 37 #[v, .int .i64 n] w fun e w' => e = .returned (.int .i64 (lastTo zs n zs.length : Nat)) ∧ w' = w := by
  obtain ⟨a, c, e⟩ := hv.len
  rw [List.length_map] at e
  have hc : Hid (∀ k, k < zs.length → ∃ b o, a = some ⟨b, o, none⟩ ∧ b < w.heap.size ∧ w.cell? ⟨b, o + k, none⟩ = some (.int .i64 (zs.getD k 0))) := fun k hk => by
    rcases hv with ⟨a9, c9, e9, hz⟩ | ⟨b, o, c', e9, hb, hc⟩
    · simp at hz; subst hz; simp at hk
    · rw [e] at e9
      simp only [Value.slice.injEq] at e9
      refine ⟨b, o, e9.1, hb, ?_⟩
      rw [hc k (by simpa using hk)]
      simp [List.getD, List.getElem?_eq_getElem hk]
  subst e
  clear hv
  go_enter Tryz.func37, Tryz.ntmps37
  go_wp2
  go_loop [5, 6] (fun iv jv => ∃ k : Nat, k ≤ zs.length ∧ iv = .int .i64 (lastTo zs n k : Nat) ∧ jv = .int .i64 k) (fun _ jv => zs.length - (intOf jv).toNat)
  case atStart => exact ⟨0, Nat.zero_le _, rfl, rfl⟩
  case round =>
    obtain ⟨k, hk, rfl, rfl⟩ := hrel
    by_cases hlt : k < zs.length
    · obtain ⟨b, o, rfl, hb, hcell⟩ := hc.out k hlt
      have hl : Hid (lastTo zs n (k + 1) = if zs.getD k 0 ≤ n then k else lastTo zs n k) := rfl
      generalize zs.getD k 0 = z at *
      by_cases hz : z ≤ n
      · have hl2 : Hid (lastTo zs n (k + 1) = k) := by unfold Hid; rw [hl.out, if_pos hz]
        go_wp2
        go_round
        case rel => exact ⟨k + 1, by omega, by rw [hl2.out], by go_num⟩
        case measure => simp [intOf]; omega
      · have hl2 : Hid (lastTo zs n (k + 1) = lastTo zs n k) := by unfold Hid; rw [hl.out, if_neg hz]
        go_wp2
        go_round
        case rel => exact ⟨k + 1, by omega, by rw [hl2.out], by go_num⟩
        case measure => simp [intOf]; omega
    · obtain rfl : k = zs.length := by omega
      go_wp2
      go_ret
      exact ⟨rfl, rfl⟩
end Go.Proofs.YtkgjpfamjedncaaGreat

namespace Go.Proofs.YtkgjpfamjedncaaGreat
open Go.RowKit Go.Maps

/-- The marks of voter j: the program's blocks, the document's slots, values, the script's own. -/
def tP (j : Nat) : Nat := 10 + 8 * j
def tR (j : Nat) : Nat := 11 + 8 * j
def tV (j : Nat) : Nat := 12 + 8 * j
def tD (j : Nat) : Nat := 13 + 8 * j
def Mine (j t : Nat) : Prop := t = tP j ∨ t = tR j ∨ t = tV j ∨ t = tD j

/-- A row of slots that was kept: it holds E. -/
structure Past (w : World) (tag : Nat → Nat) (t : Nat) (l : Value) (E : Int → Ep) : Prop where
  ex : ∃ n F, n < 4000000 ∧ w.ownsRow 0 140 4 l n (row4 F n) ∧ Rl n F E ∧ (∀ b, l.ownBlock = some b → tag b = t) ∧ ∀ i, i < n → w.ownsRow 0 5 1 (F i).v (F i).s.val.length ((F i).s.val.map B8) ∧ ∀ b, (F i).v.ownBlock = some b → tag b = t
theorem Past.only {T : Nat → Prop} {w w' : World} {tag tag' : Nat → Nat} {t : Nat} {l : Value} {E : Int → Ep} (h : Past w tag t l E) (ho : Only T w w') (hs : ∀ b, b < w.heap.size → T b → tag b ≠ t) (ht : ∀ b, b < w.heap.size → tag' b = tag b) : Past w' tag' t l E := by
  obtain ⟨n, F, h0, h1, h2, h3, h4⟩ := h
  refine ⟨n, F, h0, ho.owns h1 fun b hb e => hs b (h1.lt b hb).2 e (h3 b hb), h2, fun b hb => by rw [ht b (h1.lt b hb).2]; exact h3 b hb, fun i hi => ?_⟩
  obtain ⟨k1, k2⟩ := h4 i hi
  exact ⟨ho.owns k1 fun b hb e => hs b (k1.lt b hb).2 e (k2 b hb), fun b hb => by rw [ht b (k1.lt b hb).2]; exact k2 b hb⟩

/-- The document's voter, whose blocks bear the marks of j. -/
structure Rt (w : World) (tag : Nat → Nat) (j y : Nat) (E : Int → Ep) (nn : Nat) : Prop where
  ex : ∃ lv n F, n ≤ nn ∧ Rw 0 w y lv n F ∧ Rl n F E ∧ tag y = tR j ∧ (∀ b, lv.ownBlock = some b → tag b = tR j) ∧ ∀ i, i < n → ∀ b, (F i).v.ownBlock = some b → tag b = tV j
theorem Rt.only {T : Nat → Prop} {w w' : World} {tag tag' : Nat → Nat} {j y nn : Nat} {E : Int → Ep} (h : Rt w tag j y E nn) (ho : Only T w w') (hs : ∀ b, b < w.heap.size → T b → tag b ≠ tR j ∧ tag b ≠ tV j) (ht : ∀ b, b < w.heap.size → tag' b = tag b) : Rt w' tag' j y E nn := by
  obtain ⟨lv, n, F, h0, h1, h2, h3, h4, h5⟩ := h
  refine ⟨lv, n, F, h0, h1.only ho (fun e => (hs y h1.lt e).1 h3) (fun b hb e => (hs b (h1.own.lt b hb).2 e).1 (h4 b hb)) (fun i hi b hb e => (hs b ((h1.val i hi).lt b hb).2 e).2 (h5 i hi b hb)), h2, by rw [ht y h1.lt]; exact h3, fun b hb => by rw [ht b (h1.own.lt b hb).2]; exact h4 b hb, fun i hi b hb => by rw [ht b ((h1.val i hi).lt b hb).2]; exact h5 i hi b hb⟩

/-- How what was kept goes with the records: behind keeping i there were ks i of them. -/
structure Kp (rs : List Rc) (ks : Nat → Nat) (m : Nat) : Prop where
  pos : 1 ≤ m
  zero : ks 0 = 0
  step : ∀ i, i + 1 < m → ks (i + 1) = ks i ∨ ks (i + 1) = ks i + 1
  last : ks (m - 1) = rs.length

/-- Voter j of the script, in block q. -/
structure Ob (B0 : Nat) (w : World) (tag : Nat → Nat) (j q : Nat) (rs : List Rc) (S : Nat → Int → Ep) (m : Nat) (nn : Nat) : Prop where
  ex : ∃ p y pv sv xs ks, w.heap[q]? = some (.cells #[.pointer (some ⟨p, 0, none⟩), .pointer (some ⟨y, 0, none⟩), pv, sv] 91 (0, 0)) ∧ tag q = tD j ∧
    Vt w tag (tP j) p rs S ∧ Rt w tag j y (S rs.length) nn ∧
    w.ownsRow B0 88 1 pv m xs ∧ (∀ b, pv.ownBlock = some b → tag b = tD j) ∧ w.ownsRow B0 3 1 sv m ((List.range m).map fun i => .int .i64 (off rs (ks i) : Nat)) ∧ (∀ b, sv.ownBlock = some b → tag b = tD j) ∧
    Kp rs ks m ∧ ∀ i, i < m → ∃ l, xs[i]? = some l ∧ Past w tag (tV j) l (S (ks i))
theorem Ob.only {T : Nat → Prop} {B0 : Nat} {w w' : World} {tag tag' : Nat → Nat} {j q : Nat} {rs : List Rc} {S : Nat → Int → Ep} {m nn : Nat} (h : Ob B0 w tag j q rs S m nn) (ho : Only T w w') (hs : ∀ b, b < w.heap.size → T b → ¬ Mine j (tag b)) (ht : ∀ b, b < w.heap.size → tag' b = tag b) : Ob B0 w' tag' j q rs S m nn := by
  obtain ⟨p, y, pv, sv, xs, ks, h1, h2, h3, h4, h5, h6, h7, h8, h9, h10⟩ := h
  have lq := (Array.getElem?_eq_some_iff.1 h1).1
  have n0 : ∀ b, b < w.heap.size → T b → tag b ≠ tP j := fun b hb e e' => hs b hb e (.inl e')
  have n1 : ∀ b, b < w.heap.size → T b → tag b ≠ tR j := fun b hb e e' => hs b hb e (.inr (.inl e'))
  have n2 : ∀ b, b < w.heap.size → T b → tag b ≠ tV j := fun b hb e e' => hs b hb e (.inr (.inr (.inl e')))
  have n3 : ∀ b, b < w.heap.size → T b → tag b ≠ tD j := fun b hb e e' => hs b hb e (.inr (.inr (.inr e')))
  refine ⟨p, y, pv, sv, xs, ks, (ho.block q lq fun e => n3 q lq e h2).trans h1, by rw [ht q lq]; exact h2, h3.only ho n0 ht, h4.only ho (fun b hb e => ⟨n1 b hb e, n2 b hb e⟩) ht,
    ho.owns h5 fun b hb e => n3 b (h5.lt b hb).2 e (h6 b hb), fun b hb => by rw [ht b (h5.lt b hb).2]; exact h6 b hb, ho.owns h7 fun b hb e => n3 b (h7.lt b hb).2 e (h8 b hb), fun b hb => by rw [ht b (h7.lt b hb).2]; exact h8 b hb, h9, fun i hi => ?_⟩
  obtain ⟨l, k1, k2⟩ := h10 i hi
  exact ⟨l, k1, k2.only ho n2 ht⟩
theorem Ob.bl {B0 : Nat} {w w' : World} {tag : Nat → Nat} {j q : Nat} {rs : List Rc} {S : Nat → Int → Ep} {m nn : Nat} (h : Ob B0 w tag j q rs S m nn) (hb : Bl w w') : Ob B0 w' tag j q rs S m nn := h.only (Only.of_bl (S := fun _ => False) hb) (fun _ _ e => e.elim) (fun _ _ => rfl)

/-- Of what was kept one goes with each number of records. -/
theorem Kp.mono {rs : List Rc} {ks : Nat → Nat} {m : Nat} (h : Kp rs ks m) : ∀ a b, a ≤ b → b < m → ks a ≤ ks b := by
  intro a b hab
  induction b with
  | zero => intro _; rw [show a = 0 by omega]; exact Nat.le_refl _
  | succ b ih =>
    intro hb
    by_cases e : a = b + 1
    · rw [e]; exact Nat.le_refl _
    · have := ih (by omega) (by omega)
      rcases h.step b hb with h1 | h1 <;> omega
theorem Kp.all {rs : List Rc} {ks : Nat → Nat} {m : Nat} (h : Kp rs ks m) : ∀ n, n < m → ∀ k, k ≤ ks n → ∃ i, i ≤ n ∧ ks i = k := by
  intro n
  induction n with
  | zero => intro _ k hk; rw [h.zero] at hk; exact ⟨0, Nat.le_refl _, by rw [h.zero]; omega⟩
  | succ n ih =>
    intro hn k hk
    by_cases e : k = ks (n + 1)
    · exact ⟨n + 1, Nat.le_refl _, e.symm⟩
    · rcases h.step n hn with h1 | h1
      · obtain ⟨i, i1, i2⟩ := ih (by omega) k (by omega); exact ⟨i, by omega, i2⟩
      · obtain ⟨i, i1, i2⟩ := ih (by omega) k (by omega); exact ⟨i, by omega, i2⟩
end Go.Proofs.YtkgjpfamjedncaaGreat

namespace Go.Proofs.YtkgjpfamjedncaaGreat
open Go.RowKit Go.Maps

/-- The answer to Prepare where E is kept, and what is kept then. -/
def PrepAns (E : Int → Ep) (e b wh pr ba : Int) (ys : List Int) (E' : Int → Ep) : Prop :=
  ((e < 1 ∨ b < 1 ∨ b ≤ (E e).pr) ∧ wh = 6 ∧ pr = (E e).pr ∧ ba = 0 ∧ ys = [] ∧ E' = E) ∨
  (¬ (e < 1 ∨ b < 1 ∨ b ≤ (E e).pr) ∧ wh = 1 ∧ pr = b ∧ ba = (E e).ba ∧ ys = (E e).val ∧ E' = updE E e ⟨b, (E e).ba, (E e).val⟩)
theorem PrepAns.one {E : Int → Ep} {e b wh pr ba : Int} {ys : List Int} {E' : Int → Ep} {wh' pr' ba' : Int} {ys' : List Int} {E'' : Int → Ep} (h : PrepAns E e b wh pr ba ys E') (h' : PrepAns E e b wh' pr' ba' ys' E'') : wh' = wh ∧ pr' = pr ∧ ba' = ba ∧ ys' = ys ∧ E'' = E' := by
  rcases h with ⟨h0, rfl, rfl, rfl, rfl, rfl⟩ | ⟨h0, rfl, rfl, rfl, rfl, rfl⟩ <;> rcases h' with ⟨k0, rfl, rfl, rfl, rfl, rfl⟩ | ⟨k0, rfl, rfl, rfl, rfl, rfl⟩
  · exact ⟨rfl, rfl, rfl, rfl, rfl⟩
  · exact absurd h0 k0
  · exact absurd k0 h0
  · exact ⟨rfl, rfl, rfl, rfl, rfl⟩
/-- The answer to Accept. -/
def AccAns (E : Int → Ep) (e b : Int) (vs : List Int) (wh pr : Int) (E' : Int → Ep) : Prop :=
  ((e < 1 ∨ b < 1 ∨ b < (E e).pr ∨ ¬ (1 ≤ vs.length ∧ vs.length ≤ 255)) ∧ wh = 6 ∧ pr = (E e).pr ∧ E' = E) ∨
  (¬ (e < 1 ∨ b < 1 ∨ b < (E e).pr ∨ ¬ (1 ≤ vs.length ∧ vs.length ≤ 255)) ∧ wh = 1 ∧ pr = b ∧ E' = updE E e ⟨b, b, vs⟩)
theorem AccAns.one {E : Int → Ep} {e b : Int} {vs : List Int} {wh pr : Int} {E' : Int → Ep} {wh' pr' : Int} {E'' : Int → Ep} (h : AccAns E e b vs wh pr E') (h' : AccAns E e b vs wh' pr' E'') : wh' = wh ∧ pr' = pr ∧ E'' = E' := by
  rcases h with ⟨h0, rfl, rfl, rfl⟩ | ⟨h0, rfl, rfl, rfl⟩ <;> rcases h' with ⟨k0, rfl, rfl, rfl⟩ | ⟨k0, rfl, rfl, rfl⟩
  · exact ⟨rfl, rfl, rfl⟩
  · exact absurd h0 k0
  · exact absurd k0 h0
  · exact ⟨rfl, rfl, rfl⟩
/-- The records go on by one at most. -/
def More (rs : List Rc) (S : Nat → Int → Ep) (rs' : List Rc) (S' : Nat → Int → Ep) : Prop :=
  (rs' = rs ∧ S' = S) ∨ ∃ r E', rs' = rs ++ [r] ∧ S' = upS S rs.length E'

theorem vp_prepare {w : World} {tag : Nat → Nat} {tg p : Nat} {rs : List Rc} {S : Nat → Int → Ep} (h : Vt w tag tg p rs S) (e b : Int) (hwf : (Lit.int .i64 e).wf = true) (hbf : (Lit.int .i64 b).wf = true) (hl : (flat rs).length ≤ 30000000) (hn : rs.length ≤ 30000000) :
    Calls Tryz.prog 52 #[.pointer (some ⟨p, 0, none⟩), .int .i64 e, .int .i64 b] w fun en w' => ∃ wh pr ba v ys E' rs' S', en = .returned (voteR wh pr ba v) ∧ PrepAns (S rs.length) e b wh pr ba ys E' ∧ w'.ownsRow w.heap.size 5 1 v ys.length (ys.map B8) ∧ Vt w' (tagV tag w.heap.size tg v) tg p rs' S' ∧ S' rs'.length = E' ∧ More rs S rs' S' ∧ (flat rs').length ≤ (flat rs).length + 24 ∧ Only (fun b => tag b = tg) w w' := by
  by_cases hno : e < 1 ∨ b < 1 ∨ b ≤ (S rs.length e).pr
  · refine (vt_prepNo h e b hwf hno).mono ?_
    rintro en w' ⟨rfl, hb⟩
    exact ⟨6, _, 0, _, [], _, rs, S, rfl, .inl ⟨hno, rfl, rfl, rfl, rfl, rfl⟩, World.ownsRow_nil _ _ _ _, h.only (Only.of_bl (S := fun _ => False) hb) (fun _ _ e => e.elim) (fun b hb => tagV_old _ _ _ _ _ hb), rfl, .inl ⟨rfl, rfl⟩, by omega, Only.of_bl hb⟩
  · refine (vt_prepYes h e b hwf hbf hl hn (by omega) (by omega) (by omega)).mono ?_
    rintro en w' ⟨v, rfl, hv, r1, r2⟩
    refine ⟨1, _, _, v, _, _, _, _, rfl, .inr ⟨hno, rfl, rfl, rfl, rfl, rfl⟩, hv, r1, upS_last _ _ _ _, .inr ⟨_, _, rfl, rfl⟩, ?_, r2⟩
    rw [flat_append, List.length_append]
    simp [flat, Rc.bytes, recB_len]
theorem vp_accept {w : World} {tag : Nat → Nat} {tg p : Nat} {rs : List Rc} {S : Nat → Int → Ep} (h : Vt w tag tg p rs S) (e b : Int) (v : Value) (vs : List Int) (hwf : (Lit.int .i64 e).wf = true) (hbf : (Lit.int .i64 b).wf = true) (hl : (flat rs).length ≤ 30000000) (hn : rs.length ≤ 30000000) (hba : ∀ e, (S rs.length e).ba ≤ (S rs.length e).pr)
    (hv : Bs w v (vs.map B8)) (hvb : ∀ g, v.ownBlock = some g → g < w.heap.size ∧ tag g ≠ tg) (hvl : vs.length ≤ 30000000) (hys : Byt vs) :
    Calls Tryz.prog 54 #[.pointer (some ⟨p, 0, none⟩), .int .i64 e, .int .i64 b, v] w fun en w' => ∃ wh pr E' rs' S', en = .returned (voteR wh pr 0 (.slice none 0 0)) ∧ AccAns (S rs.length) e b vs wh pr E' ∧ Vt w' (tagTo tag w.heap.size tg) tg p rs' S' ∧ S' rs'.length = E' ∧ More rs S rs' S' ∧ (flat rs').length ≤ (flat rs).length + 24 + vs.length ∧ Only (fun b => tag b = tg) w w' := by
  by_cases hno : e < 1 ∨ b < 1 ∨ b < (S rs.length e).pr ∨ ¬ (1 ≤ vs.length ∧ vs.length ≤ 255)
  · obtain ⟨ua, uc, ev⟩ := hv.len
    rw [List.length_map] at ev
    subst ev
    refine (vt_accNo h e b ua _ uc hwf (by omega) hno).mono ?_
    rintro en w' ⟨rfl, hb⟩
    exact ⟨6, _, _, rs, S, rfl, .inl ⟨hno, rfl, rfl, rfl⟩, h.only (Only.of_bl (S := fun _ => False) hb) (fun _ _ e => e.elim) (fun b hb => tagTo_old _ _ _ _ hb), rfl, .inl ⟨rfl, rfl⟩, by omega, Only.of_bl hb⟩
  · refine (vt_acc h e b v vs hwf hbf hl hn (by omega) (by omega) (by omega) (hba e) hv hvb (by omega) (by omega) hys).mono ?_
    rintro en w' ⟨rfl, ho, ⟨hb, he⟩ | r1⟩
    · exact ⟨1, b, _, rs, S, rfl, .inr ⟨hno, rfl, rfl, rfl⟩, h.only (Only.of_bl (S := fun _ => False) hb) (fun _ _ e => e.elim) (fun b hb => tagTo_old _ _ _ _ hb), he.symm, .inl ⟨rfl, rfl⟩, by omega, ho⟩
    · refine ⟨1, b, _, _, _, rfl, .inr ⟨hno, rfl, rfl, rfl⟩, r1, upS_last _ _ _ _, .inr ⟨_, _, rfl, rfl⟩, ?_, ho⟩
      rw [flat_append, List.length_append]
      simp [flat, Rc.bytes, recB_len]
      omega
/-- The vote's ballot is no higher than the promise. -/
theorem VWay.ba_le {rs : List Rc} {S : Nat → Int → Ep} (h : VWay rs S) : ∀ k, k ≤ rs.length → ∀ e, (S k e).ba ≤ (S k e).pr := by
  intro k
  induction k with
  | zero => intro _ e; rw [h.zero]; simp [nop]
  | succ k ih =>
    intro hk e
    have h1 := ih (by omega)
    have h2 := h.step k (by omega)
    have key : ∀ E0 r E', VPlays E0 r E' → (∀ e, (E0 e).ba ≤ (E0 e).pr) → (E' e).ba ≤ (E' e).pr := by
      intro E0 r E' hp h0
      cases hp with
      | prep x b hx hb hlt =>
        unfold updE
        split
        · have := h0 x; simp; omega
        · exact h0 e
      | acc x b ys hx =>
        unfold updE
        split
        · simp
        · exact h0 e
    exact key _ _ _ h2 h1
end Go.Proofs.YtkgjpfamjedncaaGreat

namespace Go.Proofs.YtkgjpfamjedncaaGreat
open Go.RowKit Go.Maps

/-- Marks that go on: old blocks keep theirs, new ones are the document's. -/
structure On (N j : Nat) (tag tag' : Nat → Nat) : Prop where
  old : ∀ b, b < N → tag' b = tag b
  new : ∀ b, N ≤ b → tag' b = tR j ∨ tag' b = tV j
theorem On.const (N j : Nat) (tag : Nat → Nat) : On N j tag (tagTo tag N (tV j)) := ⟨fun _ hb => tagTo_old _ _ _ _ hb, fun _ hb => .inr (tagTo_new _ _ _ _ hb)⟩
theorem Rn.rt {w w' : World} {tag : Nat → Nat} {j y nn : Nat} {lv lv' : Value} {n0 n : Nat} {F0 F : Nat → Sq} {E' : Int → Ep} (h : Rn 0 w w' y lv lv' n0 F0 n F E') (hn : n ≤ nn) (hr : Rw 0 w y lv n0 F0) (h3 : tag y = tR j) (h4 : ∀ b, lv.ownBlock = some b → tag b = tR j) (h5 : ∀ i, i < n0 → ∀ b, (F0 i).v.ownBlock = some b → tag b = tV j) :
    (∃ tag', On w.heap.size j tag tag' ∧ Rt w' tag' j y E' nn) ∧ Only (fun b => tag b = tR j) w w' := by
  refine ⟨⟨fun b => if b < w.heap.size then tag b else if lv'.ownBlock = some b then tR j else tV j, ⟨fun b hb => by simp [hb], fun b hb => ?_⟩, lv', n, F, hn, h.rw, h.rl, ?_, fun b hb => ?_, fun i hi b hb => ?_⟩, h.only.mono fun b _ e => ?_⟩
  · rw [if_neg (by omega)]
    split
    · exact .inl rfl
    · exact .inr rfl
  · rw [if_pos hr.lt]; exact h3
  · split
    · rename_i hlt
      rcases h.lies b hb with h1 | h1
      · exact h4 b h1
      · omega
    · simp
  · split
    · rename_i hlt
      rcases h.vl i hi b hb with ⟨k, k1, k2⟩ | h1
      · exact h5 k k1 b k2
      · omega
    · rw [if_neg fun e => ownsRow_type (h.rw.val i hi) h.rw.own (by decide) b hb e]
  · rcases e with rfl | e
    · exact h3
    · exact h4 b e

theorem rt_prepare {w : World} {tag : Nat → Nat} {j y nn : Nat} {E : Int → Ep} (h : Rt w tag j y E nn) (e b : Int) (hnn : nn ≤ 4000000) (hlow : e < 1 → E e = nop) :
    Calls Tryz.prog 53 #[.pointer (some ⟨y, 0, none⟩), .int .i64 e, .int .i64 b] w fun en w' => ∃ wh pr ba v ys E' tag', en = .returned (voteR wh pr ba v) ∧ PrepAns E e b wh pr ba ys E' ∧ w'.ownsRow 0 5 1 v ys.length (ys.map B8) ∧ On w.heap.size j tag tag' ∧ Rt w' tag' j y E' (nn + 1) ∧ Only (fun b => tag b = tR j) w w' := by
  have hh := h
  obtain ⟨lv, n, F, h0, h1, h2, h3, h4, h5⟩ := h
  by_cases he : e < 1
  · refine (refPrepLow_any y e b w he).mono ?_
    rintro en w' ⟨rfl, hb⟩
    have e0 := hlow he
    refine ⟨6, 0, 0, _, [], E, _, rfl, .inl ⟨.inl he, rfl, by rw [e0]; rfl, rfl, rfl, rfl⟩, World.ownsRow_nil _ _ _ _, On.const _ _ _, ?_, Only.of_bl hb⟩
    obtain ⟨lv, n, F, k0, k⟩ := hh.only (tag' := tagTo tag w.heap.size (tV j)) (Only.of_bl (S := fun _ => False) hb) (fun _ _ e => e.elim) (fun b hb => tagTo_old _ _ _ _ hb)
    exact ⟨lv, n, F, by omega, k⟩
  · by_cases hno : b < 1 ∨ b ≤ (E e).pr
    · refine (refPrep_any 0 y lv n F E e b w h1 h2 (by omega) (by omega) (Nat.zero_le _) hno).mono ?_
      rintro en w' ⟨lv', n', F', rfl, hn', hR⟩
      obtain ⟨⟨tag', r1, r2⟩, r3⟩ := hR.rt (nn := nn + 1) (by omega) h1 h3 h4 h5
      exact ⟨6, _, 0, _, [], E, tag', rfl, .inl ⟨.inr hno, rfl, rfl, rfl, rfl, rfl⟩, World.ownsRow_nil _ _ _ _, r1, r2, r3⟩
    · refine (refPrepYes_any 0 y lv n F E e b w h1 h2 (by omega) (by omega) (Nat.zero_le _) (by omega) (by omega)).mono ?_
      rintro en w' ⟨lv', n', F', v, rfl, hn', hR, hv⟩
      obtain ⟨⟨tag', r1, r2⟩, r3⟩ := hR.rt (nn := nn + 1) (by omega) h1 h3 h4 h5
      exact ⟨1, _, _, v, _, _, tag', rfl, .inr ⟨by rintro (h | h); exact he h; exact hno h, rfl, rfl, rfl, rfl, rfl⟩, hv, r1, r2, r3⟩
theorem rt_accept {w : World} {tag : Nat → Nat} {j y nn : Nat} {E : Int → Ep} (h : Rt w tag j y E nn) (e b : Int) (v : Value) (vs : List Int) (hnn : nn ≤ 4000000) (hlow : e < 1 → E e = nop) (hv : Bs w v (vs.map B8)) (hvb : ∀ g, v.ownBlock = some g → tag g ≠ tR j) (hvl : vs.length ≤ 30000000) :
    Calls Tryz.prog 55 #[.pointer (some ⟨y, 0, none⟩), .int .i64 e, .int .i64 b, v] w fun en w' => ∃ wh pr E' tag', en = .returned (voteR wh pr 0 (.slice none 0 0)) ∧ AccAns E e b vs wh pr E' ∧ On w.heap.size j tag tag' ∧ Rt w' tag' j y E' (nn + 1) ∧ Only (fun b => tag b = tR j) w w' := by
  have hh := h
  obtain ⟨lv, n, F, h0, h1, h2, h3, h4, h5⟩ := h
  by_cases he : e < 1
  · obtain ⟨ua, uc, ev⟩ := hv.len
    subst ev
    refine (refAccLow_any y e b ua _ uc w he).mono ?_
    rintro en w' ⟨rfl, hb⟩
    have e0 := hlow he
    refine ⟨6, 0, E, _, rfl, .inl ⟨.inl he, rfl, by rw [e0]; rfl, rfl⟩, On.const _ _ _, ?_, Only.of_bl hb⟩
    obtain ⟨lv, n, F, k0, k⟩ := hh.only (tag' := tagTo tag w.heap.size (tV j)) (Only.of_bl (S := fun _ => False) hb) (fun _ _ e => e.elim) (fun b hb => tagTo_old _ _ _ _ hb)
    exact ⟨lv, n, F, by omega, k⟩
  · by_cases hno : b < 1 ∨ b < (E e).pr ∨ ¬ (1 ≤ vs.length ∧ vs.length ≤ 255)
    · obtain ⟨ua, uc, ev⟩ := hv.len
      rw [List.length_map] at ev
      subst ev
      refine (refAccNo_any 0 y lv n F E e b ua _ uc w h1 h2 (by omega) (by omega) (Nat.zero_le _) (by omega) hno).mono ?_
      rintro en w' ⟨lv', n', F', rfl, hn', hR⟩
      obtain ⟨⟨tag', r1, r2⟩, r3⟩ := hR.rt (nn := nn + 1) (by omega) h1 h3 h4 h5
      exact ⟨6, _, E, tag', rfl, .inl ⟨.inr hno, rfl, rfl, rfl⟩, r1, r2, r3⟩
    · refine (refAccYes_any 0 y lv n F E e b v vs w h1 h2 (by omega) (by omega) (Nat.zero_le _) hv (fun g hg hF => ?_) (by omega) (by omega) (by omega) (by omega)).mono ?_
      · rcases hF with rfl | hF
        · exact hvb g hg h3
        · exact hvb g hg (h4 g hF)
      rintro en w' ⟨lv', n', F', rfl, hn', hR⟩
      obtain ⟨⟨tag', r1, r2⟩, r3⟩ := hR.rt (nn := nn + 1) (by omega) h1 h3 h4 h5
      exact ⟨1, b, _, tag', rfl, .inr ⟨by rintro (h | h); exact he h; exact hno h, rfl, rfl, rfl⟩, r1, r2, r3⟩
end Go.Proofs.YtkgjpfamjedncaaGreat
