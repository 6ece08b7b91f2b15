-- A content is laid into its cell.
-- Image; Write of an old epoch.
import Derived.Test.YtkgjpfamjedncaaGreatLookCalls
namespace Go.Proofs.YtkgjpfamjedncaaGreat
open Go.RowKit
attribute [local go_sem ↓] Go.wp_at_zero Go.wp_at_succ

/-- The cells of a unit, one content more. -/
def put4 (K : Nat → Value) (i : Nat) (ep kd cl ca : Value) (v : Value) : Nat → Value := upd (upd (upd (upd (upd K 5 ep) (7 + i * 4) kd) (7 + i * 4 + 1) cl) (7 + i * 4 + 2) ca) (7 + i * 4 + 3) v
theorem put4_5 (K : Nat → Value) (i : Nat) (ep kd cl ca v : Value) : put4 K i ep kd cl ca v 5 = ep := by
  unfold put4; rw [upd_other _ _ _ _ (by omega), upd_other _ _ _ _ (by omega), upd_other _ _ _ _ (by omega), upd_other _ _ _ _ (by omega), upd_same]
theorem put4_other (K : Nat → Value) (i j : Nat) (ep kd cl ca v : Value) (h5 : j ≠ 5) (h : j < 7 + i * 4 ∨ 7 + i * 4 + 3 < j) : put4 K i ep kd cl ca v j = K j := by
  unfold put4; rw [upd_other _ _ _ _ (by omega), upd_other _ _ _ _ (by omega), upd_other _ _ _ _ (by omega), upd_other _ _ _ _ (by omega), upd_other _ _ _ _ h5]
theorem put4_kd (K : Nat → Value) (i : Nat) (ep kd cl ca v : Value) : put4 K i ep kd cl ca v (7 + 4 * i) = kd := by
  unfold put4; rw [show 7 + 4 * i = 7 + i * 4 by omega, upd_other _ _ _ _ (by omega), upd_other _ _ _ _ (by omega), upd_other _ _ _ _ (by omega), upd_same]
theorem put4_cl (K : Nat → Value) (i : Nat) (ep kd cl ca v : Value) : put4 K i ep kd cl ca v (8 + 4 * i) = cl := by
  unfold put4; rw [show 8 + 4 * i = 7 + i * 4 + 1 by omega, upd_other _ _ _ _ (by omega), upd_other _ _ _ _ (by omega), upd_same]
theorem put4_ca (K : Nat → Value) (i : Nat) (ep kd cl ca v : Value) : put4 K i ep kd cl ca v (9 + 4 * i) = ca := by
  unfold put4; rw [show 9 + 4 * i = 7 + i * 4 + 2 by omega, upd_other _ _ _ _ (by omega), upd_same]
theorem put4_v (K : Nat → Value) (i : Nat) (ep kd cl ca v : Value) : put4 K i ep kd cl ca v (10 + 4 * i) = v := by
  unfold put4; rw [show 10 + 4 * i = 7 + i * 4 + 3 by omega, upd_same]

theorem Ks.put {base : Nat} {w W w' : World} {p : Nat} {a b c d ch ep mk ep' : Int} {ct : Nat → Ct} {img rec : List Int} {K : Nat → Value} {v' u : Value} {n : Nat} {xs : List Value} {kd cl ca : Int} {ys : List Int} (h : Ks base w p a b c d ch ep mk ct img K) (i : Nat) (hi : i < 16) (hW : Only (fun b => b = p) w W)
    (hk : Keeps base W w' p (put4 K i (.int .i64 ep') (.int .i64 kd) (.int .i64 cl) (.int .i64 ca) u) (K 71) v' n xs) (hn : n = img.length + rec.length) (hx : xs = img.map B8 ++ rec.map B8) (hu : w'.ownsRow base 5 1 u ys.length (ys.map B8)) (hug : ∀ g, u.ownBlock = some g → g < W.heap.size ∧ (K 71).ownBlock ≠ some g) :
    Ks base w' p a b c d ch ep' mk (fun j => if j = i then ⟨kd, cl, ca, ys⟩ else ct j) (img ++ rec) (upd (put4 K i (.int .i64 ep') (.int .i64 kd) (.int .i64 cl) (.int .i64 ca) u) 71 v') ∧ Only (fun b => b = p ∨ (K 71).ownBlock = some b) w w' := by
  have O := (hW.mono (T := fun b => b = p ∨ (K 71).ownBlock = some b) fun b _ e => .inl e).trans hk.only
  have e0 : ∀ j, j ≠ 71 → j ≠ 5 → (j < 7 + i * 4 ∨ 7 + i * 4 + 3 < j) → upd (put4 K i (.int .i64 ep') (.int .i64 kd) (.int .i64 cl) (.int .i64 ca) u) 71 v' j = K j := fun j h1 h2 h3 => by rw [upd_other _ _ _ _ h1, put4_other _ _ _ _ _ _ _ _ h2 h3]
  refine ⟨⟨hk.at', by rw [e0 0 (by decide) (by decide) (by omega)]; exact h.k0, by rw [e0 1 (by decide) (by decide) (by omega)]; exact h.k1, by rw [e0 2 (by decide) (by decide) (by omega)]; exact h.k2, by rw [e0 3 (by decide) (by decide) (by omega)]; exact h.k3, by rw [e0 4 (by decide) (by decide) (by omega)]; exact h.k4, by rw [upd_other _ _ _ _ (by decide), put4_5], by rw [e0 6 (by decide) (by decide) (by omega)]; exact h.k6, by rw [upd_same, List.length_append, List.map_append, ← hx, ← hn]; exact hk.own, fun j hj => ?_, fun j hj => ?_, fun j hj => ?_, fun j hj => ?_, fun j hj g hg => ?_⟩, O⟩
  · by_cases e : j = i
    · subst e; rw [upd_other _ _ _ _ (by omega), put4_kd, if_pos rfl]
    · rw [if_neg e, e0 _ (by omega) (by omega) (by omega)]; exact h.kd j hj
  · by_cases e : j = i
    · subst e; rw [upd_other _ _ _ _ (by omega), put4_cl, if_pos rfl]
    · rw [if_neg e, e0 _ (by omega) (by omega) (by omega)]; exact h.cl j hj
  · by_cases e : j = i
    · subst e; rw [upd_other _ _ _ _ (by omega), put4_ca, if_pos rfl]
    · rw [if_neg e, e0 _ (by omega) (by omega) (by omega)]; exact h.ca j hj
  · by_cases e : j = i
    · subst e; rw [upd_other _ _ _ _ (by omega), put4_v, if_pos rfl]; exact hu
    · rw [if_neg e, e0 _ (by omega) (by omega) (by omega)]
      refine O.owns (h.val j hj) fun g hg e => ?_
      rcases e with e | e
      · exact h.at'.ne_own (h.val j hj) (by decide) (by rw [hg, e])
      · exact h.apart j hj g hg e
  · rw [upd_same]
    intro e'
    have hlW := hW.size
    by_cases e : j = i
    · subst e
      rw [upd_other _ _ _ _ (by omega), put4_v] at hg
      rcases hk.lies g e' with e2 | e2
      · exact (hug g hg).2 e2
      · have := (hug g hg).1; omega
    · rw [e0 _ (by omega) (by omega) (by omega)] at hg
      rcases hk.lies g e' with e2 | e2
      · exact h.apart j hj g hg e2
      · have := ((h.val j hj).lt g hg).2; omega

set_option maxRecDepth 100000 in
set_option maxHeartbeats 2000000 in
theorem put_any (base p : Nat) (a b c d ch ep mk : Int) (ct : Nat → Ct) (img : List Int) (K : Nat → Value) (ep' x kd cl ca : Int) (v : Value) (ys : List Int) (i : Nat) (w : World) (h : Ks base w p a b c d ch ep mk ct img K) (hb : base ≤ w.heap.size) (hl : img.length ≤ 30000000) (hv : Bs w v (ys.map B8)) (hy : ys.length ≤ 255) (hvb : ∀ g, v.ownBlock = some g → g < w.heap.size ∧ (K 71).ownBlock ≠ some g ∧ g ≠ p)
    (hi : i < 16) (hloc : loc a b c d x = (ch, (i : Int), 0)) :
    Calls Tryz.prog 99 #[.pointer (some ⟨p, 0, none⟩), .int .i64 ep', .int .i64 x, .agg #[.int .i64 kd, .int .i64 cl, .int .i64 ca, v]] w fun e w' => ∃ K', e = .returned (.tuple #[]) ∧ Ks base w' p a b c d ch ep' mk (fun j => if j = i then ⟨kd, cl, ca, ys⟩ else ct j) (img ++ recB 3 [ep', x, kd, cl, ca] ys) K' ∧ Only (fun b => b = p ∨ (K 71).ownBlock = some b) w w' := by
  have H := hid h
  have hp := h.at'.lt
  have c0 := h.at'.cell 0 (by decide)
  have c1 := h.at'.cell 1 (by decide)
  have c2 := h.at'.cell 2 (by decide)
  have c3 := h.at'.cell 3 (by decide)
  have c5 := h.at'.cell 5 (by decide)
  have f5 := h.at'.frozen 5
  rw [h.k0] at c0; rw [h.k1] at c1; rw [h.k2] at c2; rw [h.k3] at c3; rw [h.k5] at c5
  obtain ⟨va, vc, ev⟩ := hv.len
  rw [List.length_map] at ev
  subst ev
  have Hv := hid hv
  have Hvb := hid hvb
  clear h hv hvb
  have i16 : (i : Int) < 16 := by omega
  go_enter Tryz.func99, Tryz.ntmps99
  go_wp2_with fail
  refine (locate_any a b c d x _).mono ?_
  rw [hloc]
  unfold tup
  rintro e w' ⟨rfl, hbl⟩
  have HB := hid (((Bl.refl w).alloc _).trans hbl)
  have HX := hid ((hbl.heap (by simp)).trans (heap_alloc_new w (.cells #[.int .i64 kd, .int .i64 cl, .int .i64 ca, .slice va ys.length vc] 42)))
  have HK := hid (H.out.bl HB.out)
  have lX : w.heap.size < w'.heap.size := (Array.getElem?_eq_some_iff.1 HX.out).1
  have x0 := cell_of_row w' w.heap.size 0 _ 42 (0, 0) HX.out
  have x1 := cell_of_row w' w.heap.size 1 _ 42 (0, 0) HX.out
  have x2 := cell_of_row w' w.heap.size 2 _ 42 (0, 0) HX.out
  have x3 := cell_of_row w' w.heap.size 3 _ 42 (0, 0) HX.out
  simp at x0 x1 x2 x3
  have d5 := HK.out.at'.cell 5 (by decide)
  have g5 := HK.out.at'.frozen 5
  rw [HK.out.k5] at d5
  have lP : p < w'.heap.size := Nat.lt_trans hp lX
  clear hbl c0 c1 c2 c3 c5 f5 hloc
  have A5 := hid (HK.out.at'.set 5 (.int .i64 ep'))
  have O5 : Hid (Only (fun b => b = p) w' (w'.setCell ⟨p, 5, none⟩ (.int .i64 ep'))) := (Only.refl (fun b => b = p) w').setCell ⟨p, 5, none⟩ (.inl rfl) (.int .i64 ep')
  have hxp : w.heap.size ≠ p := by omega
  have X5 := hid ((O5.out.block _ lX hxp).trans HX.out)
  have V5 : Hid (Bs (w'.setCell ⟨p, 5, none⟩ (.int .i64 ep')) (.slice va ys.length vc) (ys.map B8)) := (Hv.out.bl HB.out).only O5.out fun g e e' => (Hvb.out g e).2.2 e'
  go_wp2
  generalize hW0 : w'.setCell ⟨p, 5, none⟩ (.int .i64 ep') = W0 at *
  have l0 : w.heap.size < W0.heap.size := (Array.getElem?_eq_some_iff.1 X5.out).1
  have y0 := cell_of_row W0 w.heap.size 0 _ 42 (0, 0) X5.out
  have y1 := cell_of_row W0 w.heap.size 1 _ 42 (0, 0) X5.out
  have y2 := cell_of_row W0 w.heap.size 2 _ 42 (0, 0) X5.out
  have y3 := cell_of_row W0 w.heap.size 3 _ 42 (0, 0) X5.out
  simp at y0 y1 y2 y3
  have HW0 := hid hW0
  clear x0 x1 x2 x3 d5 g5 hW0
  go_region_with (go_at_call 114; refine (copied_any kd cl ca _ ys _ (by exact V5.out.bl ((Bl.refl _).drewN _)) (by omega)).mono ?_; rintro e w2 ⟨v', rfl, hb2, hv2⟩; obtain ⟨ua, uc, eu⟩ : ∃ a c, v' = .slice a ys.length c := (by obtain ⟨a', c', e'⟩ := (ownsRow_sl hv2).len; rw [ownsRow_len hv2] at e'; exact ⟨a', c', e'⟩); subst eu; have hA2 := (A5.out.bl ((Bl.refl _).drewN _)).bl hb2; have q0 := hA2.cell (7 + i * 4) (by omega); have q1 := hA2.cell (7 + i * 4 + 1) (by omega); have q2 := hA2.cell (7 + i * 4 + 2) (by omega); have q3 := hA2.cell (7 + i * 4 + 3) (by omega); have g0 := hA2.frozen (7 + i * 4); have g1 := hA2.frozen (7 + i * 4 + 1); have g2 := hA2.frozen (7 + i * 4 + 2); have g3 := hA2.frozen (7 + i * 4 + 3); have HA2 := hid hA2; have Hb2 := hid hb2; have Hv2 := hid hv2; have z0 := (hb2.cell l0).trans y0; have z1 := (hb2.cell l0).trans y1; have z2 := (hb2.cell l0).trans y2; have z3 := (hb2.cell l0).trans y3; clear hA2 hb2 hv2)
  all_goals
    have O4 : Hid (Only (fun b => b = p) w2 ((((w2.setCell ⟨p, 7 + i * 4, none⟩ (.int .i64 kd)).setCell ⟨p, 7 + i * 4 + 1, none⟩ (.int .i64 cl)).setCell ⟨p, 7 + i * 4 + 2, none⟩ (.int .i64 ca)).setCell ⟨p, 7 + i * 4 + 3, none⟩ (.slice ua ys.length uc))) := ((((Only.refl (fun b => b = p) w2).setCell ⟨p, 7 + i * 4, none⟩ (.inl rfl) (.int .i64 kd)).setCell ⟨p, 7 + i * 4 + 1, none⟩ (.inl rfl) (.int .i64 cl)).setCell ⟨p, 7 + i * 4 + 2, none⟩ (.inl rfl) (.int .i64 ca)).setCell ⟨p, 7 + i * 4 + 3, none⟩ (.inl rfl) (.slice ua ys.length uc)
    have A4 := hid ((((HA2.out.set (7 + i * 4) (.int .i64 kd)).set (7 + i * 4 + 1) (.int .i64 cl)).set (7 + i * 4 + 2) (.int .i64 ca)).set (7 + i * 4 + 3) (.slice ua ys.length uc))
    have B2 : Hid (Bl W0 w2) := by first | exact ((Bl.refl _).drew).trans Hb2.out | exact ((Bl.refl _).drewN _).trans Hb2.out
    have S2 : Hid (w2.ownsRow w.heap.size 5 1 (.slice ua ys.length uc) ys.length (ys.map B8)) := ownsRow_base Hv2.out (fun g hg => Nat.le_trans (by have := l0; simp; omega) (Hv2.out.lt g hg).1)
    have N2 : Hid (∀ g, (Value.slice ua ys.length uc).ownBlock = some g → W0.heap.size ≤ g) := fun g hg => Nat.le_trans (by simp) (Hv2.out.lt g hg).1
    clear Hb2 Hv2 HA2 q0 q1 q2 q3 g0 g1 g2 g3
    generalize ((((w2.setCell ⟨p, 7 + i * 4, none⟩ (.int .i64 kd)).setCell ⟨p, 7 + i * 4 + 1, none⟩ (.int .i64 cl)).setCell ⟨p, 7 + i * 4 + 2, none⟩ (.int .i64 ca)).setCell ⟨p, 7 + i * 4 + 3, none⟩ (.slice ua ys.length uc)) = W4 at *
    have l2 : Hid (w.heap.size < w2.heap.size) := Nat.lt_of_lt_of_le l0 B2.out.lt
    have u0 := (O4.out.cell (o := 0) l2.out hxp).trans z0
    have u1 := (O4.out.cell (o := 1) l2.out hxp).trans z1
    have u2 := (O4.out.cell (o := 2) l2.out hxp).trans z2
    have u3 := (O4.out.cell (o := 3) l2.out hxp).trans z3
    clear z0 z1 z2 z3 y0 y1 y2 y3
    have l4 : w.heap.size < W4.heap.size := Nat.lt_of_lt_of_le l2.out O4.out.size
    have O6 : Hid (Only (fun b => b = p) w W4) := ((Only.of_bl HB.out).trans O5.out).trans ((Only.of_bl B2.out).trans O4.out)
    have own4 : Hid (W4.ownsRow base 5 1 (K 71) img.length (img.map B8)) := O6.out.owns H.out.own fun g e e' => H.out.at'.ne_own H.out.own (by decide) (by rw [e, e'])
    have val4 : Hid (Bs W4 (.slice va ys.length vc) (ys.map B8)) := Hv.out.only O6.out fun g e e' => (Hvb.out g e).2.2 e'
    have bA : Hid (Bl W4 (W4.alloc (.cells #[.int .i64 ep', .int .i64 x, .int .i64 kd, .int .i64 cl, .int .i64 ca] 3))) := (Bl.refl W4).alloc _
    have hN : Hid (Bs (W4.alloc (.cells #[.int .i64 ep', .int .i64 x, .int .i64 kd, .int .i64 cl, .int .i64 ca] 3)) (.slice (some ⟨W4.heap.size, 0, none⟩) 5 5) ([ep', x, kd, cl, ca].map (Value.int .i64))) := bs_new W4 3 #[.int .i64 ep', .int .i64 x, .int .i64 kd, .int .i64 cl, .int .i64 ca] 5 rfl
    have k71 : Hid (upd (upd (upd (upd (upd K 5 (.int .i64 ep')) (7 + i * 4) (.int .i64 kd)) (7 + i * 4 + 1) (.int .i64 cl)) (7 + i * 4 + 2) (.int .i64 ca)) (7 + i * 4 + 3) (.slice ua ys.length uc) 71 = K 71) := by
      unfold Hid
      rw [upd_other _ _ _ _ (by omega), upd_other _ _ _ _ (by omega), upd_other _ _ _ _ (by omega), upd_other _ _ _ _ (by omega), upd_other _ _ _ _ (by omega)]
    have Hkeep : Hid (∀ W, Bl (W4.alloc (.cells #[.int .i64 ep', .int .i64 x, .int .i64 kd, .int .i64 cl, .int .i64 ca] 3)) W → _) := fun W hW => keep_any base p _ (K 71) img.length (img.map B8) 3 _ _ [ep', x, kd, cl, ca] ys W (A4.out.bl (bA.out.trans hW)) k71.out ((Only.of_bl (S := fun _ => False) (bA.out.trans hW)).owns own4.out fun _ _ e => e) (by have := (bA.out.trans hW).lt; omega) hl (hN.out.bl hW) (val4.out.bl (bA.out.trans hW)) (by decide) (by decide) (by simp) hy (fun g e e' => by simp [Value.ownBlock] at e'; have := (own4.out.lt g e).2; omega) (fun g e e' => (Hvb.out g e').2.1 e) (fun g e => by simp [Value.ownBlock] at e; have := hW.lt; simp at this; omega) (fun g e => by have := (Hvb.out g e).1; have := (bA.out.trans hW).lt; omega)
    clear hN val4 own4
    go_wp2_with fail
    go_region_with (go_at_call 113; refine (Hkeep.out _ (by exact (Bl.refl _).drewN _)).mono ?_; rintro e w6 ⟨v6, rfl, hk⟩; have HK6 := hid hk; clear hk)
    all_goals
     go_end0
     have bA := hid (bA.out.trans ((Bl.refl _).drewN 1))
     have hS : ∀ g, (Value.slice ua ys.length uc).ownBlock = some g → g ≠ p ∧ (K 71).ownBlock ≠ some g := fun g e => by
       have h1 := (S2.out.lt g e).1
       refine ⟨by omega, fun e' => ?_⟩
       have := (H.out.own.lt g e').2
       omega
     have S4 := O4.out.owns S2.out fun g e e' => (hS g e).1 e'
     have S5 := (Only.of_bl (S := fun _ => False) bA.out).owns S4 fun _ _ e => e
     have S6 := HK6.out.only.owns S5 fun g e e' => by
       rcases e' with e' | e'
       · exact (hS g e).1 e'
       · exact (hS g e).2 e'
     have R := H.out.put i hi (O6.out.trans (Only.of_bl bA.out)) HK6.out rfl rfl (ownsRow_base (base' := base) S6 fun g e => Nat.le_trans hb (S6.lt g e).1) (fun g e => ⟨Nat.lt_of_lt_of_le (S4.lt g e).2 bA.out.lt, (hS g e).2⟩)
     exact ⟨_, rfl, R.1, R.2⟩
end Go.Proofs.YtkgjpfamjedncaaGreat

namespace Go.Proofs.YtkgjpfamjedncaaGreat
open Go.RowKit
attribute [local go_sem ↓] Go.wp_at_zero Go.wp_at_succ

set_option maxRecDepth 100000 in
set_option maxHeartbeats 1000000 in
theorem bytes_raw (base p o : Nat) (v : Value) (img : List Int) (w : World) (_hp : p < w.heap.size) (c71 : w.cell? ⟨p, o, none⟩ = some v) (hv : w.ownsRow base 5 1 v img.length (img.map B8)) (hl : img.length ≤ 30000000) :
    Calls Tryz.prog 94 #[.pointer (some ⟨p, o, none⟩)] w fun e w' => ∃ v', e = .returned v' ∧ Bl w w' ∧ w'.ownsRow w.heap.size 5 1 v' img.length (img.map B8) := by
  have Hv := hid (ownsRow_bs hv)
  clear hv
  obtain ⟨va, vc, ev⟩ := Hv.out.len
  rw [List.length_map] at ev
  rw [ev] at c71 Hv
  clear ev
  go_enter Tryz.func94, Tryz.ntmps94
  go_wp2_with fail
  refine (clone_any _ img _ Hv.out (by omega)).mono ?_
  rintro e w' ⟨v', rfl, hb, hv⟩
  have HB := hid hb
  have HV := hid hv
  clear hb hv
  go_wp2
  go_ret
  exact ⟨_, rfl, HB.out, HV.out⟩

set_option maxRecDepth 100000 in
set_option maxHeartbeats 1000000 in
theorem image_any (base p : Nat) (a b c d ch ep mk : Int) (ct : Nat → Ct) (img : List Int) (K : Nat → Value) (w : World) (h : Ks base w p a b c d ch ep mk ct img K) (hl : img.length ≤ 30000000) :
    Calls Tryz.prog 69 #[.pointer (some ⟨p, 0, none⟩)] w fun e w' => ∃ v', e = .returned v' ∧ Bl w w' ∧ w'.ownsRow w.heap.size 5 1 v' img.length (img.map B8) := by
  have hp := h.at'.lt
  have H := hid h
  clear h
  go_enter Tryz.func69, Tryz.ntmps69
  go_wp2_with fail
  refine (bytes_raw base p 71 _ img _ hp (H.out.at'.cell 71 (by decide)) H.out.own hl).mono ?_
  rintro e w' ⟨v', rfl, hb, hv⟩
  have HB := hid hb
  have HV := hid hv
  clear hb hv
  go_wp2
  go_ret
  exact ⟨_, rfl, HB.out, HV.out⟩

set_option maxRecDepth 100000 in
set_option maxHeartbeats 2000000 in
theorem writeOld_any (base p : Nat) (a b c d ch ep mk : Int) (ct : Nat → Ct) (img : List Int) (K : Nat → Value) (ep' x kd cl ca : Int) (va : Option Addr) (vn vc : Nat) (w : World) (h : Ks base w p a b c d ch ep mk ct img K) (he : ep' < ep) :
    Calls Tryz.prog 75 #[.pointer (some ⟨p, 0, none⟩), .int .i64 ep', .int .i64 x, .agg #[.int .i64 kd, .int .i64 cl, .int .i64 ca, .slice va vn vc]] w fun e w' => e = .returned (reply 5 ep 0 0 0 0 (.slice none 0 0)) ∧ Ks base w' p a b c d ch ep mk ct img K ∧ Bl w w' := by
  have H := hid h
  have hp := h.at'.lt
  have c5 := h.at'.cell 5 (by decide)
  rw [h.k5] at c5
  clear h
  have bA := hid (((Bl.refl w).alloc (.cells #[.int .i64 kd, .int .i64 cl, .int .i64 ca, .slice va vn vc] 42)).alloc (.cells blank 98))
  have HN := hid (heap_alloc_new (w.alloc (.cells #[.int .i64 kd, .int .i64 cl, .int .i64 ca, .slice va vn vc] 42)) (.cells blank 98))
  rw [show (w.alloc (.cells #[.int .i64 kd, .int .i64 cl, .int .i64 ca, .slice va vn vc] 42)).heap.size = w.heap.size + 1 from by simp] at HN
  go_enter Tryz.func75, Tryz.ntmps75
  go_wp2_with fail
  refine (sealed_any p K ep _ (H.out.at'.bl bA.out) H.out.k5).mono ?_
  rintro e w' ⟨rfl, hb2⟩
  have HN2 := hid ((hb2.heap (by simp)).trans HN.out)
  have HK2 := hid ((H.out.bl bA.out).bl hb2)
  have HB2 := hid (bA.out.trans hb2)
  have lN : w.heap.size + 1 < w'.heap.size := (Array.getElem?_eq_some_iff.1 HN2.out).1
  obtain ⟨n0, n1, n2, n3, n4, n5, n6, f0, f1, f2, f3, f4, f5, f6⟩ := blank_row HN2.out
  unfold reply
  clear hb2
  go_wp2
  have F := Only.set7 (w := w') (S := fun b => b = w.heap.size + 1) rfl (.int .i64 5) (.int .i64 ep) (.int .i64 0) (.int .i64 0) (.int .i64 0) (.int .i64 0) (.slice none 0 0)
  exact bodyPost_ret (v := reply 5 ep 0 0 0 0 (.slice none 0 0)) (by simp [results, Tryz.results75, go_sem, reply, n0, n1, n2, n3, n4, n5, n6]) rfl ⟨rfl, HK2.out.other F HN2.out (by omega), HB2.out.trans_only F (fun n e => by omega)⟩
end Go.Proofs.YtkgjpfamjedncaaGreat
