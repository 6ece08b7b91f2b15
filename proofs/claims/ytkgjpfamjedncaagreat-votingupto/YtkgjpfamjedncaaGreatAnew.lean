-- A voter of the script is opened anew from its image, in its place.
import Derived.Test.YtkgjpfamjedncaaGreatBTag
namespace Go.Proofs.YtkgjpfamjedncaaGreat
open Go.RowKit Go.Maps
attribute [local go_sem ↓] Go.wp_at_zero Go.wp_at_succ

theorem Ob.x {w : World} {tag : Nat → Nat} {j q : Nat} {rs : List Rc} {S : Nat → Int → Ep} {m nn : Nat} (h : Ob 0 w tag j q rs S m nn) : ∃ p, w.cell? ⟨q, 0, none⟩ = some (.pointer (some ⟨p, 0, none⟩)) ∧ q < w.heap.size ∧ tag q = tD j ∧ Vt w tag (tP j) p rs S ∧ w.frozen? ⟨q, 0, none⟩ = false := by
  obtain ⟨p, y, pv, sv, xs, ks, h1, h2, h3, _⟩ := h
  exact ⟨p, cell_of_row w q 0 _ 91 (0, 0) h1, (Array.getElem?_eq_some_iff.1 h1).1, h2, h3, frozen_of_row w q 0 _ 91 h1⟩
/-- The program's voter is another one, with the same records. -/
theorem Ob.swap {w : World} {tag : Nat → Nat} {j q p' : Nat} {rs : List Rc} {S : Nat → Int → Ep} {m nn : Nat} (h : Ob 0 w tag j q rs S m nn) (hv : Vt w tag (tP j) p' rs S) : Ob 0 (w.setCell ⟨q, 0, none⟩ (.pointer (some ⟨p', 0, none⟩))) tag j q rs S m nn := by
  obtain ⟨p, y, pv, sv, xs, ks, h1, h2, h3, h4, h5, h6, h7, h8, h9, h10⟩ := h
  obtain ⟨d1, d2, d3⟩ := tD_ne j
  have O : Only (fun b => b = q) w (w.setCell ⟨q, 0, none⟩ (.pointer (some ⟨p', 0, none⟩))) := (Only.refl (fun b => b = q) w).setCell ⟨q, 0, none⟩ (.inl rfl) _
  have nq : ∀ b, b < w.heap.size → b = q → tag b = tD j := fun b _ e => by rw [e]; exact h2
  refine ⟨p', y, pv, sv, xs, ks, heap_setCell_same w q 0 _ 91 _ h1, h2, hv.only O (fun b hb e e' => d1 ((nq b hb e).symm.trans e')) (fun _ _ => rfl), h4.only O (fun b hb e => ⟨fun e' => d2 ((nq b hb e).symm.trans e'), fun e' => d3 ((nq b hb e).symm.trans e')⟩) (fun _ _ => rfl), O.owns h5 fun b hb e => own_ne_block h5 h1 (by decide) (by rw [hb, e]), h6, O.owns h7 fun b hb e => own_ne_block h7 h1 (by decide) (by rw [hb, e]), h8, h9, fun i hi => ?_⟩
  obtain ⟨l, k1, k2⟩ := h10 i hi
  exact ⟨l, k1, k2.only O (fun b hb e e' => d3 ((nq b hb e).symm.trans e')) (fun _ _ => rfl)⟩
theorem mine_small (j : Nat) : ¬ Mine j 1 ∧ ¬ Mine j 2 ∧ ¬ Mine j 0 := by
  unfold Mine tP tR tV tD
  omega

/-- A step of the script, as it is handed on. -/
def opR (kd a b c q1 q2 q3 q4 : Int) (la : Option Addr) (ln lc : Nat) (ua : Option Addr) (un uc : Nat) (s : ByteArray) (t1 t2 t3 : Int) (va : Option Addr) (vn vc : Nat) : Array Value := #[.int .i64 kd, .int .i64 a, .int .i64 b, .int .i64 c, .int .i64 q1, .int .i64 q2, .int .i64 q3, .int .i64 q4, .slice la ln lc, .slice ua un uc, .string s, .int .i64 t1, .int .i64 t2, .int .i64 t3, .slice va vn vc]

set_option maxRecDepth 100000 in
set_option maxHeartbeats 4000000 in
theorem votedAnew_any (bw j q : Nat) (kl vl : Value) (nb m nn : Nat) (rs : List Rc) (S : Nat → Int → Ep) (tag : Nat → Nat) (a b c q1 q2 q3 q4 : Int) (la : Option Addr) (ln lc : Nat) (ua : Option Addr) (un uc : Nat) (s : ByteArray) (t1 t2 t3 : Int) (va : Option Addr) (vn vc : Nat) (w : World)
    (hB : Bt w tag bw kl vl nb w.heap.size) (hO : Ob 0 w tag j q rs S m nn) (hl : (flat rs).length ≤ 30000000) (hnb : nb < 4000000) :
    Calls Tryz.prog 15 #[.pointer (some ⟨bw, 0, none⟩), .agg (opR 12 a b c q1 q2 q3 q4 la ln lc ua un uc s t1 t2 t3 va vn vc), .pointer (some ⟨q, 0, none⟩)] w fun en w' => en = .returned (.bool true) ∧
      (∃ tag', (∀ b, b < w.heap.size → tag' b = tag b) ∧ Bt w' tag' bw kl vl (nb + 1) w'.heap.size ∧ Ob 0 w' tag' j q rs S m nn) ∧ Only (fun b => tag b = 2 ∨ Mine j (tag b)) w w' := by
  obtain ⟨p, cx, lq, tq, hvt, fx⟩ := hO.x
  obtain ⟨m1, m2, m0⟩ := mine_small j
  have lbw := hB.lt.1
  have bA := (Bl.refl w).alloc (.cells (opR 12 a b c q1 q2 q3 q4 la ln lc ua un uc s t1 t2 t3 va vn vc) 44)
  have HI := hid (vt_image (hvt.bl bA) hl)
  have HB := hid hB
  have HO := hid hO
  have HbA := hid bA
  have hway := hid hvt.way
  clear hB hO hvt bA
  unfold opR at HI HbA ⊢
  go_enter Tryz.func15, Tryz.ntmps15
  go_wp2_with fail
  refine HI.out.mono ?_
  rintro en w1 ⟨cv, rfl, hb1, hcv⟩
  obtain ⟨ca, cc, rfl⟩ := owned_slice' hcv
  have B1 := HbA.out.trans hb1
  have kc1 := conv_any _ (flat rs) w1 (ownsRow_sl hcv)
  have HV := hid (vt_open hway.out ca (flat rs).length cc hl (cut_own hcv) (tagTo tag w.heap.size 1) (tP j))
  have Hcv := hid hcv
  have HB1 := hid B1
  clear HI hb1 hcv B1 HbA
  generalize hst : strOf (flat rs) = st at *
  have Hst := hid hst
  clear hst
  go_wp2_with fail
  refine HV.out.mono ?_
  rintro en w2 ⟨k, p', rfl, hk1, hk2, hk3, hp', hb2, hv2⟩
  have hk : k = rs.length := by
    apply Classical.byContradiction
    intro hne
    have hlt : k < rs.length := by omega
    have h3 := hk3 hlt
    rw [← off_succ rs k hlt, ← off_all] at h3
    have := off_mono rs (k + 1) rs.length (by omega) (Nat.le_refl _)
    omega
  subst hk
  rw [List.take_of_length_le (Nat.le_refl _)] at hv2
  have B2 := HB1.out.trans hb2
  have hcv2 := (Only.of_bl (S := fun _ => False) hb2).owns Hcv.out fun _ _ e => e
  have kc2 := conv_any _ (flat rs) w2 (ownsRow_sl hcv2)
  rw [Hst.out] at kc2
  have HI2 := hid (vt_image hv2 hl)
  have HV2 := hid hv2
  have Hb2 := hid hb2
  have HB2 := hid B2
  clear HV hb2 hv2 B2 hcv2 hk1 hk2 hk3 kc1
  go_wp2_with fail
  refine HI2.out.mono ?_
  rintro en w3 ⟨iv, rfl, hb3, hiv⟩
  obtain ⟨ia, ic, rfl⟩ := owned_slice' hiv
  have kc3 := conv_any _ (flat rs) w3 (ownsRow_sl hiv)
  rw [Hst.out] at kc3
  have B3 := HB2.out.trans hb3
  obtain ⟨tag3, ht3⟩ : ∃ tag3, tag3 = tagTo (tagTo (tagTo tag w.heap.size 1) w1.heap.size (tP j)) w2.heap.size 1 := ⟨_, rfl⟩
  have l1 := HB1.out.lt
  have l2 := Hb2.out.lt
  have l3 := hb3.lt
  have old3 : ∀ b, b < w.heap.size → tag3 b = tag b := fun b hb => by rw [ht3, tagTo_old _ _ _ _ (by omega), tagTo_old _ _ _ _ (by omega), tagTo_old _ _ _ _ hb]
  have hcv3 : w3.ownsRow w.heap.size 5 1 (.slice ca (flat rs).length cc) (flat rs).length ((flat rs).map B8) := by
    have h1 := (Only.of_bl (S := fun _ => False) (Hb2.out.trans hb3)).owns Hcv.out fun _ _ e => e
    exact ownsRow_base h1 fun b hb => by have := (h1.lt b hb).1; simp at this; omega
  have hct : ∀ b, (Value.slice ca (flat rs).length cc).ownBlock = some b → tag3 b = 1 := fun b hb => by
    have k1 := (Hcv.out.lt b hb)
    have k2 := (hcv3.lt b hb).1
    rw [ht3, tagTo_old _ _ _ _ (by omega), tagTo_old _ _ _ _ (by omega), tagTo_new _ _ _ _ k2]
  have hBt3 := HB.out.only (tag' := tag3) (Only.of_bl (S := fun _ => False) B3) (fun _ _ e => e.elim) old3 (Nat.le_refl _)
  have hOb3 := HO.out.only (tag' := tag3) (Only.of_bl (S := fun _ => False) B3) (fun _ _ e => e.elim) old3
  have hVt3 := HV2.out.only (tag' := tag3) (Only.of_bl (S := fun _ => False) hb3) (fun _ _ e => e.elim) (fun b hb => by rw [ht3, tagTo_old _ _ _ _ hb])
  have HP := hid (bt_byte hBt3 _ _ _ hcv3 hct (by omega) hnb (by omega))
  have HOb3 := hid hOb3
  have HVt3 := hid hVt3
  have Hct := hid hct
  have Hold3 := hid old3
  have HB3 := hid B3
  have Hcv3 := hid hcv3
  clear HI2 hb3 hiv hBt3 hOb3 hVt3 hct old3 B3 hcv3 ht3 HB HO HV2
  go_wp2_with fail
  refine HP.out.mono ?_
  rintro en w4 ⟨rfl, ⟨tag4, o4, n4, hBt4⟩, O4⟩
  have hOb4 := HOb3.out.only (tag' := tag4) O4 (fun b _ e => by
    rcases e with e | e
    · rw [e]; exact m2
    · rw [Hct.out b e]; exact m1) o4
  have hVt4 := HVt3.out.only (tag' := tag4) O4 (fun b _ e => by
    rcases e with e | e
    · rw [e]; unfold tP; omega
    · rw [Hct.out b e]; unfold tP; omega) o4
  obtain ⟨p4, cx4, lq4, tq4, _, fx4⟩ := hOb4.x
  have hfin := hOb4.swap hVt4
  have hB5 := (hBt4.only (tag' := tag4) ((Only.refl (fun b => b = q) w4).setCell ⟨q, 0, none⟩ (.inl rfl) (.pointer (some ⟨p', 0, none⟩))) (fun b _ e => by rw [e, tq4]; unfold tD; omega) (fun _ _ => rfl) (Nat.le_refl _)).mono (lim' := (w4.setCell ⟨q, 0, none⟩ (.pointer (some ⟨p', 0, none⟩))).heap.size) (by simp [World.setCell])
  have lw3 := HB3.out.lt
  have OF : Only (fun b => tag b = 2 ∨ Mine j (tag b)) w (w4.setCell ⟨q, 0, none⟩ (.pointer (some ⟨p', 0, none⟩))) := by
    have h1 : Only (fun b => tag b = 2 ∨ Mine j (tag b)) w w4 := by
      refine ⟨O4.os.trans HB3.out.os, O4.tape.trans HB3.out.tape, O4.output.trans HB3.out.output, Nat.le_trans lw3 O4.size, fun i hi hn => ?_⟩
      rw [O4.block i (by omega) ?_, HB3.out.heap hi]
      rintro (e | e)
      · exact hn (.inl (by rw [← Hold3.out i hi]; exact e))
      · have := (Hcv3.out.lt i e).1; omega
    exact h1.setCell ⟨q, 0, none⟩ (.inl (.inr (by show Mine j (tag q); rw [tq]; exact .inr (.inr (.inr rfl))))) _
  have HF := hid hfin
  have H5 := hid hB5
  have HOF := hid OF
  have Ho4 : Hid (∀ b, b < w.heap.size → tag4 b = tag b) := fun b hb => by rw [o4 b (by omega), Hold3.out b hb]
  clear hfin hB5 OF hOb4 hVt4 O4 o4 n4 hBt4 HP
  go_wp2
  go_ret
  exact ⟨rfl, ⟨tag4, Ho4.out, H5.out, HF.out⟩, HOF.out⟩
end Go.Proofs.YtkgjpfamjedncaaGreat
