-- A voter is made, and stands in the list.
import Derived.Test.YtkgjpfamjedncaaGreatHalfC
namespace Go.Proofs.YtkgjpfamjedncaaGreat
open Go.RowKit Go.Maps
attribute [local go_sem ↓] Go.wp_at_zero Go.wp_at_succ

theorem Tryz.info51 : (Tryz.prog.info? 51).map (fun i => (i.zero, i.size, i.bytes)) = some (some (.pointer none), 1, 8) := by kernel_rfl
def S0 : Nat → Int → Ep := fun _ _ => nop
theorem vway_nil : VWay [] S0 := ⟨rfl, fun j h => by simp at h, fun r h => by simp at h⟩
/-- The list of voters is another one. -/
theorem Bt.setVl {w w' : World} {tag tag' : Nat → Nat} {bw : Nat} {kl vl vl' : Value} {nb lim : Nat} (h : Bt w tag bw kl vl nb lim) (ho : Only (fun b => b = bw ∨ tag b = 6) w w') (hb : w'.heap[bw]? = (w.setCell ⟨bw, 1, none⟩ vl').heap[bw]?) (ht : ∀ b, b < w.heap.size → tag' b = tag b) (hl : lim ≤ w.heap.size) : Bt w' tag' bw kl vl' nb lim := by
  obtain ⟨bl, xb, h1, h2, h3, h4⟩ := h
  have lb := h1.lt
  have nb1 : ∀ b, bl.ownBlock = some b → ¬ (b = bw ∨ tag b = 6) := fun b hb' e => by
    rcases e with e | e
    · exact own_ne_block h1.ob h1.blk (by decide) (by rw [hb', e])
    · have := h3 b hb'; omega
  have nb2 : ∀ u ∈ xb, ∀ b, u.ownBlock = some b → ¬ (b = bw ∨ tag b = 6) := fun u hu b hb' e => by
    have := (h4 u hu b hb').1
    rcases e with e | e
    · rw [e] at this; omega
    · omega
  refine ⟨bl, xb, ⟨h1.b0, ?_, ho.owns h1.ob nb1, fun k hk => (h1.eb k hk).only ho nb2⟩, by rw [ht bw lb]; exact h2, fun b hb => by rw [ht b (h1.ob.lt b hb).2]; exact h3 b hb, fun u hu b hb => ?_⟩
  · rw [hb]; exact heap_setCell_same w bw 1 _ 35 vl' h1.blk
  · obtain ⟨k1, k2⟩ := h4 u hu b hb
    exact ⟨by rw [ht b (by omega)]; exact k1, k2⟩
theorem Bt.c1 {w : World} {tag : Nat → Nat} {bw : Nat} {kl vl : Value} {nb lim : Nat} (h : Bt w tag bw kl vl nb lim) : w.cell? ⟨bw, 1, none⟩ = some vl ∧ w.frozen? ⟨bw, 1, none⟩ = false ∧ bw < w.heap.size := by
  obtain ⟨bl, xb, h1, _⟩ := h
  exact ⟨cell_of_row w bw 1 _ 35 (0, 0) h1.blk, frozen_of_row w bw 1 _ 35 h1.blk, h1.lt⟩

theorem rl_nil (F : Nat → Sq) (k : Nat) : Rl 0 F (S0 k) := by
  exact ⟨fun i hi => by omega, fun i j hi => by omega, fun i hi => by omega, fun e _ _ => rfl⟩
/-- A new voter is kept for the first time. -/
theorem keptFirst {w2 w3 : World} {tag : Nat → Nat} {j p : Nat} (hv : Vt w3 (tagTo tag w2.heap.size (tP j)) (tP j) p [] S0) (hp : w2.heap.size ≤ p) :
    Calls Tryz.prog 34 #[.pointer (some ⟨w3.heap.size + 1, 0, none⟩)] ((w3.alloc (.cells #[.slice none 0 0] 88)).alloc (.cells #[.pointer (some ⟨p, 0, none⟩), .pointer (some ⟨w3.heap.size, 0, none⟩), .slice none 0 0, .slice none 0 0] 91)) fun en w' => en = .returned (.tuple #[]) ∧ Bl w3 w' ∧ ∃ tag', (∀ b, b < w2.heap.size → tag' b = tag b) ∧ Ob 0 w' tag' j (w3.heap.size + 1) [] S0 1 0 := by
  have hx := hv
  obtain ⟨bm, M, vi, hV, hw, t1, t2, t3⟩ := hv
  have bA : Bl w3 ((w3.alloc (.cells #[.slice none 0 0] 88)).alloc (.cells #[.pointer (some ⟨p, 0, none⟩), .pointer (some ⟨w3.heap.size, 0, none⟩), .slice none 0 0, .slice none 0 0] 91)) := ((Bl.refl w3).alloc _).alloc _
  have hY := heap_first w3 (.cells #[.slice none 0 0] 88) (.cells #[.pointer (some ⟨p, 0, none⟩), .pointer (some ⟨w3.heap.size, 0, none⟩), .slice none 0 0, .slice none 0 0] 91)
  have hQ : ((w3.alloc (.cells #[.slice none 0 0] 88)).alloc (.cells #[.pointer (some ⟨p, 0, none⟩), .pointer (some ⟨w3.heap.size, 0, none⟩), .slice none 0 0, .slice none 0 0] 91)).heap[w3.heap.size + 1]? = some (.cells #[.pointer (some ⟨p, 0, none⟩), .pointer (some ⟨w3.heap.size, 0, none⟩), .slice none 0 0, .slice none 0 0] 91 (0, 0)) := by
    have := heap_alloc_new (w3.alloc (.cells #[.slice none 0 0] 88)) (.cells #[.pointer (some ⟨p, 0, none⟩), .pointer (some ⟨w3.heap.size, 0, none⟩), .slice none 0 0, .slice none 0 0] 91)
    have e : (w3.alloc (.cells #[.slice none 0 0] 88)).heap.size = w3.heap.size + 1 := by simp
    rwa [e] at this
  have hsz : ((w3.alloc (.cells #[.slice none 0 0] 88)).alloc (.cells #[.pointer (some ⟨p, 0, none⟩), .pointer (some ⟨w3.heap.size, 0, none⟩), .slice none 0 0, .slice none 0 0] 91)).heap.size = w3.heap.size + 2 := by simp
  generalize ((w3.alloc (.cells #[.slice none 0 0] 88)).alloc (.cells #[.pointer (some ⟨p, 0, none⟩), .pointer (some ⟨w3.heap.size, 0, none⟩), .slice none 0 0, .slice none 0 0] 91)) = W4 at *
  have hF : Nat → Sq := fun _ => ⟨0, nop, .slice none 0 0⟩
  have hR : Rw 0 W4 w3.heap.size (.slice none 0 0) 0 hF := ⟨hY, World.ownsRow_nil _ _ _ _, fun i hi => by omega⟩
  have lp := hV.lt
  have lbm := hV.mp.lt
  have hK : ∀ b, Kfoot (w3.heap.size + 1) (.slice none 0 0) (.slice none 0 0) b → b = w3.heap.size + 1 := by
    rintro b (e | e | e)
    · exact e
    · simp [Value.ownBlock] at e
    · simp [Value.ownBlock] at e
  refine (kept_any 0 (w3.heap.size + 1) p w3.heap.size (.slice none 0 0) (.slice none 0 0) (.slice none 0 0) 0 0 [] [] hF bm 0 (S0 0) [] M vi W4 hQ hR (hV.bl bA) (World.ownsRow_nil _ _ _ _) (World.ownsRow_nil _ _ _ _) (Nat.zero_le _) (by omega) (by omega) (by simp) (fun b hb => by
    have := hK b hb
    refine ⟨by omega, by omega, fun hF' => ?_⟩
    have := (hV.foot_lt hF').2
    omega)).mono ?_
  rintro en w5 ⟨pv, sv, lc, rfl, r1, r2, r3, r4, r5, r6, r7⟩
  have O : Only (fun b => b = w3.heap.size + 1) W4 w5 := r5.mono fun b _ e => hK b e
  have hB : Bl w3 w5 := bA.trans_only O fun n e => by omega
  have l5 := r5.size
  obtain ⟨tag', htt⟩ : ∃ tag', tag' = fun b => if b < w3.heap.size then tagTo tag w2.heap.size (tP j) b else if b = w3.heap.size then tR j else if lc.ownBlock = some b then tV j else tD j := ⟨_, rfl⟩
  have old : ∀ b, b < w3.heap.size → tag' b = tagTo tag w2.heap.size (tP j) b := fun b hb => by rw [htt]; simp [hb]
  have new : ∀ b, w3.heap.size < b → lc.ownBlock ≠ some b → tag' b = tD j := fun b hb hn => by rw [htt]; simp only; rw [if_neg (by omega), if_neg (by omega), if_neg hn]
  have hY5 : w5.heap[w3.heap.size]? = some (.cells #[.slice none 0 0] 88 (0, 0)) := (O.block _ (by omega) (by omega)).trans hY
  have hpn : ∀ b, pv.ownBlock = some b → w3.heap.size < b := fun b hb => by
    rcases r6 b hb with e | e
    · simp [Value.ownBlock] at e
    · omega
  have hsn : ∀ b, sv.ownBlock = some b → w3.heap.size < b := fun b hb => by
    rcases r7 b hb with e | e
    · simp [Value.ownBlock] at e
    · omega
  refine ⟨rfl, hB, tag', fun b hb => by rw [old b (by omega), tagTo_old _ _ _ _ hb], p, w3.heap.size, pv, sv, [lc], fun _ => 0, r1, ?_, hx.only (Only.of_bl (S := fun _ => False) hB) (fun _ _ e => e.elim) old, ⟨_, 0, hF, Nat.le_refl _, ⟨hY5, World.ownsRow_nil _ _ _ _, fun i hi => by omega⟩, ?_, ?_, fun b hb => by simp [Value.ownBlock] at hb, fun i hi => by omega⟩, by simpa using r2, fun b hb => ?_, ?_, fun b hb => ?_, ⟨by omega, rfl, fun i hi => by omega, rfl⟩, fun i hi => ?_⟩
  · refine new _ (by omega) fun e => ?_
    exact own_ne_block r4 r1 (by decide) e
  · exact rl_nil hF _
  · rw [htt]; simp
  · exact new b (hpn b hb) fun e => ownsRow_type r2 r4 (by decide) b hb e
  · simpa [off, flat] using r3
  · exact new b (hsn b hb) fun e => ownsRow_type r3 r4 (by decide) b hb e
  · obtain rfl : i = 0 := by omega
    refine ⟨lc, rfl, 0, hF, by omega, ownsRow_base r4 fun _ _ => Nat.zero_le _, ?_, fun b hb => ?_, fun i hi => by omega⟩
    · exact rl_nil hF _
    · have h4 := (r4.lt b hb).1
      rw [htt]; simp only; rw [if_neg (by omega), if_neg (by omega), if_pos hb]

set_option maxRecDepth 100000 in
set_option maxHeartbeats 4000000 in
theorem freeVoter_any (bw nv : Nat) (kl vl : Value) (nb : Nat) (us : List Value) (tag : Nat → Nat) (a b c q1 q2 q3 q4 : Int) (la : Option Addr) (ln lc : Nat) (ua : Option Addr) (un uc : Nat) (s : ByteArray) (t1 t2 t3 : Int) (va : Option Addr) (vn vc : Nat) (w : World)
    (hB : Bt w tag bw kl vl nb w.heap.size) (hu : w.ownsRow 0 51 1 vl nv us) (ht : ∀ b, vl.ownBlock = some b → tag b = 6) (hnv : nv < 4000000) :
    Calls Tryz.prog 10 #[.pointer (some ⟨bw, 0, none⟩), .agg (opR 9 a b c q1 q2 q3 q4 la ln lc ua un uc s t1 t2 t3 va vn vc)] w fun en w' => en = .returned (.bool true) ∧
      (∃ vl' q tag', (∀ b, b < w.heap.size → tag' b = tag b) ∧ Bt w' tag' bw kl vl' nb w'.heap.size ∧ w'.ownsRow 0 51 1 vl' (nv + 1) (us ++ [.pointer (some ⟨q, 0, none⟩)]) ∧ (∀ b, vl'.ownBlock = some b → tag' b = 6) ∧ Ob 0 w' tag' nv q [] S0 1 0) ∧ Only (fun b => tag b = 2 ∨ tag b = 6) w w' := by
  have bA := (Bl.refl w).alloc (.cells (opR 9 a b c q1 q2 q3 q4 la ln lc ua un uc s t1 t2 t3 va vn vc) 44)
  have HL : Hid (∀ bb, _) := fun bb => lent_any [] bb (w.alloc (.cells (opR 9 a b c q1 q2 q3 q4 la ln lc ua un uc s t1 t2 t3 va vn vc) 44)) (by intro d hd; simp at hd) (by simp)
  have hse : strOf [] = ({ data := #[] } : ByteArray) := rfl
  rw [hse] at HL
  have HbA := hid bA
  have HB := hid hB
  have Hu := hid hu
  have Ht := hid ht
  obtain ⟨c1, f1, lbw⟩ := hB.c1
  clear hB hu ht bA hse
  unfold opR at HL HbA ⊢
  go_enter Tryz.func10, Tryz.ntmps10
  go_wp2_with fail
  refine (HL.out _).mono ?_
  rintro en w2 ⟨r, rfl, hb2, hL2⟩
  obtain ⟨ra, rc, rfl⟩ : ∃ a c, r = .slice a 0 c := by
    obtain ⟨a, c, e⟩ := (ownsRow_sl hL2.own).len
    exact ⟨a, c, by simpa using e⟩
  have B2 := HbA.out.trans hb2
  have HOp := hid (vt_open vway_nil ra 0 rc (by simp [flat]) (cut_own hL2.own) tag (tP nv))
  have HB2 := hid B2
  clear HL hb2 hL2 B2 HbA
  go_wp2_with fail
  refine HOp.out.mono ?_
  rintro en w3 ⟨k, p, rfl, hk1, _, _, hp, hb3, hv3⟩
  rw [List.take_nil] at hv3
  have HK := hid (keptFirst hv3 hp)
  have HB3 := hid (HB2.out.trans hb3)
  clear HOp hv3 hb3 hk1 hp
  go_wp2_with fail
  refine HK.out.mono ?_
  rintro en w5 ⟨rfl, hb5, tag5, ht5, hO5⟩
  obtain ⟨i51, j51, z0, z1, z2⟩ := info_parts Tryz.info51
  have hB5 := HB3.out.trans hb5
  have hU5 := (Only.of_bl (S := fun _ => False) hB5).owns Hu.out fun _ _ e => e
  obtain ⟨ba, bc, hvl⟩ := (ownsRow_sl hU5).len
  rw [ownsRow_len hU5] at hvl
  have lw2 := HB2.out.lt
  have hBt5 := HB.out.only (tag' := tag5) (Only.of_bl (S := fun _ => False) hB5) (fun _ _ e => e.elim) (fun b hb => ht5 b (by omega)) (Nat.le_refl _)
  obtain ⟨c15, f15, lb5⟩ := hBt5.c1
  have np : Hid (vl.ownBlock ≠ some bw) := fun e => by
    have h1 := HB.out.lt.2
    have h2 := Ht.out bw e
    omega
  subst hvl
  have HU5 := hid hU5
  have HBt5 := hid hBt5
  have HO5 := hid hO5
  have HB5 := hid hB5
  have Ht5 := hid ht5
  have hmx : Hid (nv + 1 ≤ maxLen) := by unfold Hid maxLen; omega
  have hby : Hid ((nv + 1) * 8 ≤ 140737488355328) := by unfold Hid; omega
  clear HK hb5 ht5 hO5 hB5 hU5 hBt5 c1 f1
  generalize hqq : w3.heap.size + 1 = q at *
  clear hqq
  go_wp2_with (at_builtin; refine wpList_append_lies _ rfl _ _ 28 rfl 0 51 i51 _ 1 8 Tryz.underlying28 j51 z0 z1 z2 rfl (by decide) _ nv _ rfl (HU5.out.alloc _) ⟨w5.heap.size, 0, none⟩ 1 1 [.pointer (some ⟨q, 0, none⟩)] rfl rfl (cell_one_new _ _ _) (by simp [Value.oneCell']) (by decide) hmx.out hby.out (by simp) (w5.heap.size + 1) (by simp) ?_)
  intro gp capp w6 hown6 hgrow6 hat6 hlt6
  have kq := (far ((Bl.refl w5).alloc _) hgrow6 (o := 1) lb5 np.out).1.trans c15
  have kf := (far ((Bl.refl w5).alloc _) hgrow6 (o := 1) lb5 np.out).2.trans f15
  have lb6 : bw < w6.heap.size := by have := hgrow6.size; simp at this; omega
  have h6 : w6.heap[bw]? = w5.heap[bw]? := by
    rw [hgrow6.block bw (by simp; omega) (fun e => np.out e.symm)]
    exact ((Bl.refl w5).alloc _).heap lb5
  have O7 : Only (fun b => b = bw ∨ (Value.slice ba nv bc).ownBlock = some b) w5 (w6.setCell ⟨bw, 1, none⟩ (.slice (some ⟨gp, 0, none⟩) (nv + 1) capp)) := ((Only.of_bl ((Bl.refl w5).alloc _)).trans ((Only.of_grown hgrow6).mono fun k _ e => .inr e.symm)).setCell ⟨bw, 1, none⟩ (.inl (.inl rfl)) _
  have h7 : (w6.setCell ⟨bw, 1, none⟩ (.slice (some ⟨gp, 0, none⟩) (nv + 1) capp)).heap[bw]? = (w5.setCell ⟨bw, 1, none⟩ (.slice (some ⟨gp, 0, none⟩) (nv + 1) capp)).heap[bw]? := by simp [World.setCell, Array.getElem?_modify, h6]
  obtain ⟨tag7, htt⟩ : ∃ tag7, tag7 = tagTo tag5 w5.heap.size 6 := ⟨_, rfl⟩
  have old7 : ∀ b, b < w5.heap.size → tag7 b = tag5 b := fun b hb => by rw [htt]; exact tagTo_old _ _ _ _ hb
  have l5 := HB5.out.lt
  have hv6 : ∀ b, (Value.slice ba nv bc).ownBlock = some b → tag5 b = 6 := fun b hb => by rw [Ht5.out b (by have := (Hu.out.lt b hb).2; omega)]; exact Ht.out b hb
  have hb2 : tag5 bw = 2 := HBt5.out.lt.2
  have hBt7 := HBt5.out.setVl (tag' := tag7) (O7.mono fun b _ e => e.imp id (hv6 b)) h7 old7 l5
  have hT : ∀ b, (b = bw ∨ (Value.slice ba nv bc).ownBlock = some b) → tag5 b = 2 ∨ tag5 b = 6 := fun b e => by
    rcases e with e | e
    · rw [e]; exact .inl hb2
    · exact .inr (hv6 b e)
  have hO7 := HO5.out.only (tag' := tag7) O7 (fun b _ e => by
    rcases hT b e with e | e <;> rw [e]
    · exact (mine_small nv).2.1
    · unfold Mine tP tR tV tD; omega) old7
  have hs7 := O7.size
  have hrow7 : (w6.setCell ⟨bw, 1, none⟩ (.slice (some ⟨gp, 0, none⟩) (nv + 1) capp)).ownsRow 0 51 1 (.slice (some ⟨gp, 0, none⟩) (nv + 1) capp) (nv + 1) (us ++ [.pointer (some ⟨q, 0, none⟩)]) := by
    obtain ⟨bl, xb, hbk, _⟩ := HBt5.out
    exact ownsRow_of hown6 fun b hb' => Below.heap_setCell _ _ _ _ (fun e => own_ne_block hown6 (h6.trans hbk.blk) (by decide) (by rw [hb', e]))
  have hOut : Only (fun b => tag b = 2 ∨ tag b = 6) w (w6.setCell ⟨bw, 1, none⟩ (.slice (some ⟨gp, 0, none⟩) (nv + 1) capp)) := by
    refine ⟨O7.os.trans HB5.out.os, O7.tape.trans HB5.out.tape, O7.output.trans HB5.out.output, by omega, fun i hi hn => ?_⟩
    rw [O7.block i (by omega) fun e => hn (by rw [← Ht5.out i (by omega)]; exact hT i e), HB5.out.heap hi]
  have HFin := hid (And.intro (fun b (hb : b < w.heap.size) => (show tag7 b = tag b by rw [old7 b (by omega), Ht5.out b (by omega)])) (And.intro (hBt7.mono (lim' := (w6.setCell ⟨bw, 1, none⟩ (.slice (some ⟨gp, 0, none⟩) (nv + 1) capp)).heap.size) (by omega)) (And.intro hrow7 (And.intro (fun b (hb : (Value.slice (some ⟨gp, 0, none⟩) (nv + 1) capp).ownBlock = some b) => (show tag7 b = 6 by
    rcases hat6 with e | e
    · have hb' : gp = b := by simpa [Value.ownBlock] using hb
      rw [← hb', old7 gp (HU5.out.lt gp e).2]; exact hv6 gp e
    · have hb' : gp = b := by simpa [Value.ownBlock] using hb
      rw [← hb', htt]; exact tagTo_new _ _ _ _ (by omega))) (And.intro hO7 hOut)))))
  clear O7 h7 hBt7 hO7 hrow7 hOut hT hv6 hgrow6 hown6 old7
  go_wp2
  go_ret
  obtain ⟨e1, e2, e3, e4, e5, e6⟩ := HFin.out
  exact ⟨rfl, ⟨_, q, tag7, e1, e2, e3, e4, e5⟩, e6⟩
end Go.Proofs.YtkgjpfamjedncaaGreat
