-- The cells of a unit as they are told; epoch and mark are laid.
import Derived.Test.YtbghhbpacijmmaaKeep
namespace Go.Proofs.Ytbghhbpacijmmaa
open Go.RowKit
attribute [local go_sem ↓] Go.wp_at_zero Go.wp_at_succ

structure Ct where
  kd : Int
  cl : Int
  ca : Int
  val : List Int

/-- The cells of a unit: settings, chain, epoch, mark, contents, image. -/
structure Ks (base : Nat) (w : World) (p : Nat) (a b c d ch ep mk : Int) (ct : Nat → Ct) (img : List Int) (K : Nat → Value) : Prop where
  at' : At w p K
  k0 : K 0 = .int .i64 a
  k1 : K 1 = .int .i64 b
  k2 : K 2 = .int .i64 c
  k3 : K 3 = .int .i64 d
  k4 : K 4 = .int .i64 ch
  k5 : K 5 = .int .i64 ep
  k6 : K 6 = .int .i64 mk
  own : w.ownsRow base 5 1 (K 71) img.length (img.map B8)
  kd : ∀ i, i < 16 → K (7 + 4 * i) = .int .i64 (ct i).kd
  cl : ∀ i, i < 16 → K (8 + 4 * i) = .int .i64 (ct i).cl
  ca : ∀ i, i < 16 → K (9 + 4 * i) = .int .i64 (ct i).ca
  val : ∀ i, i < 16 → w.ownsRow base 5 1 (K (10 + 4 * i)) (ct i).val.length ((ct i).val.map B8)
  apart : ∀ i, i < 16 → ∀ g, (K (10 + 4 * i)).ownBlock = some g → (K 71).ownBlock ≠ some g

/-- Another epoch and mark, and a record more. -/
theorem Ks.keep {base : Nat} {w W w' : World} {p : Nat} {a b c d ch ep mk ep' mk' : Int} {ct : Nat → Ct} {img rec : List Int} {K K' : Nat → Value} {v' : Value} {n : Nat} {xs : List Value} (h : Ks base w p a b c d ch ep mk ct img K) (hW : Only (fun b => b = p) w W)
    (h5 : K' 5 = .int .i64 ep') (h6 : K' 6 = .int .i64 mk') (ho : ∀ j, j ≠ 5 → j ≠ 6 → K' j = K j) (hk : Keeps base W w' p K' (K 71) v' n xs) (hn : n = img.length + rec.length) (hx : xs = img.map B8 ++ rec.map B8) :
    Ks base w' p a b c d ch ep' mk' ct (img ++ rec) (upd K' 71 v') ∧ Only (fun b => b = p ∨ (K 71).ownBlock = some b) w w' := by
  have O := (hW.mono (T := fun b => b = p ∨ (K 71).ownBlock = some b) fun b _ e => .inl e).trans hk.only
  have e0 : ∀ j, j ≠ 71 → j ≠ 5 → j ≠ 6 → upd K' 71 v' j = K j := fun j h1 h2 h3 => by rw [upd_other _ _ _ _ h1, ho j h2 h3]
  have q : ∀ i, i < 16 → upd K' 71 v' (10 + 4 * i) = K (10 + 4 * i) := fun i hi => e0 _ (by omega) (by omega) (by omega)
  refine ⟨⟨hk.at', by rw [e0 0 (by decide) (by decide) (by decide)]; exact h.k0, by rw [e0 1 (by decide) (by decide) (by decide)]; exact h.k1, by rw [e0 2 (by decide) (by decide) (by decide)]; exact h.k2, by rw [e0 3 (by decide) (by decide) (by decide)]; exact h.k3, by rw [e0 4 (by decide) (by decide) (by decide)]; exact h.k4, by rw [upd_other _ _ _ _ (by decide)]; exact h5, by rw [upd_other _ _ _ _ (by decide)]; exact h6, ?_, fun i hi => by rw [e0 _ (by omega) (by omega) (by omega)]; exact h.kd i hi, fun i hi => by rw [e0 _ (by omega) (by omega) (by omega)]; exact h.cl i hi, fun i hi => by rw [e0 _ (by omega) (by omega) (by omega)]; exact h.ca i hi, fun i hi => ?_, fun i hi g hg => ?_⟩, O⟩
  · rw [upd_same, List.length_append, List.map_append, ← hx, ← hn]; exact hk.own
  · rw [q i hi]
    refine O.owns (h.val i hi) fun g hg e => ?_
    rcases e with e | e
    · exact h.at'.ne_own (h.val i hi) (by decide) (by rw [hg, e])
    · exact h.apart i hi g hg e
  · rw [q i hi] at hg
    rw [upd_same]
    intro e
    rcases hk.lies g e with e | e
    · exact h.apart i hi g hg e
    · have := hW.size; have := ((h.val i hi).lt g hg).2; omega

set_option maxRecDepth 100000 in
set_option maxHeartbeats 1000000 in
theorem reach_any (base p : Nat) (a b c d ch ep mk : Int) (ct : Nat → Ct) (img : List Int) (K : Nat → Value) (ep' : Int) (w : World) (h : Ks base w p a b c d ch ep mk ct img K) (hb : base ≤ w.heap.size) (hl : img.length ≤ 30000000) :
    Calls Try.prog 33 #[.pointer (some ⟨p, 0, none⟩), .int .i64 ep'] w fun e w' => ∃ K', e = .returned (.tuple #[]) ∧ Ks base w' p a b c d ch ep' mk ct (img ++ if ep' = ep then [] else recB 1 [ep'] []) K' ∧ Only (fun b => b = p ∨ (K 71).ownBlock = some b) w w' ∧ (ep' = ep → K' = K ∧ Bl w w') := by
  have H := hid h
  have hp := h.at'.lt
  have c5 := h.at'.cell 5 (by decide)
  have f5 := h.at'.frozen 5
  rw [h.k5] at c5
  by_cases he : ep' = ep
  · subst he
    rw [if_pos rfl, List.append_nil]
    clear h
    go_enter Try.func33, Try.ntmps33
    go_wp2
    exact bodyPost_ret (v := .tuple #[]) (results_none rfl _ _ _) rfl ⟨K, rfl, H.out, Only.refl _ _, fun _ => ⟨rfl, Bl.refl _⟩⟩
  · rw [if_neg he]
    have Hne := hid he
    have hz : (ep' == ep) = false := by simpa using he
    clear h he
    go_enter Try.func33, Try.ntmps33
    go_wp2_with fail
    have oW : Only (fun b => b = p) w ((w.setCell ⟨p, 5, none⟩ (.int .i64 ep')).alloc (.cells #[.int .i64 ep'] 3)) := ((Only.refl (fun b => b = p) w).setCell ⟨p, 5, none⟩ (.inl rfl) (.int .i64 ep')).alloc _
    have hA := (H.out.at'.set 5 (.int .i64 ep')).bl ((Bl.refl _).alloc (.cells #[.int .i64 ep'] 3))
    have hO := oW.owns H.out.own fun g e e' => H.out.at'.ne_own H.out.own (by decide) (by rw [e, e'])
    have hN : Bs ((w.setCell ⟨p, 5, none⟩ (.int .i64 ep')).alloc (.cells #[.int .i64 ep'] 3)) (.slice (some ⟨w.heap.size, 0, none⟩) 1 1) ([ep'].map (Value.int .i64)) := by
      have := bs_new (w.setCell ⟨p, 5, none⟩ (.int .i64 ep')) 3 #[.int .i64 ep'] 1 rfl
      simpa using this
    have lW : ((w.setCell ⟨p, 5, none⟩ (.int .i64 ep')).alloc (.cells #[.int .i64 ep'] 3)).heap.size = w.heap.size + 1 := by simp
    refine (keep_any base p (upd K 5 (.int .i64 ep')) (K 71) img.length (img.map B8) 1 _ _ [ep'] [] _ hA (upd_other _ _ _ _ (by decide)) hO (by omega) hl hN (.inl ⟨rfl, rfl⟩) (by decide) (by decide) (by simp) (by simp) (fun g e e' => ?_) (fun g e e' => by simp [Value.ownBlock] at e') (fun g e => by simp [Value.ownBlock] at e; omega) (fun g e => by simp [Value.ownBlock] at e)).mono ?_
    · simp [Value.ownBlock] at e'
      have := (H.out.own.lt g e).2
      omega
    rintro e w' ⟨v', rfl, hk⟩
    have R := hid (H.out.keep (ep' := ep') (mk' := mk) oW (upd_same _ _ _) ((upd_other _ _ _ _ (by decide)).trans H.out.k6) (fun j h1 _ => upd_other _ _ _ _ h1) hk rfl rfl)
    clear oW hA hO hN lW hk
    go_wp2
    go_end0
    exact ⟨_, rfl, R.out.1, R.out.2, fun e => absurd e Hne.out⟩

set_option maxRecDepth 100000 in
set_option maxHeartbeats 1000000 in
theorem lay_any (base p : Nat) (a b c d ch ep mk : Int) (ct : Nat → Ct) (img : List Int) (K : Nat → Value) (ep' mk' : Int) (w : World) (h : Ks base w p a b c d ch ep mk ct img K) (hb : base ≤ w.heap.size) (hl : img.length ≤ 30000000) :
    Calls Try.prog 38 #[.pointer (some ⟨p, 0, none⟩), .int .i64 ep', .int .i64 mk'] w fun e w' => ∃ K', e = .returned (.tuple #[]) ∧ Ks base w' p a b c d ch ep' mk' ct (img ++ recB 2 [ep', mk'] []) K' ∧ Only (fun b => b = p ∨ (K 71).ownBlock = some b) w w' := by
  have H := hid h
  have hp := h.at'.lt
  have c5 := h.at'.cell 5 (by decide)
  have f5 := h.at'.frozen 5
  rw [h.k5] at c5
  have c6 := h.at'.cell 6 (by decide)
  have f6 := h.at'.frozen 6
  rw [h.k6] at c6
  clear h
  go_enter Try.func38, Try.ntmps38
  go_wp2_with fail
  have oW : Only (fun b => b = p) w (((w.setCell ⟨p, 5, none⟩ (.int .i64 ep')).setCell ⟨p, 6, none⟩ (.int .i64 mk')).alloc (.cells #[.int .i64 ep', .int .i64 mk'] 3)) := (((Only.refl (fun b => b = p) w).setCell ⟨p, 5, none⟩ (.inl rfl) (.int .i64 ep')).setCell ⟨p, 6, none⟩ (.inl rfl) (.int .i64 mk')).alloc _
  have hA := ((H.out.at'.set 5 (.int .i64 ep')).set 6 (.int .i64 mk')).bl ((Bl.refl _).alloc (.cells #[.int .i64 ep', .int .i64 mk'] 3))
  have hO := oW.owns H.out.own fun g e e' => H.out.at'.ne_own H.out.own (by decide) (by rw [e, e'])
  have hN : Bs (((w.setCell ⟨p, 5, none⟩ (.int .i64 ep')).setCell ⟨p, 6, none⟩ (.int .i64 mk')).alloc (.cells #[.int .i64 ep', .int .i64 mk'] 3)) (.slice (some ⟨w.heap.size, 0, none⟩) 2 2) ([ep', mk'].map (Value.int .i64)) := by
    have := bs_new ((w.setCell ⟨p, 5, none⟩ (.int .i64 ep')).setCell ⟨p, 6, none⟩ (.int .i64 mk')) 3 #[.int .i64 ep', .int .i64 mk'] 2 rfl
    simpa using this
  have lW : (((w.setCell ⟨p, 5, none⟩ (.int .i64 ep')).setCell ⟨p, 6, none⟩ (.int .i64 mk')).alloc (.cells #[.int .i64 ep', .int .i64 mk'] 3)).heap.size = w.heap.size + 1 := by simp
  refine (keep_any base p (upd (upd K 5 (.int .i64 ep')) 6 (.int .i64 mk')) (K 71) img.length (img.map B8) 2 _ _ [ep', mk'] [] _ hA ((upd_other _ _ _ _ (by decide)).trans (upd_other _ _ _ _ (by decide))) hO (by omega) hl hN (.inl ⟨rfl, rfl⟩) (by decide) (by decide) (by simp) (by simp) (fun g e e' => ?_) (fun g e e' => by simp [Value.ownBlock] at e') (fun g e => by simp [Value.ownBlock] at e; omega) (fun g e => by simp [Value.ownBlock] at e)).mono ?_
  · simp [Value.ownBlock] at e'
    have := (H.out.own.lt g e).2
    omega
  rintro e w' ⟨v', rfl, hk⟩
  have R := hid (H.out.keep (ep' := ep') (mk' := mk') oW ((upd_other _ _ _ _ (by decide)).trans (upd_same _ _ _)) (upd_same _ _ _) (fun j h1 h2 => (upd_other _ _ _ _ h2).trans (upd_other _ _ _ _ h1)) hk rfl rfl)
  clear oW hA hO hN lW hk
  go_wp2
  go_end0
  exact ⟨_, rfl, R.out.1, R.out.2⟩
end Go.Proofs.Ytbghhbpacijmmaa
