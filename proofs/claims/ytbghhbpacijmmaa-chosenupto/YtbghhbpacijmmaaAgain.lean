-- A record's call is done again.
import Derived.Test.YtbghhbpacijmmaaWrite
import Derived.Deep.RegionHeld3
namespace Go.Proofs.Ytbghhbpacijmmaa
open Go.RowKit
attribute [local go_sem ↓] Go.wp_at_zero Go.wp_at_succ

/-- What cells hold besides their settings and their image. -/
structure St where
  ep : Int
  mark : Int
  ct : Nat → Ct

/-- The record that a call leaves, and what the cells are behind it. -/
inductive Plays (a b c d ch : Int) : St → Rc → St → Prop
  | sealed (s : St) (e : Int) (h : s.ep < e) : Plays a b c d ch s ⟨1, [e], []⟩ ⟨e, s.mark, s.ct⟩
  | trim (s : St) (e m : Int) (h : ¬ e < s.ep) (hm : s.mark < m) : Plays a b c d ch s ⟨2, [e, m], []⟩ ⟨e, m, s.ct⟩
  | write (s : St) (e x kd cl ca : Int) (ys : List Int) (i : Nat) (h : ¬ e < s.ep) (hi : i < 16) (hloc : loc a b c d x = (ch, (i : Int), 0)) (hlook : lookC a b c d ch s.mark s.ct x = (3, 0, ⟨0, 0, 0, []⟩)) (hc : isC kd ys.length = true) : Plays a b c d ch s ⟨3, [e, x, kd, cl, ca], ys⟩ ⟨e, s.mark, fun j => if j = i then ⟨kd, cl, ca, ys⟩ else s.ct j⟩

theorem isC_len {kd : Int} {n : Nat} (h : isC kd n = true) : n ≤ 8 := by
  unfold isC at h
  split at h
  · simp at h; omega
  · split at h
    · simp at h; omega
    · simp at h

set_option maxRecDepth 100000 in
set_option maxHeartbeats 2000000 in
theorem again_any (base p B : Nat) (a b c d ch : Int) (s s' : St) (r : Rc) (img : List Int) (K : Nat → Value) (nv vv : Value) (w : World) (h : Ks base w p a b c d ch s.ep s.mark s.ct img K) (hb : base ≤ w.heap.size) (hl : img.length ≤ 30000000) (hct : ∀ i, i < 16 → (s.ct i).val.length ≤ 255) (hpl : Plays a b c d ch s r s')
    (hn : w.ownsRow B 3 1 nv r.ns.length (r.ns.map (Value.int .i64))) (hv : w.ownsRow B 5 1 vv r.val.length (r.val.map B8)) (hvb : ∀ g, vv.ownBlock = some g → (K 71).ownBlock ≠ some g) :
    Calls Try.prog 50 #[.pointer (some ⟨p, 0, none⟩), .agg #[.int .i64 r.kd, nv, vv]] w fun e w' => ∃ K', e = .returned (.tuple #[]) ∧ Ks base w' p a b c d ch s'.ep s'.mark s'.ct (img ++ r.bytes) K' ∧ Only (fun b => b = p ∨ (K 71).ownBlock = some b) w w' := by
  have hp := h.at'.lt
  obtain ⟨va, vc, ev⟩ := (ownsRow_bs hv).len
  rw [List.length_map] at ev
  have Hvv := hid (ownsRow_bs hv)
  have hvp : ∀ g, vv.ownBlock = some g → g < w.heap.size ∧ (K 71).ownBlock ≠ some g ∧ g ≠ p := fun g e => ⟨(hv.lt g e).2, hvb g e, fun e' => h.at'.ne_own hv (by decide) (by rw [e, e'])⟩
  have Hvp := hid hvp
  have H := hid h
  clear h hv hvb hvp
  cases hpl with
  | sealed e he =>
    simp only at hn Hvv ev
    obtain ⟨g, cap, rfl⟩ := own_shape hn (by simp)
    have lg := (hn.lt g rfl).2
    have q0 := hn.cellAt 0 (by simp)
    simp only [List.map_cons, List.getElem?_cons_zero] at q0
    have bA : Hid (Bl w (w.alloc (.cells #[.int .i64 1, .slice (some ⟨g, 0, none⟩) 1 cap, vv] 102))) := (Bl.refl w).alloc _
    have HS := hid (seal_any base p a b c d ch s.ep s.mark s.ct img K e _ (H.out.bl bA.out) (Nat.le_trans hb bA.out.lt) hl)
    rw [if_neg (by omega), if_neg (by omega), if_neg (by omega)] at HS
    subst ev
    simp only [Rc.bytes]
    clear hn
    generalize img ++ recB 1 [e] [] = img' at *
    go_enter Try.func50, Try.ntmps50
    go_wp2_with fail
    refine HS.out.mono ?_
    rintro e1 w1 ⟨K', rfl, hk, ho⟩
    have HK := hid hk
    have HO := hid ho
    clear hk ho
    unfold reply
    go_wp2
    go_end0
    exact ⟨K', rfl, HK.out, (Only.of_bl bA.out).trans HO.out⟩
  | trim e m he hm =>
    simp only at hn Hvv ev
    obtain ⟨g, cap, rfl⟩ := own_shape hn (by simp)
    have lg := (hn.lt g rfl).2
    have q0 := hn.cellAt 0 (by simp)
    simp only [List.map_cons, List.getElem?_cons_zero] at q0
    have q1 := hn.cellAt 1 (by simp)
    simp only [List.map_cons, List.getElem?_cons_zero, List.getElem?_cons_succ] at q1
    have bA : Hid (Bl w (w.alloc (.cells #[.int .i64 2, .slice (some ⟨g, 0, none⟩) 2 cap, vv] 102))) := (Bl.refl w).alloc _
    have HS : Hid (∀ W, Bl w W → _) := fun W hW => trimNew_any base p a b c d ch s.ep s.mark s.ct img K e m W (H.out.bl hW) (Nat.le_trans hb hW.lt) hl he
    rw [if_pos hm, if_pos hm] at HS
    subst ev
    simp only [Rc.bytes]
    clear hn
    generalize img ++ recB 2 [e, m] [] = img' at *
    go_enter Try.func50, Try.ntmps50
    go_wp2_with fail
    go_region_with (go_at_call 26; refine (HS.out _ (by exact bA.out.drewN _)).mono ?_; rintro e1 w1 ⟨K', rfl, hk, ho⟩; have HK := hid hk; have HO := hid ho; clear hk ho; unfold reply)
    all_goals
      go_end0
      exact ⟨K', rfl, HK.out, (Only.of_bl (bA.out.drewN 1)).trans HO.out⟩
  | write e x kd cl ca ys i he hi hloc hlook hc =>
    simp only at hn Hvv ev
    obtain ⟨g, cap, rfl⟩ := own_shape hn (by simp)
    have lg := (hn.lt g rfl).2
    have q0 := hn.cellAt 0 (by simp)
    have q1 := hn.cellAt 1 (by simp)
    have q2 := hn.cellAt 2 (by simp)
    have q3 := hn.cellAt 3 (by simp)
    have q4 := hn.cellAt 4 (by simp)
    simp only [List.map_cons, List.getElem?_cons_zero, List.getElem?_cons_succ] at q0 q1 q2 q3 q4
    have bA : Hid (Bl w (w.alloc (.cells #[.int .i64 3, .slice (some ⟨g, 0, none⟩) 5 cap, vv] 102))) := (Bl.refl w).alloc _
    have hS1 : Hid (¬ (g = p ∨ (K 71).ownBlock = some g)) := by
      rintro (e' | e')
      · exact H.out.at'.ne_own hn (by decide) (by rw [← e']; rfl)
      · exact ownsRow_type hn H.out.own (by decide) g rfl e'
    have hS2 : Hid (¬ (w.heap.size = p ∨ (K 71).ownBlock = some w.heap.size)) := by
      rintro (e' | e')
      · omega
      · have := (H.out.own.lt _ e').2; omega
    have lA : g < (w.alloc (.cells #[.int .i64 3, .slice (some ⟨g, 0, none⟩) 5 cap, vv] 102)).heap.size := Nat.lt_of_lt_of_le lg bA.out.lt
    have lB : w.heap.size < (w.alloc (.cells #[.int .i64 3, .slice (some ⟨g, 0, none⟩) 5 cap, vv] 102)).heap.size := by simp
    have b2 : (w.alloc (.cells #[.int .i64 3, .slice (some ⟨g, 0, none⟩) 5 cap, vv] 102)).cell? ⟨w.heap.size, 2, none⟩ = some vv := by rw [cell_of_row _ _ 2 _ 102 (0, 0) (heap_alloc_new w _)]; rfl
    have HS : Hid (∀ W, Bl w W → _) := fun W hW => writeEmpty_any base p a b c d ch s.ep s.mark s.ct img K e x kd cl ca vv ys i W (H.out.bl hW) (Nat.le_trans hb hW.lt) hl hct (Hvv.out.bl hW) (by have := isC_len hc; omega) (fun g e => ⟨Nat.lt_of_lt_of_le (Hvp.out g e).1 hW.lt, (Hvp.out g e).2⟩) he hi hloc hlook hc
    subst ev
    simp only [Rc.bytes]
    clear hn
    generalize img ++ recB 3 [e, x, kd, cl, ca] ys = img' at *
    generalize (fun j => if j = i then (⟨kd, cl, ca, ys⟩ : Ct) else s.ct j) = ct' at *
    go_enter Try.func50, Try.ntmps50
    go_wp2_with fail
    go_region_held3 (fun W => W.cell? ⟨g, 0, none⟩ = some (.int .i64 e) ∧ W.cell? ⟨g, 1, none⟩ = some (.int .i64 x) ∧ W.cell? ⟨g, 2, none⟩ = some (.int .i64 kd) ∧ W.cell? ⟨g, 3, none⟩ = some (.int .i64 cl) ∧ W.cell? ⟨g, 4, none⟩ = some (.int .i64 ca) ∧ W.cell? ⟨w.heap.size, 2, none⟩ = some (.slice va ys.length vc)) (go_keep)
      (first | (go_at_call 23; refine (HS.out _ (by exact bA.out.drewN _)).mono ?_; rintro e1 w1 ⟨K', rfl, hk, ho⟩; have z0 := (ho.cell (o := 0) (by exact lA) hS1.out).trans (((bA.out.drew).cell lg).trans q0); have z1 := (ho.cell (o := 1) (by exact lA) hS1.out).trans (((bA.out.drew).cell lg).trans q1); have z2 := (ho.cell (o := 2) (by exact lA) hS1.out).trans (((bA.out.drew).cell lg).trans q2); have z3 := (ho.cell (o := 3) (by exact lA) hS1.out).trans (((bA.out.drew).cell lg).trans q3); have z4 := (ho.cell (o := 4) (by exact lA) hS1.out).trans (((bA.out.drew).cell lg).trans q4); have z5 := (ho.cell (o := 2) (by exact lB) hS2.out).trans b2; have HK := hid hk; have HO := hid ho; clear hk ho; unfold reply))
    all_goals
      go_end0
      exact ⟨K', rfl, HK.out, (Only.of_bl (bA.out.drewN 1)).trans HO.out⟩
end Go.Proofs.Ytbghhbpacijmmaa
