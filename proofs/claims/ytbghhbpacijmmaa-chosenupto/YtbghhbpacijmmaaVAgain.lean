-- A record's call on a voter is done again.
import Derived.Test.YtbghhbpacijmmaaVAcc
namespace Go.Proofs.Ytbghhbpacijmmaa
open Go.RowKit Go.Maps
attribute [local go_sem ↓] Go.wp_at_zero Go.wp_at_succ

/-- The record that a call leaves, and what the voter is behind it. -/
inductive VPlays : (Int → Ep) → Rc → (Int → Ep) → Prop
  | prep (E : Int → Ep) (e b : Int) (h1 : 1 ≤ e) (h2 : 1 ≤ b) (h3 : (E e).pr < b) : VPlays E ⟨1, [e, b], []⟩ (updE E e ⟨b, (E e).ba, (E e).val⟩)
  | acc (E : Int → Ep) (e b : Int) (ys : List Int) (h1 : 1 ≤ e) (h2 : 1 ≤ b) (h3 : (E e).pr ≤ b) (hy1 : 1 ≤ ys.length) (hy : ys.length ≤ 255) (hys : ∀ d ∈ ys, 0 ≤ d ∧ d ≤ 255) (hne : b ≠ (E e).ba ∨ ys ≠ (E e).val) : VPlays E ⟨2, [e, b], ys⟩ (updE E e ⟨b, b, ys⟩)

set_option maxRecDepth 100000 in
set_option maxHeartbeats 2000000 in
theorem vagain_any (base p bm n B : Nat) (E E' : Int → Ep) (r : Rc) (img : List Int) (M : Int → Value) (vi : Value) (t : TypeId) (nv vv : Value) (w : World) (h : Vs base w p bm n E img M vi t) (hb : base ≤ w.heap.size) (hl : img.length ≤ 30000000) (hn' : n ≤ 30000000) (hE : ∀ e, (E e).val.length ≤ 255 ∧ ∀ d ∈ (E e).val, 0 ≤ d ∧ d ≤ 255) (hpl : VPlays E r E') (hwf : ∀ n ∈ r.ns, (Lit.int .i64 n).wf = true)
    (hn : w.ownsRow B 3 1 nv r.ns.length (r.ns.map (Value.int .i64))) (hv : w.ownsRow B 5 1 vv r.val.length (r.val.map B8)) (hvb : ∀ g, vv.ownBlock = some g → vi.ownBlock ≠ some g) :
    Calls Try.prog 41 #[.pointer (some ⟨p, 0, none⟩), .agg #[.int .i64 r.kd, nv, vv]] w fun en w' => ∃ M' vi', en = .returned (.tuple #[]) ∧ Vs base w' p bm (n + 1) E' (img ++ r.bytes) M' vi' t ∧ Only (fun b => b = p ∨ b = bm ∨ vi.ownBlock = some b) w w' := by
  have hp := h.lt
  obtain ⟨va, vc, ev⟩ := (ownsRow_bs hv).len
  rw [List.length_map] at ev
  have Hvv := hid (ownsRow_bs hv)
  have hvp : ∀ g, vv.ownBlock = some g → g < w.heap.size ∧ vi.ownBlock ≠ some g ∧ g ≠ bm := fun g e => ⟨(hv.lt g e).2, hvb g e, fun e' => h.mp.ne_own hv (by rw [e, e'])⟩
  have Hvp := hid hvp
  have H := hid h
  clear h hv hvb hvp
  cases hpl with
  | prep e b h1 h2 h3 =>
    simp only at hn Hvv ev
    have we := hwf e (by simp)
    have hE' := hE e
    obtain ⟨g, cap, rfl⟩ := own_shape hn (by simp)
    have lg := (hn.lt g rfl).2
    have q0 := hn.cellAt 0 (by simp)
    have q1 := hn.cellAt 1 (by simp)
    simp only [List.map_cons, List.getElem?_cons_zero, List.getElem?_cons_succ] at q0 q1
    have bA : Hid (Bl w (w.alloc (.cells #[.int .i64 1, .slice (some ⟨g, 0, none⟩) 2 cap, vv] 102))) := (Bl.refl w).alloc _
    have HS : Hid (∀ W, Bl w W → _) := fun W hW => prepareYes_any base p bm n E img M vi t e b W (H.out.bl hW) (Nat.le_trans hb hW.lt) hl hn' we hE'.1 h1 h2 h3
    subst ev
    simp only [Rc.bytes]
    clear hn hE hE'
    generalize img ++ recB 1 [e, b] [] = img' at *
    generalize updE E e ⟨b, (E e).ba, (E e).val⟩ = E' at *
    generalize (E e).ba = ba at *
    generalize (E e).val = ev at *
    go_enter Try.func41, Try.ntmps41
    go_wp2_with fail
    go_quiet (fail)
    go_wp2_with fail
    refine (HS.out _ (by exact bA.out.drewN _)).mono ?_
    rintro e1 w1 ⟨M', vi', v', rfl, hv', hk, ho⟩
    have HK := hid hk
    have HO := hid ho
    obtain ⟨sa, sc, rfl⟩ : ∃ a c, v' = .slice a ev.length c := by
      obtain ⟨a', c', e'⟩ := (ownsRow_sl hv').len
      rw [ownsRow_len hv'] at e'
      exact ⟨a', c', e'⟩
    clear hk ho hv'
    unfold voteR
    go_wp2
    go_end0
    exact ⟨M', vi', rfl, HK.out, (Only.of_bl (bA.out.drewN _)).trans HO.out.only⟩
  | acc e b ys h1 h2 h3 hy1 hy hys hne =>
    simp only at hn Hvv ev
    have we := hwf e (by simp)
    have hE' := hE e
    obtain ⟨g, cap, rfl⟩ := own_shape hn (by simp)
    have lg := (hn.lt g rfl).2
    have q0 := hn.cellAt 0 (by simp)
    have q1 := hn.cellAt 1 (by simp)
    simp only [List.map_cons, List.getElem?_cons_zero, List.getElem?_cons_succ] at q0 q1
    have bA : Hid (Bl w (w.alloc (.cells #[.int .i64 2, .slice (some ⟨g, 0, none⟩) 2 cap, vv] 102))) := (Bl.refl w).alloc _
    have HS : Hid (∀ W, Bl w W → Calls Try.prog 29 #[.pointer (some ⟨p, 0, none⟩), .int .i64 e, .int .i64 b, vv] W fun en w' => ∃ M' vi', en = .returned (voteR 1 b 0 (.slice none 0 0)) ∧ Vs base w' p bm (n + 1) (updE E e ⟨b, b, ys⟩) (img ++ recB 2 [e, b] ys) M' vi' t ∧ Gone p bm M vi M' vi' W w') := fun W hW => by
      have hvb' : ∀ g, vv.ownBlock = some g → g < W.heap.size ∧ vi.ownBlock ≠ some g ∧ g ≠ bm := fun g e => ⟨Nat.lt_of_lt_of_le (Hvp.out g e).1 hW.lt, (Hvp.out g e).2⟩
      by_cases hbb : b = (E e).ba
      · exact acceptNew2_any base p bm n E img M vi t e b vv ys W (H.out.bl hW) (Nat.le_trans hb hW.lt) hl hn' we (Hvv.out.bl hW) hy1 hy hvb' hys hE'.2 h1 h2 h3 hbb (hne.resolve_left (fun h => h hbb))
      · exact acceptNew_any base p bm n E img M vi t e b vv ys W (H.out.bl hW) (Nat.le_trans hb hW.lt) hl hn' we (Hvv.out.bl hW) hy1 hy hvb' hys hE'.2 h1 h2 h3 hbb
    subst ev
    simp only [Rc.bytes]
    clear hn hE hE' hne h3
    generalize img ++ recB 2 [e, b] ys = img' at *
    generalize updE E e ⟨b, b, ys⟩ = E' at *
    go_enter Try.func41, Try.ntmps41
    go_wp2_with fail
    go_quiet (fail)
    go_wp2_with fail
    refine (HS.out _ (by exact bA.out.drewN _)).mono ?_
    rintro e1 w1 ⟨M', vi', rfl, hk, ho⟩
    have HK := hid hk
    have HO := hid ho
    clear hk ho
    unfold voteR
    go_wp2
    go_end0
    exact ⟨M', vi', rfl, HK.out, (Only.of_bl (bA.out.drewN _)).trans HO.out.only⟩
end Go.Proofs.Ytbghhbpacijmmaa
