-- A record's call on a voter is done again.
-- A voter's image is opened: each record's call is done again.
-- Cells are opened from an image.
-- OpenCells.
import Derived.Test.YtkgjpfamjedncaaGreatVPrepVEqVAccQ
import Derived.Test.YtkgjpfamjedncaaGreatImgOpenVMapVoteVPutQ
namespace Go.Proofs.YtkgjpfamjedncaaGreat
open Go.RowKit Go.Maps
attribute [local go_sem ↓] Go.wp_at_zero Go.wp_at_succ

/-- The record that a call leaves, and what the voter is behind it. -/
inductive VPlays : (Int → Ep) → Rc → (Int → Ep) → Prop
  | prep (E : Int → Ep) (e b : Int) (h1 : 1 ≤ e) (h2 : 1 ≤ b) (h3 : (E e).pr < b) : VPlays E ⟨1, [e, b], []⟩ (updE E e ⟨b, (E e).ba, (E e).val⟩)
  | acc (E : Int → Ep) (e b : Int) (ys : List Int) (h1 : 1 ≤ e) (h2 : 1 ≤ b) (h3 : (E e).pr ≤ b) (hy1 : 1 ≤ ys.length) (hy : ys.length ≤ 255) (hys : ∀ d ∈ ys, 0 ≤ d ∧ d ≤ 255) (hne : b ≠ (E e).ba ∨ ys ≠ (E e).val) : VPlays E ⟨2, [e, b], ys⟩ (updE E e ⟨b, b, ys⟩)

set_option maxRecDepth 100000 in
set_option maxHeartbeats 2000000 in
theorem vagain_any (base p bm n B : Nat) (E E' : Int → Ep) (r : Rc) (img : List Int) (M : Int → Value) (vi : Value) (t : TypeId) (nv vv : Value) (w : World) (h : Vs base w p bm n E img M vi t) (hb : base ≤ w.heap.size) (hl : img.length ≤ 30000000) (hn' : n ≤ 30000000) (hE : ∀ e, (E e).val.length ≤ 255 ∧ ∀ d ∈ (E e).val, 0 ≤ d ∧ d ≤ 255) (hpl : VPlays E r E') (hwf : ∀ n ∈ r.ns, (Lit.int .i64 n).wf = true)
    (hn : w.ownsRow B 3 1 nv r.ns.length (r.ns.map (Value.int .i64))) (hv : w.ownsRow B 5 1 vv r.val.length (r.val.map B8)) (hvb : ∀ g, vv.ownBlock = some g → vi.ownBlock ≠ some g) :
    Calls Tryz.prog 93 #[.pointer (some ⟨p, 0, none⟩), .agg #[.int .i64 r.kd, nv, vv]] w fun en w' => ∃ M' vi', en = .returned (.tuple #[]) ∧ Vs base w' p bm (n + 1) E' (img ++ r.bytes) M' vi' t ∧ Only (fun b => b = p ∨ b = bm ∨ vi.ownBlock = some b) w w' := by
  have hp := h.lt
  obtain ⟨va, vc, ev⟩ := (ownsRow_bs hv).len
  rw [List.length_map] at ev
  have Hvv := hid (ownsRow_bs hv)
  have hvp : ∀ g, vv.ownBlock = some g → g < w.heap.size ∧ vi.ownBlock ≠ some g ∧ g ≠ bm := fun g e => ⟨(hv.lt g e).2, hvb g e, fun e' => h.mp.ne_own hv (by rw [e, e'])⟩
  have Hvp := hid hvp
  have H := hid h
  clear h hv hvb hvp
  cases hpl with
  | prep e b h1 h2 h3 =>
    simp only at hn Hvv ev
    have we := hwf e (by simp)
    have hE' := hE e
    obtain ⟨g, cap, rfl⟩ := own_shape hn (by simp)
    have lg := (hn.lt g rfl).2
    have q0 := hn.cellAt 0 (by simp)
    have q1 := hn.cellAt 1 (by simp)
    simp only [List.map_cons, List.getElem?_cons_zero, List.getElem?_cons_succ] at q0 q1
    have bA : Hid (Bl w (w.alloc (.cells #[.int .i64 1, .slice (some ⟨g, 0, none⟩) 2 cap, vv] 170))) := (Bl.refl w).alloc _
    have HS : Hid (∀ W, Bl w W → _) := fun W hW => prepareYes_any base p bm n E img M vi t e b W (H.out.bl hW) (Nat.le_trans hb hW.lt) hl hn' we hE'.1 h1 h2 h3
    subst ev
    simp only [Rc.bytes]
    clear hn hE hE'
    generalize img ++ recB 1 [e, b] [] = img' at *
    generalize updE E e ⟨b, (E e).ba, (E e).val⟩ = E' at *
    generalize (E e).ba = ba at *
    generalize (E e).val = ev at *
    go_enter Tryz.func93, Tryz.ntmps93
    go_wp2_with fail
    go_quiet (fail)
    go_wp2_with fail
    refine (HS.out _ (by exact bA.out.drewN _)).mono ?_
    rintro e1 w1 ⟨M', vi', v', rfl, hv', hk, ho, _⟩
    have HK := hid hk
    have HO := hid ho
    obtain ⟨sa, sc, rfl⟩ : ∃ a c, v' = .slice a ev.length c := by
      obtain ⟨a', c', e'⟩ := (ownsRow_sl hv').len
      rw [ownsRow_len hv'] at e'
      exact ⟨a', c', e'⟩
    clear hk ho hv'
    unfold voteR
    go_wp2
    go_end0
    exact ⟨M', vi', rfl, HK.out, (Only.of_bl (bA.out.drewN _)).trans HO.out.only⟩
  | acc e b ys h1 h2 h3 hy1 hy hys hne =>
    simp only at hn Hvv ev
    have we := hwf e (by simp)
    have hE' := hE e
    obtain ⟨g, cap, rfl⟩ := own_shape hn (by simp)
    have lg := (hn.lt g rfl).2
    have q0 := hn.cellAt 0 (by simp)
    have q1 := hn.cellAt 1 (by simp)
    simp only [List.map_cons, List.getElem?_cons_zero, List.getElem?_cons_succ] at q0 q1
    have bA : Hid (Bl w (w.alloc (.cells #[.int .i64 2, .slice (some ⟨g, 0, none⟩) 2 cap, vv] 170))) := (Bl.refl w).alloc _
    have HS : Hid (∀ W, Bl w W → Calls Tryz.prog 82 #[.pointer (some ⟨p, 0, none⟩), .int .i64 e, .int .i64 b, vv] W fun en w' => ∃ M' vi', en = .returned (voteR 1 b 0 (.slice none 0 0)) ∧ Vs base w' p bm (n + 1) (updE E e ⟨b, b, ys⟩) (img ++ recB 2 [e, b] ys) M' vi' t ∧ Gone p bm M vi M' vi' W w') := fun W hW => by
      have hvb' : ∀ g, vv.ownBlock = some g → g < W.heap.size ∧ vi.ownBlock ≠ some g ∧ g ≠ bm := fun g e => ⟨Nat.lt_of_lt_of_le (Hvp.out g e).1 hW.lt, (Hvp.out g e).2⟩
      by_cases hbb : b = (E e).ba
      · exact acceptNew2_any base p bm n E img M vi t e b vv ys W (H.out.bl hW) (Nat.le_trans hb hW.lt) hl hn' we (Hvv.out.bl hW) hy1 hy hvb' hys hE'.2 h1 h2 h3 hbb (hne.resolve_left (fun h => h hbb))
      · exact acceptNew_any base p bm n E img M vi t e b vv ys W (H.out.bl hW) (Nat.le_trans hb hW.lt) hl hn' we (Hvv.out.bl hW) hy1 hy hvb' hys hE'.2 h1 h2 h3 hbb
    subst ev
    simp only [Rc.bytes]
    clear hn hE hE' hne h3
    generalize img ++ recB 2 [e, b] ys = img' at *
    generalize updE E e ⟨b, b, ys⟩ = E' at *
    go_enter Tryz.func93, Tryz.ntmps93
    go_wp2_with fail
    go_quiet (fail)
    go_wp2_with fail
    refine (HS.out _ (by exact bA.out.drewN _)).mono ?_
    rintro e1 w1 ⟨M', vi', rfl, hk, ho⟩
    have HK := hid hk
    have HO := hid ho
    clear hk ho
    unfold voteR
    go_wp2
    go_end0
    exact ⟨M', vi', rfl, HK.out, (Only.of_bl (bA.out.drewN _)).trans HO.out.only⟩
end Go.Proofs.YtkgjpfamjedncaaGreat

namespace Go.Proofs.YtkgjpfamjedncaaGreat
open Go.RowKit
attribute [local go_sem ↓] Go.wp_at_zero Go.wp_at_succ

theorem Recs.only2 {S : Nat → Prop} {base : Nat} {w w' : World} {v : Value} {rs : List Rc} {xs : List Value} (h : Recs base w v rs xs) (ho : Only S w w') (hs : ∀ b cs e f, S b → w.heap[b]? = some (.cells cs e f) → e ≠ 170 ∧ e ≠ 3 ∧ e ≠ 5) : Recs base w' v rs xs := by
  have key : ∀ {e : TypeId} {size : Nat} {u : Value} {n : Nat} {ys : List Value}, (e = 170 ∨ e = 3 ∨ e = 5) → w.ownsRow base e size u n ys → w'.ownsRow base e size u n ys := by
    intro e size u n ys he hu
    refine ho.owns hu fun b hb hS => ?_
    obtain ⟨c, hc⟩ := own_type hu b hb
    obtain ⟨n1, n2, n3⟩ := hs b _ _ _ hS hc
    rcases he with rfl | rfl | rfl <;> contradiction
  refine ⟨key (.inl rfl) h.own, h.len, fun j hj => ?_, fun j hj => ?_, h.kd⟩
  · obtain ⟨nv, a, b⟩ := h.ns j hj; exact ⟨nv, a, key (.inr (.inl rfl)) b⟩
  · obtain ⟨vv, a, b⟩ := h.val j hj; exact ⟨vv, a, key (.inr (.inr rfl)) b⟩

/-- What is kept while records are done again: w2 is the world in which they were read. -/
structure VDoing (F : Nat) (recv : Value) (p o bm base : Nat) (rs : List Rc) (J : World → Nat → World → Prop) : Prop where
  img : ∀ {w2 W : World} {j : Nat}, J w2 j W → j ≤ rs.length → ∃ v B, W.cell? ⟨p, o, none⟩ = some v ∧ W.ownsRow B 5 1 v (off rs j) ((flat (rs.take j)).map B8)
  plt : ∀ {w2 W : World} {j : Nat}, J w2 j W → p < w2.heap.size
  safe : ∀ {w2 W : World} {j : Nat}, J w2 j W → ∀ b cs e f, (b = p ∨ b = bm) → w2.heap[b]? = some (.cells cs e f) → e ≠ 170 ∧ e ≠ 3 ∧ e ≠ 5
  only : ∀ {w2 W : World} {j : Nat}, J w2 j W → Only (fun b => b = p ∨ b = bm) w2 W
  bl : ∀ {w2 W W' : World} {j : Nat}, J w2 j W → Bl W W' → J w2 j W'
  step : ∀ {w2 W : World} {j : Nat} (nv vv : Value) (h : j < rs.length), J w2 j W → W.ownsRow base 3 1 nv rs[j].ns.length (rs[j].ns.map (Value.int .i64)) → W.ownsRow base 5 1 vv rs[j].val.length (rs[j].val.map B8) → (∀ g, vv.ownBlock = some g → g < w2.heap.size) →
    Calls Tryz.prog F #[recv, .agg #[.int .i64 rs[j].kd, nv, vv]] W fun e W' => e = .returned (.tuple #[]) ∧ J w2 (j + 1) W' ∧ ∃ S, Only S W W' ∧ ∀ x cs f, W.heap[x]? = some (.cells cs 170 f) → ¬ S x

set_option maxRecDepth 100000 in
set_option maxHeartbeats 4000000 in
theorem vimgOpen_any (recv : Value) (p o bm : Nat) (ad : Option Addr) (b o' c n bs os cs : Nat) (rs : List Rc) (shs : List (Int × Int × Int)) (w : World) (J : World → Nat → World → Prop) (hD : VDoing 93 recv p o bm w.heap.size rs J) (hJ0 : ∀ w2, Bl w w2 → J w2 0 w2)
    (hn : n ≤ (flat rs).length) (hnc : n ≤ c) (hn3 : n ≤ 30000000) (hcc : c ≤ 9223372036854775807) (had : 0 < n → ad = some ⟨b, o', none⟩ ∧ b < w.heap.size) (hc : ∀ j d, j < n → (flat rs)[j]? = some d → w.cell? ⟨b, o' + j, none⟩ = some (B8 d))
    (hsh : Shapes w bs os shs) (hs : shs.length ≤ 1000) (ok : ∀ r ∈ rs, r.Ok shs) :
    Calls Tryz.prog 89 #[.pointer (some ⟨p, o, none⟩), .slice ad n c, .slice (some ⟨bs, os, none⟩) shs.length cs, .func (.func 93) #[recv] #[]] w fun e w' => ∃ k w2, e = .returned (.bool true) ∧ k ≤ rs.length ∧ off rs k ≤ n ∧ (∀ h : k < rs.length, n < off rs k + rs[k].bytes.length) ∧ Bl w w2 ∧ J w2 k w' := by
  have HS := hid (split_any ad b o' c n bs os cs rs shs w hn hnc (by omega) hcc had hc hsh hs ok)
  have D := hid hD
  have HJ := hid hJ0
  have Ok := hid ok
  clear hn had hc hsh hs ok hD hJ0
  go_enter Tryz.func89, Tryz.ntmps89
  go_wp2_with fail
  refine HS.out.mono ?_
  rintro e w2 ⟨k, v, xs, rfl, hk, hoff, hnext, hR, hbl⟩
  have hlen : (rs.take k).length = k := by simp; omega
  have HR := hid hR
  have HB := hid hbl
  have Hn := hid hnext
  have Hkl := hid hk
  have Hoff := hid hoff
  have k30 : k ≤ 10000000 := by have := off_ge rs k hk; omega
  obtain ⟨va, vc, ev⟩ : ∃ a c, v = .slice a k c := by
    rcases hR.own.2 with ⟨e1, e2⟩ | ⟨g, cap, cur, e1, _⟩
    · exact ⟨none, 0, by rw [e1]; congr 1; omega⟩
    · exact ⟨_, cap, by rw [e1, hlen]⟩
  subst ev
  clear hR hbl hnext hk hoff HS
  have k31 : ((k : Nat) : Int) ≤ 10000000 := by omega
  go_wp2
  go_loopw [22] (fun i wr => ∃ j : Nat, j ≤ k ∧ i = .int .i64 j ∧ Hid (J w2 j wr)) (fun i _ => k - (intOf i).toNat)
  case atStart => exact ⟨0, Nat.zero_le _, rfl, HJ.out w2 HB.out⟩
  case round =>
    obtain ⟨j, hj, rfl, HJj⟩ := hrel
    by_cases hlt : j < k
    · have hjr : j < rs.length := Nat.lt_of_lt_of_le hlt Hkl.out
      have hjt : j < (rs.take k).length := by omega
      have hrt : (rs.take k)[j] = rs[j] := by simp
      have hRr : Recs w.heap.size wr _ _ _ := HR.out.only2 (D.out.only HJj.out) (D.out.safe HJj.out)
      obtain ⟨g, cap, ev2⟩ : ∃ g cap, va = some ⟨g, 0, none⟩ ∧ vc = cap := by
        rcases hRr.own.2 with ⟨e1, e2⟩ | ⟨g, cap, cur, e1, _⟩
        · exact absurd e2 (by omega)
        · injection e1 with h1 h2 h3
          exact ⟨g, cap, h1, h3⟩
      obtain ⟨rfl, rfl⟩ := ev2
      have lg : g < wr.heap.size := (hRr.own.lt g rfl).2
      have ho : wr.ownsRow w.heap.size 170 3 (.slice (some ⟨g, 0, none⟩) k vc) k xs := by have := hRr.own; rw [hlen] at this; exact this
      have q0 : wr.cell? ⟨g, 3 * j, none⟩ = xs[3 * j]? := ho.cellAt (3 * j) (by omega)
      have q1 : wr.cell? ⟨g, 3 * j + 1, none⟩ = xs[3 * j + 1]? := ho.cellAt (3 * j + 1) (by omega)
      have q2 : wr.cell? ⟨g, 3 * j + 2, none⟩ = xs[3 * j + 2]? := ho.cellAt (3 * j + 2) (by omega)
      rw [hRr.kd j hjt, hrt] at q0
      obtain ⟨nv, e1, hnv⟩ := hRr.ns j hjt
      obtain ⟨vv, e2, hvv⟩ := hRr.val j hjt
      rw [hrt] at hnv hvv
      rw [e1] at q1
      rw [e2] at q2
      have Hnv := hid hnv
      have Hvv := hid hvv
      obtain ⟨v0, B0, cP, hP⟩ := D.out.img HJj.out (by omega)
      obtain ⟨ia, ic, ei⟩ : ∃ a c, v0 = .slice a (off rs j) c := by
        obtain ⟨a', c', e'⟩ := (ownsRow_sl hP).len
        rw [ownsRow_len hP] at e'
        exact ⟨a', c', e'⟩
      subst ei
      have lp : p < wr.heap.size := by
        exact Nat.lt_of_lt_of_le (D.out.plt HJj.out) (D.out.only HJj.out).size
      obtain ⟨na, nc, en⟩ : ∃ a c, nv = .slice a rs[j].ns.length c := by
        obtain ⟨a', c', e'⟩ := (ownsRow_sl hnv).len
        rw [ownsRow_len hnv] at e'
        exact ⟨a', c', e'⟩
      obtain ⟨wa, wc, ew⟩ : ∃ a c, vv = .slice a rs[j].val.length c := by
        obtain ⟨a', c', e'⟩ := (ownsRow_sl hvv).len
        rw [ownsRow_len hvv] at e'
        exact ⟨a', c', e'⟩
      have hvb : Hid (∀ g, vv.ownBlock = some g → g < w2.heap.size) := by
        obtain ⟨vv', e3, hvv'⟩ := HR.out.val j hjt
        obtain rfl : vv' = vv := Option.some.inj (e3.symm.trans e2)
        exact fun g hg => (hvv'.lt g hg).2
      have Hnv3 : Hid (∀ W, Only (fun b => b = p ∨ b = bm) w2 W → W.ownsRow w.heap.size 3 1 nv rs[j].ns.length (rs[j].ns.map (Value.int .i64))) := by
        obtain ⟨nv', e3, hnv'⟩ := HR.out.ns j hjt
        obtain rfl : nv' = nv := Option.some.inj (e3.symm.trans e1)
        rw [hrt] at hnv'
        exact fun W hW => hW.owns hnv' fun b hb e' => by
          obtain ⟨c1, hc1⟩ := own_type hnv' b hb
          exact (D.out.safe HJj.out b _ _ _ e' hc1).2.1 rfl
      have Hvv3 : Hid (∀ W, Only (fun b => b = p ∨ b = bm) w2 W → W.ownsRow w.heap.size 5 1 vv rs[j].val.length (rs[j].val.map B8)) := by
        obtain ⟨nv', e3, hnv'⟩ := HR.out.val j hjt
        obtain rfl : nv' = vv := Option.some.inj (e3.symm.trans e2)
        rw [hrt] at hnv'
        exact fun W hW => hW.owns hnv' fun b hb e' => by
          obtain ⟨c1, hc1⟩ := own_type hnv' b hb
          exact (D.out.safe HJj.out b _ _ _ e' hc1).2.2 rfl
      have Hst := hid (fun W => D.out.step (w2 := w2) (W := W) (j := j) nv vv hjr)
      have hkd := (Ok.out _ (List.getElem_mem hjr)).k0
      have hkd1 := (Ok.out _ (List.getElem_mem hjr)).k1
      have hnl1 := (Ok.out _ (List.getElem_mem hjr)).n1
      have hvl1 := (Ok.out _ (List.getElem_mem hjr)).v1
      have hoj := off_succ rs j hjr
      have htk : Hid (flat (rs.take (j + 1)) = flat (rs.take j) ++ rs[j].bytes) := by
        unfold Hid
        rw [List.take_succ_eq_append_getElem hjr, flat_append]; simp [flat]
      subst en ew
      have hrb := rs[j].len
      have hbb : rs[j].bytes = recB rs[j].kd rs[j].ns rs[j].val := rfl
      generalize rs[j] = r at *
      obtain ⟨rk, rn, rv⟩ := r
      simp only at *
      clear hnv hvv e1 e2 hRr ho hrt hjt
      rw [Nat.mul_comm 3 j] at q0 q1 q2
      have HBX := hid (heap_alloc_new wr (.cells #[.int .i64 rk, .slice na rn.length nc, .slice wa rv.length wc] 170))
      have bX := hid ((Bl.refl wr).alloc (.cells #[.int .i64 rk, .slice na rn.length nc, .slice wa rv.length wc] 170))
      have HC := hid (Hst.out _ (D.out.bl HJj.out bX.out) ((Only.of_bl (S := fun _ => False) bX.out).owns Hnv.out fun _ _ e => e) ((Only.of_bl (S := fun _ => False) bX.out).owns Hvv.out fun _ _ e => e) hvb.out)
      go_wp2_with fail
      refine HC.out.mono ?_
      rintro e w3 ⟨rfl, hJ3, S, hO3, hS3⟩
      have hbox := (hO3.block wr.heap.size (by simp) (hS3 _ _ _ HBX.out)).trans HBX.out
      have HJ3 := hid hJ3
      have lbx : wr.heap.size < w3.heap.size := (Array.getElem?_eq_some_iff.1 hbox).1
      have x0 : w3.cell? ⟨wr.heap.size, 0, none⟩ = some (.int .i64 rk) := by rw [cell_of_row _ _ 0 _ 170 (0, 0) hbox]; rfl
      have x1 : w3.cell? ⟨wr.heap.size, 1, none⟩ = some (.slice na rn.length nc) := by rw [cell_of_row _ _ 1 _ 170 (0, 0) hbox]; rfl
      have x2 : w3.cell? ⟨wr.heap.size, 2, none⟩ = some (.slice wa rv.length wc) := by rw [cell_of_row _ _ 2 _ 170 (0, 0) hbox]; rfl
      obtain ⟨v3, B3, cP3, hP3⟩ := D.out.img hJ3 (by omega)
      obtain ⟨g3, cap3, e3⟩ := own_shape hP3 (by omega)
      subst e3
      have l3 : g3 < w3.heap.size := (hP3.lt g3 rfl).2
      have lp3 : p < w3.heap.size := Nat.lt_of_lt_of_le lp (Nat.le_trans bX.out.lt hO3.size)
      have hcap := (ownsRow_cap hP3)
      have HP3 := hid hP3
      have o2 := D.out.only HJj.out
      have o3 := D.out.only hJ3
      have hN3 := hid (Hnv3.out w3 o3)
      have hV3 := hid (Hvv3.out w3 o3)
      have hL : off rs (j + 1) - off rs j = (recB rk rn rv).length := by rw [← hbb]; omega
      have HA : Hid (∀ W, Bl w3 W → Calls Tryz.prog 112 #[.agg #[.int .i64 rk, .slice na rn.length nc, .slice wa rv.length wc], .slice none 0 0] W fun e w5 => ∃ a5 c5, e = .returned (.slice a5 (recB rk rn rv).length c5) ∧ Bl w3 w5 ∧ Sl w5 (.slice a5 (recB rk rn rv).length c5) ((recB rk rn rv).map B8)) := by
        intro W hW
        refine (recAppend_any W.heap.size (.slice none 0 0) 0 [] rk (.slice na rn.length nc) (.slice wa rv.length wc) rn rv W (World.ownsRow_nil _ _ _ _) (Nat.le_refl _) (by omega) ((ownsRow_bs hN3.out).bl hW) ((ownsRow_bs hV3.out).bl hW) hkd hkd1 hnl1 hvl1 (fun b e => by simp [Value.ownBlock] at e) (fun b e => by simp [Value.ownBlock] at e) (fun b e => Nat.lt_of_lt_of_le (hN3.out.lt b e).2 hW.lt) (fun b e => Nat.lt_of_lt_of_le (hV3.out.lt b e).2 hW.lt)).mono ?_
        rintro e w5 ⟨v5, rfl, hG⟩
        have ho5 := hG.own
        rw [Nat.zero_add, List.nil_append] at ho5
        obtain ⟨a5, c5, e5⟩ := (ownsRow_sl ho5).len
        rw [List.length_map] at e5
        subst e5
        exact ⟨a5, c5, rfl, hW.trans (hG.only.to_bl fun b _ e => by simp [Value.ownBlock] at e), ownsRow_sl ho5⟩
      have HE : Hid (∀ W, Bl w3 W → Sl W (.slice (some ⟨g3, off rs j, none⟩) (recB rk rn rv).length (cap3 - off rs j)) ((recB rk rn rv).map B8)) := by
        intro W hW
        refine .inr ⟨g3, off rs j, cap3 - off rs j, by simp, Nat.lt_of_lt_of_le l3 hW.lt, fun i hi => ?_⟩
        rw [List.length_map] at hi
        rw [hW.cell l3, HP3.out.cellAt (off rs j + i) (by omega), htk.out, List.map_append, List.getElem?_append_right (by simp [off]), hbb]
        simp [off]
        exact ⟨_, List.getElem?_eq_getElem hi, rfl⟩
      have m0 : ((off rs j : Nat) : Int) ≤ ((off rs (j + 1) : Nat) : Int) := by omega
      have m1 : ((off rs (j + 1) : Nat) : Int) ≤ (cap3 : Int) := by omega
      have m2 : (0 : Int) ≤ ((off rs j : Nat) : Int) := by omega
      have m3 : (0 : Int) ≤ ((off rs (j + 1) : Nat) : Int) := by omega
      have m4 : ((off rs j : Nat) : Int) ≤ (cap3 : Int) := by omega
      have m5 : off rs j ≤ off rs (j + 1) := by omega
      clear hJ3 hO3 hS3 hbox hP3 HC htk o2 o3 cP q0 q1 q2
      generalize recB rk rn rv = by3 at *
      go_wp2_with fail
      go_region_held (fun W => W.cell? ⟨p, o, none⟩ = some (.slice (some ⟨g3, 0, none⟩) (off rs (j + 1)) cap3) ∧ W.cell? ⟨wr.heap.size, 0, none⟩ = some (.int .i64 rk) ∧ W.cell? ⟨wr.heap.size, 1, none⟩ = some (.slice na rn.length nc) ∧ W.cell? ⟨wr.heap.size, 2, none⟩ = some (.slice wa rv.length wc)) (go_keep)
        (first
          | (go_at_call 112; refine (HA.out _ (by exact (Bl.refl _).drewN _)).mono ?_; rintro e w5 ⟨a5, c5, rfl, hb5, hs5⟩; have z0 := (hb5.cell (o := o) lp3).trans cP3; have z1 := (hb5.cell (o := 0) lbx).trans x0; have z2 := (hb5.cell (o := 1) lbx).trans x1; have z3 := (hb5.cell (o := 2) lbx).trans x2; have HB5 := hid hb5; have HS5 := hid hs5; clear hb5 hs5)
          | (go_at_call 105; refine (equal_any _ _ by3 _ (by exact HE.out _ HB5.out) (by exact HS5.out)).mono ?_; rintro e w6 ⟨rfl, rfl⟩))
      all_goals
        go_wp2
        go_roundw
        case rel => exact ⟨j + 1, by omega, by go_num, D.out.bl HJ3.out HB5.out⟩
        case measure => simp [intOf]; omega
    · obtain rfl : j = k := by omega
      go_wp2
      go_ret
      exact ⟨j, w2, rfl, Hkl.out, Hoff.out, Hn.out, HB.out, HJj.out⟩
end Go.Proofs.YtkgjpfamjedncaaGreat

namespace Go.Proofs.YtkgjpfamjedncaaGreat
open Go.RowKit
attribute [local go_sem ↓] Go.wp_at_zero Go.wp_at_succ

def no : Ct := ⟨0, 0, 0, []⟩
/-- Cells that nothing was done with. -/
def St.first : St := ⟨0, 0, fun _ => no⟩

/-- The states that the calls of records go through. -/
structure Way (a b c d ch : Int) (rs : List Rc) (S : Nat → St) : Prop where
  zero : S 0 = St.first
  step : ∀ j, (h : j < rs.length) → Plays a b c d ch (S j) rs[j] (S (j + 1))
  ok : ∀ r ∈ rs, r.Ok shs

theorem Way.vals {a b c d ch : Int} {rs : List Rc} {S : Nat → St} (h : Way a b c d ch rs S) : ∀ j, j ≤ rs.length → ∀ i, i < 16 → ((S j).ct i).val.length ≤ 255 := by
  intro j
  induction j with
  | zero => intro _ i _; rw [h.zero]; simp [St.first, no]
  | succ j ih =>
    intro hj i hi
    have hs := h.step j (by omega)
    have ih := ih (by omega) i hi
    generalize S (j + 1) = s' at hs ⊢
    generalize rs[j] = r at hs
    cases hs with
    | sealed => exact ih
    | trim => exact ih
    | write e x kd cl ca ys i' _ _ _ _ hc =>
      simp only
      split
      · have := isC_len hc; simp; omega
      · exact ih

theorem zero68 (i : Nat) (h : i < 72) : Tryz.zeroCells122[i]? = some (if i = 71 then .slice none 0 0 else if i < 7 then .int .i64 0 else if (i - 7) % 4 = 3 then .slice none 0 0 else .int .i64 0) := by
  have e : Tryz.zeroCells122.toList = (List.range 72).map (fun i => if i = 71 then Value.slice none 0 0 else if i < 7 then .int .i64 0 else if (i - 7) % 4 = 3 then .slice none 0 0 else .int .i64 0) := by kernel_rfl
  rw [← Array.getElem?_toList, e, List.getElem?_map, List.getElem?_range h]; rfl

theorem Ks.fresh (a b c d ch : Int) : ∃ K : Nat → Value, ∀ (base : Nat) (w : World) (p : Nat), w.heap[p]? = some (.cells (((((Tryz.zeroCells122.setIfInBounds 0 (.int .i64 a)).setIfInBounds 1 (.int .i64 b)).setIfInBounds 2 (.int .i64 c)).setIfInBounds 3 (.int .i64 d)).setIfInBounds 4 (.int .i64 ch)) 122 (0, 0)) → Ks base w p a b c d ch 0 0 (fun _ => no) [] K := by
  have hz : ∀ i, 5 ≤ i → (((((Tryz.zeroCells122.setIfInBounds 0 (.int .i64 a)).setIfInBounds 1 (.int .i64 b)).setIfInBounds 2 (.int .i64 c)).setIfInBounds 3 (.int .i64 d)).setIfInBounds 4 (.int .i64 ch))[i]? = Tryz.zeroCells122[i]? := by
    intro i h5
    rw [Array.getElem?_setIfInBounds_ne (by omega), Array.getElem?_setIfInBounds_ne (by omega), Array.getElem?_setIfInBounds_ne (by omega), Array.getElem?_setIfInBounds_ne (by omega), Array.getElem?_setIfInBounds_ne (by omega)]
  have hsz : (((((Tryz.zeroCells122.setIfInBounds 0 (.int .i64 a)).setIfInBounds 1 (.int .i64 b)).setIfInBounds 2 (.int .i64 c)).setIfInBounds 3 (.int .i64 d)).setIfInBounds 4 (.int .i64 ch)).size = 72 := by simp only [Array.size_setIfInBounds]; rfl
  have e0 : (((((Tryz.zeroCells122.setIfInBounds 0 (.int .i64 a)).setIfInBounds 1 (.int .i64 b)).setIfInBounds 2 (.int .i64 c)).setIfInBounds 3 (.int .i64 d)).setIfInBounds 4 (.int .i64 ch))[0]? = some (.int .i64 a) := rfl
  have e1 : (((((Tryz.zeroCells122.setIfInBounds 0 (.int .i64 a)).setIfInBounds 1 (.int .i64 b)).setIfInBounds 2 (.int .i64 c)).setIfInBounds 3 (.int .i64 d)).setIfInBounds 4 (.int .i64 ch))[1]? = some (.int .i64 b) := rfl
  have e2 : (((((Tryz.zeroCells122.setIfInBounds 0 (.int .i64 a)).setIfInBounds 1 (.int .i64 b)).setIfInBounds 2 (.int .i64 c)).setIfInBounds 3 (.int .i64 d)).setIfInBounds 4 (.int .i64 ch))[2]? = some (.int .i64 c) := rfl
  have e3 : (((((Tryz.zeroCells122.setIfInBounds 0 (.int .i64 a)).setIfInBounds 1 (.int .i64 b)).setIfInBounds 2 (.int .i64 c)).setIfInBounds 3 (.int .i64 d)).setIfInBounds 4 (.int .i64 ch))[3]? = some (.int .i64 d) := rfl
  have e4 : (((((Tryz.zeroCells122.setIfInBounds 0 (.int .i64 a)).setIfInBounds 1 (.int .i64 b)).setIfInBounds 2 (.int .i64 c)).setIfInBounds 3 (.int .i64 d)).setIfInBounds 4 (.int .i64 ch))[4]? = some (.int .i64 ch) := rfl
  generalize (((((Tryz.zeroCells122.setIfInBounds 0 (.int .i64 a)).setIfInBounds 1 (.int .i64 b)).setIfInBounds 2 (.int .i64 c)).setIfInBounds 3 (.int .i64 d)).setIfInBounds 4 (.int .i64 ch)) = arr at *
  refine ⟨fun i => (arr[i]?).getD undef, fun base w p h => ?_⟩
  have big : ∀ i, 5 ≤ i → i < 72 → (arr[i]?).getD undef = (if i = 71 then .slice none 0 0 else if i < 7 then .int .i64 0 else if (i - 7) % 4 = 3 then .slice none 0 0 else .int .i64 0) := by
    intro i h5 hi
    rw [hz i h5, zero68 i hi]; rfl
  have k71 : (arr[71]?).getD undef = .slice none 0 0 := by rw [big 71 (by decide) (by decide)]; rfl
  have kv : ∀ i, i < 16 → (arr[10 + 4 * i]?).getD undef = .slice none 0 0 := by
    intro i hi
    rw [big _ (by omega) (by omega), if_neg (by omega), if_neg (by omega), if_pos (by omega)]
  refine ⟨⟨_, 122, h, .inl rfl, fun i hi => ?_⟩, by simp only [e0]; rfl, by simp only [e1]; rfl, by simp only [e2]; rfl, by simp only [e3]; rfl, by simp only [e4]; rfl, ?_, ?_, ?_, fun i hi => ?_, fun i hi => ?_, fun i hi => ?_, fun i hi => ?_, fun i hi g hg => ?_⟩
  · simp only [Array.getElem?_eq_getElem (show i < arr.size by omega), Option.getD_some]
  · rw [big 5 (by decide) (by decide)]; rfl
  · rw [big 6 (by decide) (by decide)]; rfl
  · simp only [k71]; exact World.ownsRow_nil _ _ _ _
  · rw [big _ (by omega) (by omega), if_neg (by omega), if_neg (by omega), if_neg (by omega)]; rfl
  · rw [big _ (by omega) (by omega), if_neg (by omega), if_neg (by omega), if_neg (by omega)]; rfl
  · rw [big _ (by omega) (by omega), if_neg (by omega), if_neg (by omega), if_neg (by omega)]; rfl
  · simp only [kv i hi]; exact World.ownsRow_nil _ _ _ _
  · simp only [kv i hi] at hg; simp [Value.ownBlock] at hg

theorem Ks.base {base base' : Nat} {w : World} {p : Nat} {a b c d ch ep mk : Int} {ct : Nat → Ct} {img : List Int} {K : Nat → Value} (h : Ks base w p a b c d ch ep mk ct img K) (hb : base' ≤ base) : Ks base' w p a b c d ch ep mk ct img K :=
  ⟨h.at', h.k0, h.k1, h.k2, h.k3, h.k4, h.k5, h.k6, ownsRow_base h.own fun g e => Nat.le_trans hb (h.own.lt g e).1, h.kd, h.cl, h.ca, fun i hi => ownsRow_base (h.val i hi) fun g e => Nat.le_trans hb ((h.val i hi).lt g e).1, h.apart⟩

/-- What cells are while the records are done again. -/
structure Jc (p : Nat) (a b c d ch : Int) (rs : List Rc) (S : Nat → St) (w2 : World) (j : Nat) (W : World) : Prop where
  ks : ∃ K, Ks w2.heap.size W p a b c d ch (S j).ep (S j).mark (S j).ct (flat (rs.take j)) K ∧ (j = 0 → ∀ B, Ks B W p a b c d ch (S j).ep (S j).mark (S j).ct (flat (rs.take j)) K)
  only : Only (fun b => b = p) w2 W
  at2 : ∃ K, At w2 p K

theorem doing {p : Nat} {a b c d ch : Int} {rs : List Rc} {S : Nat → St} (hw : Way a b c d ch rs S) (hl : (flat rs).length ≤ 30000000) (base : Nat) : Doing 91 (.pointer (some ⟨p, 0, none⟩)) p 71 base rs (Jc p a b c d ch rs S) where
  img := by
    rintro w2 W j ⟨⟨K, hK, _⟩, _, _⟩ hj
    exact ⟨_, _, hK.at'.cell 71 (by decide), hK.own⟩
  blk := by
    rintro w2 W j ⟨_, _, ⟨K, cs, t, h1, h2, _⟩⟩
    exact ⟨cs, t, h1, by rcases h2 with rfl | rfl <;> decide⟩
  only := fun h => h.only
  bl := fun ⟨⟨K, hK, hz⟩, h2, h3⟩ hb => ⟨⟨K, hK.bl hb, fun e B => (hz e B).bl hb⟩, h2.trans (Only.of_bl hb), h3⟩
  step := by
    rintro w2 W j nv vv h ⟨⟨K, hK, _⟩, hO, hA⟩ hn hv hvb
    have hlj : (flat (rs.take j)).length ≤ 30000000 := by have := off_le rs j h; unfold off at this; omega
    refine (again_any w2.heap.size p base a b c d ch (S j) (S (j + 1)) rs[j] _ K nv vv W hK hO.size hlj (hw.vals j (by omega)) (hw.step j h) hn hv (fun g e e' => ?_)).mono ?_
    · have := hvb g e; have := (hK.own.lt g e').1; omega
    rintro e W' ⟨K', rfl, hK', hO'⟩
    refine ⟨rfl, ⟨⟨K', ?_, fun e => absurd e (by omega)⟩, ?_, hA⟩, _, hO', ?_⟩
    · rw [List.take_succ_eq_append_getElem h, flat_append]; simpa [flat] using hK'
    · refine ⟨hO'.os.trans hO.os, hO'.tape.trans hO.tape, hO'.output.trans hO.output, Nat.le_trans hO.size hO'.size, fun i hi hn' => ?_⟩
      rw [hO'.block i (Nat.lt_of_lt_of_le hi hO.size) (fun e => ?_), hO.block i hi hn']
      rcases e with e | e
      · exact hn' e
      · have := (hK.own.lt i e).1; omega
    · rintro x cs f hx (e | e)
      · obtain ⟨arr, t, h1, h2, _⟩ := hK.at'
        subst e
        rw [h1] at hx
        simp only [Option.some.injEq, Obj.cells.injEq] at hx
        rcases h2 with rfl | rfl <;> exact absurd hx.2.1 (by decide)
      · exact own_ne_block hK.own hx (by decide) e
end Go.Proofs.YtkgjpfamjedncaaGreat

namespace Go.Proofs.YtkgjpfamjedncaaGreat
open Go.RowKit
attribute [local go_sem ↓] Go.wp_at_zero Go.wp_at_succ

/-- The bytes of an image, cut at n, lie in a slice. -/
structure Cut (w : World) (ad : Option Addr) (n c : Nat) (rs : List Rc) : Prop where
  n1 : n ≤ (flat rs).length
  nc : n ≤ c
  c1 : c ≤ 9223372036854775807
  lies : ∃ b o, (0 < n → ad = some ⟨b, o, none⟩ ∧ b < w.heap.size) ∧ ∀ j d, j < n → (flat rs)[j]? = some d → w.cell? ⟨b, o + j, none⟩ = some (B8 d)
theorem Cut.bl {w w' : World} {ad : Option Addr} {n c : Nat} {rs : List Rc} (h : Cut w ad n c rs) (hb : Bl w w') : Cut w' ad n c rs := by
  obtain ⟨h1, h2, h3, b, o, h4, h5⟩ := h
  refine ⟨h1, h2, h3, b, o, fun hn => ⟨(h4 hn).1, Nat.lt_of_lt_of_le (h4 hn).2 hb.lt⟩, fun j d hj hd => ?_⟩
  rw [hb.cell (h4 (by omega)).2]; exact h5 j d hj hd

theorem Bl.of_only {w w2 w' : World} {p : Nat} (h : Bl w w2) (ho : Only (fun b => b = p) w2 w') (hp : w.heap.size ≤ p) : Bl w w' := h.trans_only ho (fun n e => by omega)

set_option maxRecDepth 100000 in
set_option maxHeartbeats 4000000 in
theorem open_any (a b c d u ch : Int) (ad : Option Addr) (n cc : Nat) (rs : List Rc) (S : Nat → St) (w : World) (hch : cha a b c d u = (ch, 0)) (hw : Way a b c d ch rs S) (hl : (flat rs).length ≤ 30000000) (hd : Cut w ad n cc rs) :
    Calls Tryz.prog 67 #[.agg #[.int .i64 a, .int .i64 b, .int .i64 c, .int .i64 d], .int .i64 u, .slice ad n cc] w fun e w' => ∃ k p K, e = .returned (.tuple #[.pointer (some ⟨p, 0, none⟩), .int .i64 0]) ∧ k ≤ rs.length ∧ off rs k ≤ n ∧ (∀ h : k < rs.length, n < off rs k + rs[k].bytes.length) ∧ w.heap.size ≤ p ∧ Ks w.heap.size w' p a b c d ch (S k).ep (S k).mark (S k).ct (flat (rs.take k)) K ∧ (k = 0 → ∀ B, Ks B w' p a b c d ch (S k).ep (S k).mark (S k).ct (flat (rs.take k)) K) ∧ Bl w w' := by
  have bA := hid ((Bl.refl w).alloc (.cells #[.int .i64 a, .int .i64 b, .int .i64 c, .int .i64 d] 38))
  have Hch : Hid (∀ W, Calls Tryz.prog 88 #[.agg #[.int .i64 a, .int .i64 b, .int .i64 c, .int .i64 d], .int .i64 u] W fun e w' => e = .returned (.tuple #[.int .i64 ch, .int .i64 0]) ∧ Bl W w') := fun W => by
    have := chain_any a b c d u W
    rw [hch] at this
    exact this
  have Hw := hid hw
  have Hd := hid hd
  clear hch hw hd
  go_enter Tryz.func67, Tryz.ntmps67
  go_wp2_with fail
  refine (Hch.out _).mono ?_
  rintro e w1 ⟨rfl, hb1⟩
  have g0 := (hb1.cell (o := 0) (by simp)).trans (cell_of_row _ _ 0 _ 38 (0, 0) (heap_alloc_new w _))
  have g1 := (hb1.cell (o := 1) (by simp)).trans (cell_of_row _ _ 1 _ 38 (0, 0) (heap_alloc_new w _))
  have g2 := (hb1.cell (o := 2) (by simp)).trans (cell_of_row _ _ 2 _ 38 (0, 0) (heap_alloc_new w _))
  have g3 := (hb1.cell (o := 3) (by simp)).trans (cell_of_row _ _ 3 _ 38 (0, 0) (heap_alloc_new w _))
  simp at g0 g1 g2 g3
  have HB1 := hid (bA.out.trans hb1)
  clear hb1
  have HF := hid (heap_alloc_new w1 (.cells (((((Tryz.zeroCells122.setIfInBounds 0 (.int .i64 a)).setIfInBounds 1 (.int .i64 b)).setIfInBounds 2 (.int .i64 c)).setIfInBounds 3 (.int .i64 d)).setIfInBounds 4 (.int .i64 ch)) 122))
  have bB := hid ((Bl.refl w1).alloc (.cells (((((Tryz.zeroCells122.setIfInBounds 0 (.int .i64 a)).setIfInBounds 1 (.int .i64 b)).setIfInBounds 2 (.int .i64 c)).setIfInBounds 3 (.int .i64 d)).setIfInBounds 4 (.int .i64 ch)) 122))
  obtain ⟨K0, HK0⟩ := Ks.fresh a b c d ch
  have HK0 := hid HK0
  go_wp2
  have HO : Hid (∀ W bs, w1.heap.size < W.heap.size → Bl w W → W.heap[w1.heap.size]? = some (.cells (((((Tryz.zeroCells122.setIfInBounds 0 (.int .i64 a)).setIfInBounds 1 (.int .i64 b)).setIfInBounds 2 (.int .i64 c)).setIfInBounds 3 (.int .i64 d)).setIfInBounds 4 (.int .i64 ch)) 122 (0, 0)) → Shapes W bs 0 shs → Calls Tryz.prog 89 #[.pointer (some ⟨w1.heap.size, 71, none⟩), .slice ad n cc, .slice (some ⟨bs, 0, none⟩) 3 3, .func (.func 91) #[.pointer (some ⟨w1.heap.size, 0, none⟩)] #[]] W fun e w' => ∃ k K, e = .returned (.bool true) ∧ k ≤ rs.length ∧ off rs k ≤ n ∧ (∀ h : k < rs.length, n < off rs k + rs[k].bytes.length) ∧ Ks w.heap.size w' w1.heap.size a b c d ch (S k).ep (S k).mark (S k).ct (flat (rs.take k)) K ∧ (k = 0 → ∀ B, Ks B w' w1.heap.size a b c d ch (S k).ep (S k).mark (S k).ct (flat (rs.take k)) K) ∧ Bl w w') := by
    intro W bs hlt hW hh hsh
    obtain ⟨h1, h2, h3, b', o', h4, h5⟩ := Hd.out.bl hW
    refine (imgOpen_any (.pointer (some ⟨w1.heap.size, 0, none⟩)) w1.heap.size 71 ad b' o' cc n bs 0 3 rs shs W _ (doing (p := w1.heap.size) Hw.out hl W.heap.size) (fun w2 hb2 => ?_) h1 h2 (Nat.le_trans h1 hl) h3 h4 h5 hsh (by decide) Hw.out.ok).mono ?_
    · have hh2 := (hb2.heap hlt).trans hh
      have hk := HK0.out w2.heap.size w2 w1.heap.size hh2
      refine ⟨⟨K0, ?_, ?_⟩, Only.refl _ _, ⟨K0, hk.at'⟩⟩
      · rw [Hw.out.zero]
        exact hk
      · intro _ B
        rw [Hw.out.zero]
        exact HK0.out B w2 w1.heap.size hh2
    · rintro e w' ⟨k, w2, rfl, r1, r2, r3, hb2, ⟨K, hK, hz⟩, hO, _⟩
      exact ⟨k, K, rfl, r1, r2, r3, hK.base (Nat.le_trans hW.lt hb2.lt), hz, (hW.trans hb2).of_only hO HB1.out.lt⟩
  have HSh : Hid (∀ W, Bl (w1.alloc (.cells (((((Tryz.zeroCells122.setIfInBounds 0 (.int .i64 a)).setIfInBounds 1 (.int .i64 b)).setIfInBounds 2 (.int .i64 c)).setIfInBounds 3 (.int .i64 d)).setIfInBounds 4 (.int .i64 ch)) 122)) W → W.heap.size = w1.heap.size + 1 → Calls Tryz.prog 90 #[] W fun e w3 => e = .returned (.slice (some ⟨w1.heap.size + 1, 0, none⟩) 3 3) ∧ Calls Tryz.prog 89 #[.pointer (some ⟨w1.heap.size, 71, none⟩), .slice ad n cc, .slice (some ⟨w1.heap.size + 1, 0, none⟩) 3 3, .func (.func 91) #[.pointer (some ⟨w1.heap.size, 0, none⟩)] #[]] w3 fun e w' => ∃ k K, e = .returned (.bool true) ∧ k ≤ rs.length ∧ off rs k ≤ n ∧ (∀ h : k < rs.length, n < off rs k + rs[k].bytes.length) ∧ Ks w.heap.size w' w1.heap.size a b c d ch (S k).ep (S k).mark (S k).ct (flat (rs.take k)) K ∧ (k = 0 → ∀ B, Ks B w' w1.heap.size a b c d ch (S k).ep (S k).mark (S k).ct (flat (rs.take k)) K) ∧ Bl w w') := by
    intro W hW hsz
    refine (shapes_any W).mono ?_
    rw [hsz]
    rintro e w3 ⟨rfl, hs3, hb3⟩
    have hlt : w1.heap.size < W.heap.size := by omega
    exact ⟨rfl, HO.out _ _ (Nat.lt_of_lt_of_le hlt hb3.lt) (((HB1.out.trans bB.out).trans hW).trans hb3) ((hb3.heap hlt).trans ((hW.heap (by simp)).trans HF.out)) hs3⟩
  clear HO
  go_region_with (first
    | (go_at_call 90; refine (HSh.out _ (by exact (Bl.refl _).drewN _) (by simp)).mono ?_; rintro e w3 ⟨rfl, hs3⟩; have HS3 := hid hs3; clear hs3)
    | (go_at_call 89; refine HS3.out.mono ?_; rintro e w4 ⟨k, K, rfl, r1, r2, r3, r4, r6, r5⟩; have R6 := hid r6; have R1 := hid r1; have R2 := hid r2; have R3 := hid r3; have R4 := hid r4; have R5 := hid r5; clear r1 r2 r3 r4 r5 r6))
  all_goals
    go_wp2
    go_ret2
    exact ⟨k, _, K, rfl, R1.out, R2.out, R3.out, HB1.out.lt, R4.out, R6.out, R5.out⟩
end Go.Proofs.YtkgjpfamjedncaaGreat
