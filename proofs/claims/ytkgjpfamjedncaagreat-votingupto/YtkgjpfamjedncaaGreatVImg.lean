-- A voter's image is opened: each record's call is done again.
import Derived.Test.YtkgjpfamjedncaaGreatImgOpen
namespace Go.Proofs.YtkgjpfamjedncaaGreat
open Go.RowKit
attribute [local go_sem ↓] Go.wp_at_zero Go.wp_at_succ

theorem Recs.only2 {S : Nat → Prop} {base : Nat} {w w' : World} {v : Value} {rs : List Rc} {xs : List Value} (h : Recs base w v rs xs) (ho : Only S w w') (hs : ∀ b cs e f, S b → w.heap[b]? = some (.cells cs e f) → e ≠ 170 ∧ e ≠ 3 ∧ e ≠ 5) : Recs base w' v rs xs := by
  have key : ∀ {e : TypeId} {size : Nat} {u : Value} {n : Nat} {ys : List Value}, (e = 170 ∨ e = 3 ∨ e = 5) → w.ownsRow base e size u n ys → w'.ownsRow base e size u n ys := by
    intro e size u n ys he hu
    refine ho.owns hu fun b hb hS => ?_
    obtain ⟨c, hc⟩ := own_type hu b hb
    obtain ⟨n1, n2, n3⟩ := hs b _ _ _ hS hc
    rcases he with rfl | rfl | rfl <;> contradiction
  refine ⟨key (.inl rfl) h.own, h.len, fun j hj => ?_, fun j hj => ?_, h.kd⟩
  · obtain ⟨nv, a, b⟩ := h.ns j hj; exact ⟨nv, a, key (.inr (.inl rfl)) b⟩
  · obtain ⟨vv, a, b⟩ := h.val j hj; exact ⟨vv, a, key (.inr (.inr rfl)) b⟩

/-- What is kept while records are done again: w2 is the world in which they were read. -/
structure VDoing (F : Nat) (recv : Value) (p o bm base : Nat) (rs : List Rc) (J : World → Nat → World → Prop) : Prop where
  img : ∀ {w2 W : World} {j : Nat}, J w2 j W → j ≤ rs.length → ∃ v B, W.cell? ⟨p, o, none⟩ = some v ∧ W.ownsRow B 5 1 v (off rs j) ((flat (rs.take j)).map B8)
  plt : ∀ {w2 W : World} {j : Nat}, J w2 j W → p < w2.heap.size
  safe : ∀ {w2 W : World} {j : Nat}, J w2 j W → ∀ b cs e f, (b = p ∨ b = bm) → w2.heap[b]? = some (.cells cs e f) → e ≠ 170 ∧ e ≠ 3 ∧ e ≠ 5
  only : ∀ {w2 W : World} {j : Nat}, J w2 j W → Only (fun b => b = p ∨ b = bm) w2 W
  bl : ∀ {w2 W W' : World} {j : Nat}, J w2 j W → Bl W W' → J w2 j W'
  step : ∀ {w2 W : World} {j : Nat} (nv vv : Value) (h : j < rs.length), J w2 j W → W.ownsRow base 3 1 nv rs[j].ns.length (rs[j].ns.map (Value.int .i64)) → W.ownsRow base 5 1 vv rs[j].val.length (rs[j].val.map B8) → (∀ g, vv.ownBlock = some g → g < w2.heap.size) →
    Calls Tryz.prog F #[recv, .agg #[.int .i64 rs[j].kd, nv, vv]] W fun e W' => e = .returned (.tuple #[]) ∧ J w2 (j + 1) W' ∧ ∃ S, Only S W W' ∧ ∀ x cs f, W.heap[x]? = some (.cells cs 170 f) → ¬ S x

set_option maxRecDepth 100000 in
set_option maxHeartbeats 4000000 in
theorem vimgOpen_any (recv : Value) (p o bm : Nat) (ad : Option Addr) (b o' c n bs os cs : Nat) (rs : List Rc) (shs : List (Int × Int × Int)) (w : World) (J : World → Nat → World → Prop) (hD : VDoing 93 recv p o bm w.heap.size rs J) (hJ0 : ∀ w2, Bl w w2 → J w2 0 w2)
    (hn : n ≤ (flat rs).length) (hnc : n ≤ c) (hn3 : n ≤ 30000000) (hcc : c ≤ 9223372036854775807) (had : 0 < n → ad = some ⟨b, o', none⟩ ∧ b < w.heap.size) (hc : ∀ j d, j < n → (flat rs)[j]? = some d → w.cell? ⟨b, o' + j, none⟩ = some (B8 d))
    (hsh : Shapes w bs os shs) (hs : shs.length ≤ 1000) (ok : ∀ r ∈ rs, r.Ok shs) :
    Calls Tryz.prog 89 #[.pointer (some ⟨p, o, none⟩), .slice ad n c, .slice (some ⟨bs, os, none⟩) shs.length cs, .func (.func 93) #[recv] #[]] w fun e w' => ∃ k w2, e = .returned (.bool true) ∧ k ≤ rs.length ∧ off rs k ≤ n ∧ (∀ h : k < rs.length, n < off rs k + rs[k].bytes.length) ∧ Bl w w2 ∧ J w2 k w' := by
  have HS := hid (split_any ad b o' c n bs os cs rs shs w hn hnc (by omega) hcc had hc hsh hs ok)
  have D := hid hD
  have HJ := hid hJ0
  have Ok := hid ok
  clear hn had hc hsh hs ok hD hJ0
  go_enter Tryz.func89, Tryz.ntmps89
  go_wp2_with fail
  refine HS.out.mono ?_
  rintro e w2 ⟨k, v, xs, rfl, hk, hoff, hnext, hR, hbl⟩
  have hlen : (rs.take k).length = k := by simp; omega
  have HR := hid hR
  have HB := hid hbl
  have Hn := hid hnext
  have Hkl := hid hk
  have Hoff := hid hoff
  have k30 : k ≤ 10000000 := by have := off_ge rs k hk; omega
  obtain ⟨va, vc, ev⟩ : ∃ a c, v = .slice a k c := by
    rcases hR.own.2 with ⟨e1, e2⟩ | ⟨g, cap, cur, e1, _⟩
    · exact ⟨none, 0, by rw [e1]; congr 1; omega⟩
    · exact ⟨_, cap, by rw [e1, hlen]⟩
  subst ev
  clear hR hbl hnext hk hoff HS
  have k31 : ((k : Nat) : Int) ≤ 10000000 := by omega
  go_wp2
  go_loopw [22] (fun i wr => ∃ j : Nat, j ≤ k ∧ i = .int .i64 j ∧ Hid (J w2 j wr)) (fun i _ => k - (intOf i).toNat)
  case atStart => exact ⟨0, Nat.zero_le _, rfl, HJ.out w2 HB.out⟩
  case round =>
    obtain ⟨j, hj, rfl, HJj⟩ := hrel
    by_cases hlt : j < k
    · have hjr : j < rs.length := Nat.lt_of_lt_of_le hlt Hkl.out
      have hjt : j < (rs.take k).length := by omega
      have hrt : (rs.take k)[j] = rs[j] := by simp
      have hRr : Recs w.heap.size wr _ _ _ := HR.out.only2 (D.out.only HJj.out) (D.out.safe HJj.out)
      obtain ⟨g, cap, ev2⟩ : ∃ g cap, va = some ⟨g, 0, none⟩ ∧ vc = cap := by
        rcases hRr.own.2 with ⟨e1, e2⟩ | ⟨g, cap, cur, e1, _⟩
        · exact absurd e2 (by omega)
        · injection e1 with h1 h2 h3
          exact ⟨g, cap, h1, h3⟩
      obtain ⟨rfl, rfl⟩ := ev2
      have lg : g < wr.heap.size := (hRr.own.lt g rfl).2
      have ho : wr.ownsRow w.heap.size 170 3 (.slice (some ⟨g, 0, none⟩) k vc) k xs := by have := hRr.own; rw [hlen] at this; exact this
      have q0 : wr.cell? ⟨g, 3 * j, none⟩ = xs[3 * j]? := ho.cellAt (3 * j) (by omega)
      have q1 : wr.cell? ⟨g, 3 * j + 1, none⟩ = xs[3 * j + 1]? := ho.cellAt (3 * j + 1) (by omega)
      have q2 : wr.cell? ⟨g, 3 * j + 2, none⟩ = xs[3 * j + 2]? := ho.cellAt (3 * j + 2) (by omega)
      rw [hRr.kd j hjt, hrt] at q0
      obtain ⟨nv, e1, hnv⟩ := hRr.ns j hjt
      obtain ⟨vv, e2, hvv⟩ := hRr.val j hjt
      rw [hrt] at hnv hvv
      rw [e1] at q1
      rw [e2] at q2
      have Hnv := hid hnv
      have Hvv := hid hvv
      obtain ⟨v0, B0, cP, hP⟩ := D.out.img HJj.out (by omega)
      obtain ⟨ia, ic, ei⟩ : ∃ a c, v0 = .slice a (off rs j) c := by
        obtain ⟨a', c', e'⟩ := (ownsRow_sl hP).len
        rw [ownsRow_len hP] at e'
        exact ⟨a', c', e'⟩
      subst ei
      have lp : p < wr.heap.size := by
        exact Nat.lt_of_lt_of_le (D.out.plt HJj.out) (D.out.only HJj.out).size
      obtain ⟨na, nc, en⟩ : ∃ a c, nv = .slice a rs[j].ns.length c := by
        obtain ⟨a', c', e'⟩ := (ownsRow_sl hnv).len
        rw [ownsRow_len hnv] at e'
        exact ⟨a', c', e'⟩
      obtain ⟨wa, wc, ew⟩ : ∃ a c, vv = .slice a rs[j].val.length c := by
        obtain ⟨a', c', e'⟩ := (ownsRow_sl hvv).len
        rw [ownsRow_len hvv] at e'
        exact ⟨a', c', e'⟩
      have hvb : Hid (∀ g, vv.ownBlock = some g → g < w2.heap.size) := by
        obtain ⟨vv', e3, hvv'⟩ := HR.out.val j hjt
        obtain rfl : vv' = vv := Option.some.inj (e3.symm.trans e2)
        exact fun g hg => (hvv'.lt g hg).2
      have Hnv3 : Hid (∀ W, Only (fun b => b = p ∨ b = bm) w2 W → W.ownsRow w.heap.size 3 1 nv rs[j].ns.length (rs[j].ns.map (Value.int .i64))) := by
        obtain ⟨nv', e3, hnv'⟩ := HR.out.ns j hjt
        obtain rfl : nv' = nv := Option.some.inj (e3.symm.trans e1)
        rw [hrt] at hnv'
        exact fun W hW => hW.owns hnv' fun b hb e' => by
          obtain ⟨c1, hc1⟩ := own_type hnv' b hb
          exact (D.out.safe HJj.out b _ _ _ e' hc1).2.1 rfl
      have Hvv3 : Hid (∀ W, Only (fun b => b = p ∨ b = bm) w2 W → W.ownsRow w.heap.size 5 1 vv rs[j].val.length (rs[j].val.map B8)) := by
        obtain ⟨nv', e3, hnv'⟩ := HR.out.val j hjt
        obtain rfl : nv' = vv := Option.some.inj (e3.symm.trans e2)
        rw [hrt] at hnv'
        exact fun W hW => hW.owns hnv' fun b hb e' => by
          obtain ⟨c1, hc1⟩ := own_type hnv' b hb
          exact (D.out.safe HJj.out b _ _ _ e' hc1).2.2 rfl
      have Hst := hid (fun W => D.out.step (w2 := w2) (W := W) (j := j) nv vv hjr)
      have hkd := (Ok.out _ (List.getElem_mem hjr)).k0
      have hkd1 := (Ok.out _ (List.getElem_mem hjr)).k1
      have hnl1 := (Ok.out _ (List.getElem_mem hjr)).n1
      have hvl1 := (Ok.out _ (List.getElem_mem hjr)).v1
      have hoj := off_succ rs j hjr
      have htk : Hid (flat (rs.take (j + 1)) = flat (rs.take j) ++ rs[j].bytes) := by
        unfold Hid
        rw [List.take_succ_eq_append_getElem hjr, flat_append]; simp [flat]
      subst en ew
      have hrb := rs[j].len
      have hbb : rs[j].bytes = recB rs[j].kd rs[j].ns rs[j].val := rfl
      generalize rs[j] = r at *
      obtain ⟨rk, rn, rv⟩ := r
      simp only at *
      clear hnv hvv e1 e2 hRr ho hrt hjt
      rw [Nat.mul_comm 3 j] at q0 q1 q2
      have HBX := hid (heap_alloc_new wr (.cells #[.int .i64 rk, .slice na rn.length nc, .slice wa rv.length wc] 170))
      have bX := hid ((Bl.refl wr).alloc (.cells #[.int .i64 rk, .slice na rn.length nc, .slice wa rv.length wc] 170))
      have HC := hid (Hst.out _ (D.out.bl HJj.out bX.out) ((Only.of_bl (S := fun _ => False) bX.out).owns Hnv.out fun _ _ e => e) ((Only.of_bl (S := fun _ => False) bX.out).owns Hvv.out fun _ _ e => e) hvb.out)
      go_wp2_with fail
      refine HC.out.mono ?_
      rintro e w3 ⟨rfl, hJ3, S, hO3, hS3⟩
      have hbox := (hO3.block wr.heap.size (by simp) (hS3 _ _ _ HBX.out)).trans HBX.out
      have HJ3 := hid hJ3
      have lbx : wr.heap.size < w3.heap.size := (Array.getElem?_eq_some_iff.1 hbox).1
      have x0 : w3.cell? ⟨wr.heap.size, 0, none⟩ = some (.int .i64 rk) := by rw [cell_of_row _ _ 0 _ 170 (0, 0) hbox]; rfl
      have x1 : w3.cell? ⟨wr.heap.size, 1, none⟩ = some (.slice na rn.length nc) := by rw [cell_of_row _ _ 1 _ 170 (0, 0) hbox]; rfl
      have x2 : w3.cell? ⟨wr.heap.size, 2, none⟩ = some (.slice wa rv.length wc) := by rw [cell_of_row _ _ 2 _ 170 (0, 0) hbox]; rfl
      obtain ⟨v3, B3, cP3, hP3⟩ := D.out.img hJ3 (by omega)
      obtain ⟨g3, cap3, e3⟩ := own_shape hP3 (by omega)
      subst e3
      have l3 : g3 < w3.heap.size := (hP3.lt g3 rfl).2
      have lp3 : p < w3.heap.size := Nat.lt_of_lt_of_le lp (Nat.le_trans bX.out.lt hO3.size)
      have hcap := (ownsRow_cap hP3)
      have HP3 := hid hP3
      have o2 := D.out.only HJj.out
      have o3 := D.out.only hJ3
      have hN3 := hid (Hnv3.out w3 o3)
      have hV3 := hid (Hvv3.out w3 o3)
      have hL : off rs (j + 1) - off rs j = (recB rk rn rv).length := by rw [← hbb]; omega
      have HA : Hid (∀ W, Bl w3 W → Calls Tryz.prog 112 #[.agg #[.int .i64 rk, .slice na rn.length nc, .slice wa rv.length wc], .slice none 0 0] W fun e w5 => ∃ a5 c5, e = .returned (.slice a5 (recB rk rn rv).length c5) ∧ Bl w3 w5 ∧ Sl w5 (.slice a5 (recB rk rn rv).length c5) ((recB rk rn rv).map B8)) := by
        intro W hW
        refine (recAppend_any W.heap.size (.slice none 0 0) 0 [] rk (.slice na rn.length nc) (.slice wa rv.length wc) rn rv W (World.ownsRow_nil _ _ _ _) (Nat.le_refl _) (by omega) ((ownsRow_bs hN3.out).bl hW) ((ownsRow_bs hV3.out).bl hW) hkd hkd1 hnl1 hvl1 (fun b e => by simp [Value.ownBlock] at e) (fun b e => by simp [Value.ownBlock] at e) (fun b e => Nat.lt_of_lt_of_le (hN3.out.lt b e).2 hW.lt) (fun b e => Nat.lt_of_lt_of_le (hV3.out.lt b e).2 hW.lt)).mono ?_
        rintro e w5 ⟨v5, rfl, hG⟩
        have ho5 := hG.own
        rw [Nat.zero_add, List.nil_append] at ho5
        obtain ⟨a5, c5, e5⟩ := (ownsRow_sl ho5).len
        rw [List.length_map] at e5
        subst e5
        exact ⟨a5, c5, rfl, hW.trans (hG.only.to_bl fun b _ e => by simp [Value.ownBlock] at e), ownsRow_sl ho5⟩
      have HE : Hid (∀ W, Bl w3 W → Sl W (.slice (some ⟨g3, off rs j, none⟩) (recB rk rn rv).length (cap3 - off rs j)) ((recB rk rn rv).map B8)) := by
        intro W hW
        refine .inr ⟨g3, off rs j, cap3 - off rs j, by simp, Nat.lt_of_lt_of_le l3 hW.lt, fun i hi => ?_⟩
        rw [List.length_map] at hi
        rw [hW.cell l3, HP3.out.cellAt (off rs j + i) (by omega), htk.out, List.map_append, List.getElem?_append_right (by simp [off]), hbb]
        simp [off]
        exact ⟨_, List.getElem?_eq_getElem hi, rfl⟩
      have m0 : ((off rs j : Nat) : Int) ≤ ((off rs (j + 1) : Nat) : Int) := by omega
      have m1 : ((off rs (j + 1) : Nat) : Int) ≤ (cap3 : Int) := by omega
      have m2 : (0 : Int) ≤ ((off rs j : Nat) : Int) := by omega
      have m3 : (0 : Int) ≤ ((off rs (j + 1) : Nat) : Int) := by omega
      have m4 : ((off rs j : Nat) : Int) ≤ (cap3 : Int) := by omega
      have m5 : off rs j ≤ off rs (j + 1) := by omega
      clear hJ3 hO3 hS3 hbox hP3 HC htk o2 o3 cP q0 q1 q2
      generalize recB rk rn rv = by3 at *
      go_wp2_with fail
      go_region_held (fun W => W.cell? ⟨p, o, none⟩ = some (.slice (some ⟨g3, 0, none⟩) (off rs (j + 1)) cap3) ∧ W.cell? ⟨wr.heap.size, 0, none⟩ = some (.int .i64 rk) ∧ W.cell? ⟨wr.heap.size, 1, none⟩ = some (.slice na rn.length nc) ∧ W.cell? ⟨wr.heap.size, 2, none⟩ = some (.slice wa rv.length wc)) (go_keep)
        (first
          | (go_at_call 112; refine (HA.out _ (by exact (Bl.refl _).drewN _)).mono ?_; rintro e w5 ⟨a5, c5, rfl, hb5, hs5⟩; have z0 := (hb5.cell (o := o) lp3).trans cP3; have z1 := (hb5.cell (o := 0) lbx).trans x0; have z2 := (hb5.cell (o := 1) lbx).trans x1; have z3 := (hb5.cell (o := 2) lbx).trans x2; have HB5 := hid hb5; have HS5 := hid hs5; clear hb5 hs5)
          | (go_at_call 105; refine (equal_any _ _ by3 _ (by exact HE.out _ HB5.out) (by exact HS5.out)).mono ?_; rintro e w6 ⟨rfl, rfl⟩))
      all_goals
        go_wp2
        go_roundw
        case rel => exact ⟨j + 1, by omega, by go_num, D.out.bl HJ3.out HB5.out⟩
        case measure => simp [intOf]; omega
    · obtain rfl : j = k := by omega
      go_wp2
      go_ret
      exact ⟨j, w2, rfl, Hkl.out, Hoff.out, Hn.out, HB.out, HJj.out⟩
end Go.Proofs.YtkgjpfamjedncaaGreat
