-- An image is opened: each record's call is done again.
-- The map of a voter: what it holds for each epoch.
-- What a voter keeps.
-- A promise and a vote are kept.
import Derived.Test.YtkgjpfamjedncaaGreatWriteAgainQ
import Derived.Maps.Own
import Derived.Maps.Views
namespace Go.Proofs.YtkgjpfamjedncaaGreat
open Go.RowKit
attribute [local go_sem ↓] Go.wp_at_zero Go.wp_at_succ

theorem ownsRow_cap {w : World} {base : Nat} {e : TypeId} {g n c : Nat} {xs : List Value} (h : w.ownsRow base e 1 (.slice (some ⟨g, 0, none⟩) n c) n xs) : n ≤ c := by
  rcases h.2 with ⟨h', _⟩ | ⟨g', cap', cur, h', _, _, hle, _⟩
  · simp at h'
  · injection h' with _ _ h3
    rw [h3]; exact hle

/-- What is kept while records are done again: w2 is the world in which they were read. -/
structure Doing (F : Nat) (recv : Value) (p o base : Nat) (rs : List Rc) (J : World → Nat → World → Prop) : Prop where
  img : ∀ {w2 W : World} {j : Nat}, J w2 j W → j ≤ rs.length → ∃ v B, W.cell? ⟨p, o, none⟩ = some v ∧ W.ownsRow B 5 1 v (off rs j) ((flat (rs.take j)).map B8)
  blk : ∀ {w2 W : World} {j : Nat}, J w2 j W → ∃ cs t, w2.heap[p]? = some (.cells cs t (0, 0)) ∧ t ≠ 170 ∧ t ≠ 3 ∧ t ≠ 5
  only : ∀ {w2 W : World} {j : Nat}, J w2 j W → Only (fun b => b = p) w2 W
  bl : ∀ {w2 W W' : World} {j : Nat}, J w2 j W → Bl W W' → J w2 j W'
  step : ∀ {w2 W : World} {j : Nat} (nv vv : Value) (h : j < rs.length), J w2 j W → W.ownsRow base 3 1 nv rs[j].ns.length (rs[j].ns.map (Value.int .i64)) → W.ownsRow base 5 1 vv rs[j].val.length (rs[j].val.map B8) → (∀ g, vv.ownBlock = some g → g < w2.heap.size) →
    Calls Tryz.prog F #[recv, .agg #[.int .i64 rs[j].kd, nv, vv]] W fun e W' => e = .returned (.tuple #[]) ∧ J w2 (j + 1) W' ∧ ∃ S, Only S W W' ∧ ∀ x cs f, W.heap[x]? = some (.cells cs 170 f) → ¬ S x

set_option maxRecDepth 100000 in
set_option maxHeartbeats 4000000 in
theorem imgOpen_any (recv : Value) (p o : Nat) (ad : Option Addr) (b o' c n bs os cs : Nat) (rs : List Rc) (shs : List (Int × Int × Int)) (w : World) (J : World → Nat → World → Prop) (hD : Doing 91 recv p o w.heap.size rs J) (hJ0 : ∀ w2, Bl w w2 → J w2 0 w2)
    (hn : n ≤ (flat rs).length) (hnc : n ≤ c) (hn3 : n ≤ 30000000) (hcc : c ≤ 9223372036854775807) (had : 0 < n → ad = some ⟨b, o', none⟩ ∧ b < w.heap.size) (hc : ∀ j d, j < n → (flat rs)[j]? = some d → w.cell? ⟨b, o' + j, none⟩ = some (B8 d))
    (hsh : Shapes w bs os shs) (hs : shs.length ≤ 1000) (ok : ∀ r ∈ rs, r.Ok shs) :
    Calls Tryz.prog 89 #[.pointer (some ⟨p, o, none⟩), .slice ad n c, .slice (some ⟨bs, os, none⟩) shs.length cs, .func (.func 91) #[recv] #[]] w fun e w' => ∃ k w2, e = .returned (.bool true) ∧ k ≤ rs.length ∧ off rs k ≤ n ∧ (∀ h : k < rs.length, n < off rs k + rs[k].bytes.length) ∧ Bl w w2 ∧ J w2 k w' := by
  have HS := hid (split_any ad b o' c n bs os cs rs shs w hn hnc (by omega) hcc had hc hsh hs ok)
  have D := hid hD
  have HJ := hid hJ0
  have Ok := hid ok
  clear hn had hc hsh hs ok hD hJ0
  go_enter Tryz.func89, Tryz.ntmps89
  go_wp2_with fail
  refine HS.out.mono ?_
  rintro e w2 ⟨k, v, xs, rfl, hk, hoff, hnext, hR, hbl⟩
  have hlen : (rs.take k).length = k := by simp; omega
  have HR := hid hR
  have HB := hid hbl
  have Hn := hid hnext
  have Hkl := hid hk
  have Hoff := hid hoff
  have k30 : k ≤ 10000000 := by have := off_ge rs k hk; omega
  obtain ⟨va, vc, ev⟩ : ∃ a c, v = .slice a k c := by
    rcases hR.own.2 with ⟨e1, e2⟩ | ⟨g, cap, cur, e1, _⟩
    · exact ⟨none, 0, by rw [e1]; congr 1; omega⟩
    · exact ⟨_, cap, by rw [e1, hlen]⟩
  subst ev
  clear hR hbl hnext hk hoff HS
  have k31 : ((k : Nat) : Int) ≤ 10000000 := by omega
  go_wp2
  go_loopw [22] (fun i wr => ∃ j : Nat, j ≤ k ∧ i = .int .i64 j ∧ Hid (J w2 j wr)) (fun i _ => k - (intOf i).toNat)
  case atStart => exact ⟨0, Nat.zero_le _, rfl, HJ.out w2 HB.out⟩
  case round =>
    obtain ⟨j, hj, rfl, HJj⟩ := hrel
    by_cases hlt : j < k
    · have hjr : j < rs.length := Nat.lt_of_lt_of_le hlt Hkl.out
      have hjt : j < (rs.take k).length := by omega
      have hrt : (rs.take k)[j] = rs[j] := by simp
      have hRr : Recs w.heap.size wr _ _ _ := HR.out.only (D.out.only HJj.out) fun x hx e _ => by
        obtain ⟨cs', t, h1, h2⟩ := D.out.blk HJj.out
        subst e
        exact ⟨cs', t, _, h1, h2⟩
      obtain ⟨g, cap, ev2⟩ : ∃ g cap, va = some ⟨g, 0, none⟩ ∧ vc = cap := by
        rcases hRr.own.2 with ⟨e1, e2⟩ | ⟨g, cap, cur, e1, _⟩
        · exact absurd e2 (by omega)
        · injection e1 with h1 h2 h3
          exact ⟨g, cap, h1, h3⟩
      obtain ⟨rfl, rfl⟩ := ev2
      have lg : g < wr.heap.size := (hRr.own.lt g rfl).2
      have ho : wr.ownsRow w.heap.size 170 3 (.slice (some ⟨g, 0, none⟩) k vc) k xs := by have := hRr.own; rw [hlen] at this; exact this
      have q0 : wr.cell? ⟨g, 3 * j, none⟩ = xs[3 * j]? := ho.cellAt (3 * j) (by omega)
      have q1 : wr.cell? ⟨g, 3 * j + 1, none⟩ = xs[3 * j + 1]? := ho.cellAt (3 * j + 1) (by omega)
      have q2 : wr.cell? ⟨g, 3 * j + 2, none⟩ = xs[3 * j + 2]? := ho.cellAt (3 * j + 2) (by omega)
      rw [hRr.kd j hjt, hrt] at q0
      obtain ⟨nv, e1, hnv⟩ := hRr.ns j hjt
      obtain ⟨vv, e2, hvv⟩ := hRr.val j hjt
      rw [hrt] at hnv hvv
      rw [e1] at q1
      rw [e2] at q2
      have Hnv := hid hnv
      have Hvv := hid hvv
      obtain ⟨v0, B0, cP, hP⟩ := D.out.img HJj.out (by omega)
      obtain ⟨ia, ic, ei⟩ : ∃ a c, v0 = .slice a (off rs j) c := by
        obtain ⟨a', c', e'⟩ := (ownsRow_sl hP).len
        rw [ownsRow_len hP] at e'
        exact ⟨a', c', e'⟩
      subst ei
      have lp : p < wr.heap.size := by
        obtain ⟨cs', t, h1, _⟩ := D.out.blk HJj.out
        exact Nat.lt_of_lt_of_le (Array.getElem?_eq_some_iff.1 h1).1 (D.out.only HJj.out).size
      obtain ⟨na, nc, en⟩ : ∃ a c, nv = .slice a rs[j].ns.length c := by
        obtain ⟨a', c', e'⟩ := (ownsRow_sl hnv).len
        rw [ownsRow_len hnv] at e'
        exact ⟨a', c', e'⟩
      obtain ⟨wa, wc, ew⟩ : ∃ a c, vv = .slice a rs[j].val.length c := by
        obtain ⟨a', c', e'⟩ := (ownsRow_sl hvv).len
        rw [ownsRow_len hvv] at e'
        exact ⟨a', c', e'⟩
      have hvb : Hid (∀ g, vv.ownBlock = some g → g < w2.heap.size) := by
        obtain ⟨vv', e3, hvv'⟩ := HR.out.val j hjt
        obtain rfl : vv' = vv := Option.some.inj (e3.symm.trans e2)
        exact fun g hg => (hvv'.lt g hg).2
      have Hnv3 : Hid (∀ W, Only (fun b => b = p) w2 W → W.ownsRow w.heap.size 3 1 nv rs[j].ns.length (rs[j].ns.map (Value.int .i64))) := by
        obtain ⟨nv', e3, hnv'⟩ := HR.out.ns j hjt
        obtain rfl : nv' = nv := Option.some.inj (e3.symm.trans e1)
        rw [hrt] at hnv'
        obtain ⟨cs', t, h1, _, h3, _⟩ := D.out.blk HJj.out
        exact fun W hW => hW.owns hnv' fun b hb e' => own_ne_block hnv' h1 (Ne.symm h3) (by rw [hb, e'])
      have Hvv3 : Hid (∀ W, Only (fun b => b = p) w2 W → W.ownsRow w.heap.size 5 1 vv rs[j].val.length (rs[j].val.map B8)) := by
        obtain ⟨nv', e3, hnv'⟩ := HR.out.val j hjt
        obtain rfl : nv' = vv := Option.some.inj (e3.symm.trans e2)
        rw [hrt] at hnv'
        obtain ⟨cs', t, h1, _, _, h3⟩ := D.out.blk HJj.out
        exact fun W hW => hW.owns hnv' fun b hb e' => own_ne_block hnv' h1 (Ne.symm h3) (by rw [hb, e'])
      have Hst := hid (fun W => D.out.step (w2 := w2) (W := W) (j := j) nv vv hjr)
      have hkd := (Ok.out _ (List.getElem_mem hjr)).k0
      have hkd1 := (Ok.out _ (List.getElem_mem hjr)).k1
      have hnl1 := (Ok.out _ (List.getElem_mem hjr)).n1
      have hvl1 := (Ok.out _ (List.getElem_mem hjr)).v1
      have hoj := off_succ rs j hjr
      have htk : Hid (flat (rs.take (j + 1)) = flat (rs.take j) ++ rs[j].bytes) := by
        unfold Hid
        rw [List.take_succ_eq_append_getElem hjr, flat_append]; simp [flat]
      subst en ew
      have hrb := rs[j].len
      have hbb : rs[j].bytes = recB rs[j].kd rs[j].ns rs[j].val := rfl
      generalize rs[j] = r at *
      obtain ⟨rk, rn, rv⟩ := r
      simp only at *
      clear hnv hvv e1 e2 hRr ho hrt hjt
      rw [Nat.mul_comm 3 j] at q0 q1 q2
      have HBX := hid (heap_alloc_new wr (.cells #[.int .i64 rk, .slice na rn.length nc, .slice wa rv.length wc] 170))
      have bX := hid ((Bl.refl wr).alloc (.cells #[.int .i64 rk, .slice na rn.length nc, .slice wa rv.length wc] 170))
      have HC := hid (Hst.out _ (D.out.bl HJj.out bX.out) ((Only.of_bl (S := fun _ => False) bX.out).owns Hnv.out fun _ _ e => e) ((Only.of_bl (S := fun _ => False) bX.out).owns Hvv.out fun _ _ e => e) hvb.out)
      go_wp2_with fail
      refine HC.out.mono ?_
      rintro e w3 ⟨rfl, hJ3, S, hO3, hS3⟩
      have hbox := (hO3.block wr.heap.size (by simp) (hS3 _ _ _ HBX.out)).trans HBX.out
      have HJ3 := hid hJ3
      have lbx : wr.heap.size < w3.heap.size := (Array.getElem?_eq_some_iff.1 hbox).1
      have x0 : w3.cell? ⟨wr.heap.size, 0, none⟩ = some (.int .i64 rk) := by rw [cell_of_row _ _ 0 _ 170 (0, 0) hbox]; rfl
      have x1 : w3.cell? ⟨wr.heap.size, 1, none⟩ = some (.slice na rn.length nc) := by rw [cell_of_row _ _ 1 _ 170 (0, 0) hbox]; rfl
      have x2 : w3.cell? ⟨wr.heap.size, 2, none⟩ = some (.slice wa rv.length wc) := by rw [cell_of_row _ _ 2 _ 170 (0, 0) hbox]; rfl
      obtain ⟨v3, B3, cP3, hP3⟩ := D.out.img hJ3 (by omega)
      obtain ⟨g3, cap3, e3⟩ := own_shape hP3 (by omega)
      subst e3
      have l3 : g3 < w3.heap.size := (hP3.lt g3 rfl).2
      have lp3 : p < w3.heap.size := Nat.lt_of_lt_of_le lp (Nat.le_trans bX.out.lt hO3.size)
      have hcap := (ownsRow_cap hP3)
      have HP3 := hid hP3
      have o2 := D.out.only HJj.out
      have o3 := D.out.only hJ3
      have hN3 := hid (Hnv3.out w3 o3)
      have hV3 := hid (Hvv3.out w3 o3)
      have hL : off rs (j + 1) - off rs j = (recB rk rn rv).length := by rw [← hbb]; omega
      have HA : Hid (∀ W, Bl w3 W → Calls Tryz.prog 112 #[.agg #[.int .i64 rk, .slice na rn.length nc, .slice wa rv.length wc], .slice none 0 0] W fun e w5 => ∃ a5 c5, e = .returned (.slice a5 (recB rk rn rv).length c5) ∧ Bl w3 w5 ∧ Sl w5 (.slice a5 (recB rk rn rv).length c5) ((recB rk rn rv).map B8)) := by
        intro W hW
        refine (recAppend_any W.heap.size (.slice none 0 0) 0 [] rk (.slice na rn.length nc) (.slice wa rv.length wc) rn rv W (World.ownsRow_nil _ _ _ _) (Nat.le_refl _) (by omega) ((ownsRow_bs hN3.out).bl hW) ((ownsRow_bs hV3.out).bl hW) hkd hkd1 hnl1 hvl1 (fun b e => by simp [Value.ownBlock] at e) (fun b e => by simp [Value.ownBlock] at e) (fun b e => Nat.lt_of_lt_of_le (hN3.out.lt b e).2 hW.lt) (fun b e => Nat.lt_of_lt_of_le (hV3.out.lt b e).2 hW.lt)).mono ?_
        rintro e w5 ⟨v5, rfl, hG⟩
        have ho5 := hG.own
        rw [Nat.zero_add, List.nil_append] at ho5
        obtain ⟨a5, c5, e5⟩ := (ownsRow_sl ho5).len
        rw [List.length_map] at e5
        subst e5
        exact ⟨a5, c5, rfl, hW.trans (hG.only.to_bl fun b _ e => by simp [Value.ownBlock] at e), ownsRow_sl ho5⟩
      have HE : Hid (∀ W, Bl w3 W → Sl W (.slice (some ⟨g3, off rs j, none⟩) (recB rk rn rv).length (cap3 - off rs j)) ((recB rk rn rv).map B8)) := by
        intro W hW
        refine .inr ⟨g3, off rs j, cap3 - off rs j, by simp, Nat.lt_of_lt_of_le l3 hW.lt, fun i hi => ?_⟩
        rw [List.length_map] at hi
        rw [hW.cell l3, HP3.out.cellAt (off rs j + i) (by omega), htk.out, List.map_append, List.getElem?_append_right (by simp [off]), hbb]
        simp [off]
        exact ⟨_, List.getElem?_eq_getElem hi, rfl⟩
      have m0 : ((off rs j : Nat) : Int) ≤ ((off rs (j + 1) : Nat) : Int) := by omega
      have m1 : ((off rs (j + 1) : Nat) : Int) ≤ (cap3 : Int) := by omega
      have m2 : (0 : Int) ≤ ((off rs j : Nat) : Int) := by omega
      have m3 : (0 : Int) ≤ ((off rs (j + 1) : Nat) : Int) := by omega
      have m4 : ((off rs j : Nat) : Int) ≤ (cap3 : Int) := by omega
      have m5 : off rs j ≤ off rs (j + 1) := by omega
      clear hJ3 hO3 hS3 hbox hP3 HC htk o2 o3 cP q0 q1 q2
      generalize recB rk rn rv = by3 at *
      go_wp2_with fail
      go_region_held (fun W => W.cell? ⟨p, o, none⟩ = some (.slice (some ⟨g3, 0, none⟩) (off rs (j + 1)) cap3) ∧ W.cell? ⟨wr.heap.size, 0, none⟩ = some (.int .i64 rk) ∧ W.cell? ⟨wr.heap.size, 1, none⟩ = some (.slice na rn.length nc) ∧ W.cell? ⟨wr.heap.size, 2, none⟩ = some (.slice wa rv.length wc)) (go_keep)
        (first
          | (go_at_call 112; refine (HA.out _ (by exact (Bl.refl _).drewN _)).mono ?_; rintro e w5 ⟨a5, c5, rfl, hb5, hs5⟩; have z0 := (hb5.cell (o := o) lp3).trans cP3; have z1 := (hb5.cell (o := 0) lbx).trans x0; have z2 := (hb5.cell (o := 1) lbx).trans x1; have z3 := (hb5.cell (o := 2) lbx).trans x2; have HB5 := hid hb5; have HS5 := hid hs5; clear hb5 hs5)
          | (go_at_call 105; refine (equal_any _ _ by3 _ (by exact HE.out _ HB5.out) (by exact HS5.out)).mono ?_; rintro e w6 ⟨rfl, rfl⟩))
      all_goals
        go_wp2
        go_roundw
        case rel => exact ⟨j + 1, by omega, by go_num, D.out.bl HJ3.out HB5.out⟩
        case measure => simp [intOf]; omega
    · obtain rfl : j = k := by omega
      go_wp2
      go_ret
      exact ⟨j, w2, rfl, Hkl.out, Hoff.out, Hn.out, HB.out, HJj.out⟩
end Go.Proofs.YtkgjpfamjedncaaGreat

namespace Go.Proofs.YtkgjpfamjedncaaGreat
open Go.RowKit Go.Maps

/-- An element reads as itself. -/
def Rv : Value → Option (DataW Value × List MemPlace) := fun v => some (.held v, [])
def ep0 : Value := .agg #[.int .i64 0, .int .i64 0, .slice none 0 0]
theorem zero92 (w : World) : (zeroValue 155).run Tryz.prog w = .ok ep0 w := by kernel_rfl
theorem key3 : Keyed Tryz.prog 3 := int_keyed Tryz.underlying3

/-- Block b is a map of at most n entries that holds M. -/
def Mp (w : World) (b n : Nat) (M : Int → Value) : Prop :=
  ∃ D : DataW Value, w.ownsMap Tryz.prog 3 Rv b n D ∧ IsMap D ∧ ∀ k, D.atKey (.int .i64 k) (.held ep0) = .held (M k)
def updM (M : Int → Value) (k : Int) (v : Value) : Int → Value := fun j => if j = k then v else M j

theorem Mp.lt {w : World} {b n : Nat} {M : Int → Value} (h : Mp w b n M) : b < w.heap.size := by
  obtain ⟨D, h1, _⟩ := h; exact h1.lt
theorem Mp.of_heap {w w' : World} {b n : Nat} {M : Int → Value} (h : Mp w b n M) (e : w'.heap[b]? = w.heap[b]?) : Mp w' b n M := by
  obtain ⟨D, ⟨es, clock, h1, h2⟩, h3⟩ := h
  exact ⟨D, ⟨es, clock, e.trans h1, h2⟩, h3⟩
theorem Mp.only {S : Nat → Prop} {w w' : World} {b n : Nat} {M : Int → Value} (h : Mp w b n M) (ho : Only S w w') (hs : ¬ S b) : Mp w' b n M := h.of_heap (ho.block b h.lt hs)
theorem Mp.bl {w w' : World} {b n : Nat} {M : Int → Value} (h : Mp w b n M) (hb : Bl w w') : Mp w' b n M := h.of_heap (hb.heap h.lt)
theorem Mp.mono {w : World} {b n n' : Nat} {M : Int → Value} (h : Mp w b n M) (hn : n ≤ n') : Mp w b n' M := by
  obtain ⟨D, h1, h2⟩ := h; exact ⟨D, h1.mono hn, h2⟩
theorem Mp.ne {w : World} {b n : Nat} {M : Int → Value} (h : Mp w b n M) {g : Nat} {cs : Array Value} {t : TypeId} {f : Nat × Nat} (hg : w.heap[g]? = some (.cells cs t f)) : g ≠ b := by
  rintro rfl
  obtain ⟨D, ⟨es, clock, h1, _⟩, _⟩ := h
  rw [hg] at h1; simp at h1
theorem Mp.ne_own {w : World} {b n : Nat} {M : Int → Value} (h : Mp w b n M) {base : Nat} {e : TypeId} {size : Nat} {v : Value} {k : Nat} {xs : List Value} (ho : w.ownsRow base e size v k xs) : v.ownBlock ≠ some b := by
  intro e'
  obtain ⟨c, hc⟩ := own_type ho b e'
  exact h.ne hc rfl

theorem Mp.made (w : World) : Mp (w.alloc (.map #[] 0)) w.heap.size 0 (fun _ => ep0) :=
  ⟨.map [], World.ownsMap_made w Tryz.prog 3 Rv, ⟨_, rfl⟩, fun _ => rfl⟩

theorem Mp.look {w : World} {b n : Nat} {M : Int → Value} (h : Mp w b n M) (k : Int) (hk : (Lit.int .i64 k).wf = true) : (Instr.lookup 128 (.map (some b)) (.int .i64 k) false).run Tryz.prog w = .ok (M k) w := by
  obtain ⟨D, h1, h2, h3⟩ := h
  obtain ⟨v, ps, hr, hv⟩ := h1.lookup (e := 155) key3 Tryz.underlying128 (zero92 w) (zd := .held ep0) (zp := []) rfl (keyOf_int_mk Tryz.underlying3 hk)
  rw [h3] at hv
  simp only [Rv, Option.some.injEq, Prod.mk.injEq, DataW.held.injEq] at hv
  rw [hr, hv.1]

theorem Mp.put {w : World} {b n : Nat} {M : Int → Value} (h : Mp w b n M) (k : Int) (hk : (Lit.int .i64 k).wf = true) (v : Value) (hn : n < maxLen) : ∃ w', (Instr.mapUpdate 128 (.map (some b)) (.int .i64 k) v).run Tryz.prog w = .ok () w' ∧ Mp w' b (n + 1) (updM M k v) ∧ Only (fun x => x = b) w w' := by
  obtain ⟨D, h1, h2, h3⟩ := h
  obtain ⟨w', hr, ho, hg⟩ := h1.update (e := 155) key3 Tryz.underlying128 hn (keyOf_int_mk Tryz.underlying3 hk) (val := v) (d := .held v) (ps := []) rfl
  refine ⟨w', hr, ⟨_, ho, ?_, fun j => ?_⟩, (Only.of_grown hg).mono fun x _ e => by simpa using e⟩
  · obtain ⟨es, rfl⟩ := h2
    exact ⟨_, rfl⟩
  · unfold updM
    by_cases e : j = k
    · subst e
      rw [if_pos rfl, atKey_put_same h2 (key3.key (keyOf_int_mk Tryz.underlying3 hk))]
    · rw [if_neg e, atKey_put_other (by simpa using e), h3]
end Go.Proofs.YtkgjpfamjedncaaGreat

namespace Go.Proofs.YtkgjpfamjedncaaGreat
open Go.RowKit Go.Maps
attribute [local go_sem ↓] Go.wp_at_zero Go.wp_at_succ

structure Ep where
  pr : Int
  ba : Int
  val : List Int
def updE (E : Int → Ep) (k : Int) (s : Ep) : Int → Ep := fun j => if j = k then s else E j

/-- A voter: promises and votes, and its image. -/
structure Vs (base : Nat) (w : World) (p bm n : Nat) (E : Int → Ep) (img : List Int) (M : Int → Value) (vi : Value) (t : TypeId) : Prop where
  at' : w.heap[p]? = some (.cells #[.map (some bm), vi] t (0, 0))
  ty : t = 130 ∨ t = 132
  mp : Mp w bm n M
  ep : ∀ e, ∃ vv, M e = .agg #[.int .i64 (E e).pr, .int .i64 (E e).ba, vv] ∧ w.ownsRow base 5 1 vv (E e).val.length ((E e).val.map B8) ∧ ∀ g, vv.ownBlock = some g → vi.ownBlock ≠ some g
  own : w.ownsRow base 5 1 vi img.length (img.map B8)

theorem Vs.lt {base : Nat} {w : World} {p bm n : Nat} {E : Int → Ep} {img : List Int} {M : Int → Value} {vi : Value} {t : TypeId} (h : Vs base w p bm n E img M vi t) : p < w.heap.size := (Array.getElem?_eq_some_iff.1 h.at').1
theorem Vs.c0 {base : Nat} {w : World} {p bm n : Nat} {E : Int → Ep} {img : List Int} {M : Int → Value} {vi : Value} {t : TypeId} (h : Vs base w p bm n E img M vi t) : w.cell? ⟨p, 0, none⟩ = some (.map (some bm)) := by rw [cell_of_row w p 0 _ t (0, 0) h.at']; rfl
theorem Vs.c1 {base : Nat} {w : World} {p bm n : Nat} {E : Int → Ep} {img : List Int} {M : Int → Value} {vi : Value} {t : TypeId} (h : Vs base w p bm n E img M vi t) : w.cell? ⟨p, 1, none⟩ = some vi := by rw [cell_of_row w p 1 _ t (0, 0) h.at']; rfl
theorem Vs.pm {base : Nat} {w : World} {p bm n : Nat} {E : Int → Ep} {img : List Int} {M : Int → Value} {vi : Value} {t : TypeId} (h : Vs base w p bm n E img M vi t) : p ≠ bm := h.mp.ne h.at'
theorem Vs.own_ne {base : Nat} {w : World} {p bm n : Nat} {E : Int → Ep} {img : List Int} {M : Int → Value} {vi : Value} {t : TypeId} (h : Vs base w p bm n E img M vi t) {B : Nat} {v : Value} {k : Nat} {xs : List Value} (hv : w.ownsRow B 5 1 v k xs) : v.ownBlock ≠ some p := own_ne_block hv h.at' (by rcases h.ty with e | e <;> rw [e] <;> decide)
theorem Vs.only {S : Nat → Prop} {base : Nat} {w w' : World} {p bm n : Nat} {E : Int → Ep} {img : List Int} {M : Int → Value} {vi : Value} {t : TypeId} (h : Vs base w p bm n E img M vi t) (ho : Only S w w') (hs : ∀ b, S b → b ≠ p ∧ b ≠ bm ∧ ∀ cs f, w.heap[b]? ≠ some (.cells cs 5 f)) : Vs base w' p bm n E img M vi t := by
  have key : ∀ {v : Value} {k : Nat} {xs : List Value}, w.ownsRow base 5 1 v k xs → w'.ownsRow base 5 1 v k xs := fun hv => ho.owns hv fun b e hS => by
    obtain ⟨c, hc⟩ := own_type hv b e
    exact (hs b hS).2.2 _ _ hc
  refine ⟨(ho.block p h.lt fun e => (hs p e).1 rfl).trans h.at', h.ty, h.mp.only ho fun e => (hs bm e).2.1 rfl, fun e => ?_, key h.own⟩
  obtain ⟨vv, h1, h2, h3⟩ := h.ep e
  exact ⟨vv, h1, key h2, h3⟩
theorem Vs.bl {base : Nat} {w w' : World} {p bm n : Nat} {E : Int → Ep} {img : List Int} {M : Int → Value} {vi : Value} {t : TypeId} (h : Vs base w p bm n E img M vi t) (hb : Bl w w') : Vs base w' p bm n E img M vi t := h.only (Only.of_bl (S := fun _ => False) hb) fun _ e => e.elim

def thd : Value → Value
  | .agg a => (a.toList[2]?).getD (.slice none 0 0)
  | v => v
/-- The blocks of bytes that a voter has. -/
def Foot (M : Int → Value) (vi : Value) (g : Nat) : Prop := vi.ownBlock = some g ∨ ∃ e, (thd (M e)).ownBlock = some g
theorem Vs.foot_lt {base : Nat} {w : World} {p bm n : Nat} {E : Int → Ep} {img : List Int} {M : Int → Value} {vi : Value} {t : TypeId} (h : Vs base w p bm n E img M vi t) {g : Nat} (hg : Foot M vi g) : base ≤ g ∧ g < w.heap.size := by
  rcases hg with hg | ⟨e, hg⟩
  · exact h.own.lt g hg
  · obtain ⟨vv, k1, k2, _⟩ := h.ep e
    rw [k1] at hg
    exact k2.lt g hg
/-- A voter's call: what turns is its own, and what it has behind it was its own or is new. -/
structure Gone (p bm : Nat) (M : Int → Value) (vi : Value) (M' : Int → Value) (vi' : Value) (w w' : World) : Prop where
  only : Only (fun b => b = p ∨ b = bm ∨ vi.ownBlock = some b) w w'
  lies : ∀ g, Foot M' vi' g → Foot M vi g ∨ w.heap.size ≤ g
theorem Gone.pre {p bm : Nat} {M M' : Int → Value} {vi vi' : Value} {w W w' : World} (h : Gone p bm M vi M' vi' W w') (hb : Bl w W) : Gone p bm M vi M' vi' w w' :=
  ⟨(Only.of_bl hb).trans h.only, fun g hg => (h.lies g hg).imp id (Nat.le_trans hb.lt)⟩
theorem Gone.post {p bm : Nat} {M M' : Int → Value} {vi vi' : Value} {w w1 w' : World} (h : Gone p bm M vi M' vi' w w1) (hb : Bl w1 w') : Gone p bm M vi M' vi' w w' :=
  ⟨h.only.trans (Only.of_bl hb), h.lies⟩

/-- Behind a change of the map and a record. -/
theorem Vs.turn {base : Nat} {w W w2 w' : World} {p bm n : Nat} {E : Int → Ep} {img rec : List Int} {M : Int → Value} {vi vi' : Value} {t : TypeId} (h : Vs base w p bm n E img M vi t) (e : Int) (s : Ep) (vv : Value) {L : Nat} {xs : List Value}
    (hW : Bl w W) (hm : Only (fun x => x = bm) W w2) (hmp : Mp w2 bm (n + 1) (updM M e (.agg #[.int .i64 s.pr, .int .i64 s.ba, vv])))
    (hvv : W.ownsRow base 5 1 vv s.val.length (s.val.map B8)) (hap : ∀ g, vv.ownBlock = some g → vi.ownBlock ≠ some g) (hvl : ∀ g, vv.ownBlock = some g → Foot M vi g ∨ w.heap.size ≤ g)
    {w3 : World} (hb3 : Bl w2 w3) (hk : Kept base w3 w' p 1 vi vi' L xs) (hL : L = img.length + rec.length) (hx : xs = img.map B8 ++ rec.map B8) :
    Vs base w' p bm (n + 1) (updE E e s) (img ++ rec) (updM M e (.agg #[.int .i64 s.pr, .int .i64 s.ba, vv])) vi' t ∧ Gone p bm M vi (updM M e (.agg #[.int .i64 s.pr, .int .i64 s.ba, vv])) vi' w w' := by
  obtain ⟨W4, w5, hb4, hG, rfl⟩ := hk.ex
  have hv := h.bl hW
  have O3 : Only (fun b => b = bm) W W4 := hm.trans (Only.of_bl (hb3.trans hb4))
  have O5 : Only (fun b => b = bm ∨ vi.ownBlock = some b) W w5 := (O3.mono fun b _ e => .inl e).trans (hG.only.mono fun b _ e => .inr e)
  have hviP : vi.ownBlock ≠ some p := hv.own_ne hv.own
  have hP5 : w5.heap[p]? = some (.cells #[.map (some bm), vi] t (0, 0)) := (O5.block p hv.lt (by rintro (e | e); exact hv.pm e; exact hviP e)).trans hv.at'
  have OS : Only (fun b => b = p) w5 (w5.setCell ⟨p, 1, none⟩ vi') := (Only.refl (fun b => b = p) w5).setCell ⟨p, 1, none⟩ (.inl rfl) vi'
  have O6 : Only (fun b => b = p ∨ b = bm ∨ vi.ownBlock = some b) W (w5.setCell ⟨p, 1, none⟩ vi') := (O5.mono fun b _ e => .inr e).trans (OS.mono fun b _ e => .inl e)
  have keep : ∀ {v : Value} {k : Nat} {ys : List Value}, W.ownsRow base 5 1 v k ys → (∀ g, v.ownBlock = some g → vi.ownBlock ≠ some g) → (w5.setCell ⟨p, 1, none⟩ vi').ownsRow base 5 1 v k ys := fun hr ha => O6.owns hr fun b e hS => by
    rcases hS with rfl | rfl | hS
    · exact hv.own_ne hr e
    · exact hv.mp.ne_own hr e
    · exact ha b e hS
  have apart : ∀ {v : Value} {k : Nat} {ys : List Value}, W.ownsRow base 5 1 v k ys → (∀ g, v.ownBlock = some g → vi.ownBlock ≠ some g) → ∀ g, v.ownBlock = some g → vi'.ownBlock ≠ some g := fun hr ha g e e' => by
    rcases hG.lies g e' with e' | e'
    · exact ha g e e'
    · have := (hr.lt g e).2; have := O3.size; omega
  have hviB : vi.ownBlock ≠ some bm := hv.mp.ne_own hv.own
  refine ⟨⟨?_, h.ty, ?_, fun j => ?_, ?_⟩, (Only.of_bl hW).trans O6, fun g hg => ?_⟩
  rotate_left 4
  · rcases hg with hg | ⟨j, hg⟩
    · rcases hG.lies g hg with e' | e'
      · exact .inl (.inl e')
      · exact .inr (Nat.le_trans hW.lt (Nat.le_trans O3.size e'))
    · unfold updM at hg
      split at hg
      · exact hvl g hg
      · exact .inl (.inr ⟨j, hg⟩)
  · have := Go.heap_setCell_same w5 p 1 _ t vi' hP5
    exact this
  · refine ((hmp.bl (hb3.trans hb4)).only hG.only hviB).only OS (fun e => hv.pm e.symm)
  · unfold updM updE
    by_cases e1 : j = e
    · rw [if_pos e1, if_pos e1]
      exact ⟨vv, rfl, keep hvv hap, apart hvv hap⟩
    · rw [if_neg e1, if_neg e1]
      obtain ⟨u, h1, h2, h3⟩ := hv.ep j
      exact ⟨u, h1, keep h2 h3, apart h2 h3⟩
  · rw [List.length_append, List.map_append, ← hx, ← hL]
    exact OS.owns hG.own fun b e e' => own_ne_block hG.own hP5 (by rcases h.ty with e | e <;> rw [e] <;> decide) (by rw [e, e'])
end Go.Proofs.YtkgjpfamjedncaaGreat

namespace Go.Proofs.YtkgjpfamjedncaaGreat
open Go.RowKit Go.Maps
attribute [local go_sem ↓] Go.wp_at_zero Go.wp_at_succ

set_option maxRecDepth 100000 in
set_option maxHeartbeats 2000000 in
theorem promise_any (base p bm n : Nat) (E : Int → Ep) (img : List Int) (M : Int → Value) (vi : Value) (t : TypeId) (e b : Int) (w : World) (h : Vs base w p bm n E img M vi t) (hb : base ≤ w.heap.size) (hl : img.length ≤ 30000000) (hn : n ≤ 30000000) (he : (Lit.int .i64 e).wf = true) :
    Calls Tryz.prog 102 #[.pointer (some ⟨p, 0, none⟩), .int .i64 e, .int .i64 b] w fun en w' => ∃ M' vi', en = .returned (.tuple #[]) ∧ Vs base w' p bm (n + 1) (updE E e ⟨b, (E e).ba, (E e).val⟩) (img ++ recB 1 [e, b] []) M' vi' t ∧ Gone p bm M vi M' vi' w w' := by
  obtain ⟨vv, hM, hvv, hap⟩ := h.ep e
  obtain ⟨va, vc, rfl⟩ : ∃ a c, vv = .slice a (E e).val.length c := by
    obtain ⟨a', c', e'⟩ := (ownsRow_sl hvv).len
    rw [ownsRow_len hvv] at e'
    exact ⟨a', c', e'⟩
  have hp := h.lt
  have c0 := h.c0
  have hlook := h.mp.look e he
  rw [hM] at hlook
  have bA := hid ((Bl.refl w).alloc (.cells #[.int .i64 b, .int .i64 (E e).ba, .slice va (E e).val.length vc] 155))
  obtain ⟨w2, hput, hmp2, hO2⟩ := (h.mp.bl (bA.out.drew)).put e he (.agg #[.int .i64 b, .int .i64 (E e).ba, .slice va (E e).val.length vc]) (by unfold maxLen; omega)
  have H := hid h
  have HM := hid hmp2
  have HO := hid hO2
  have HV := hid hvv
  have HA := hid hap
  have HFM := hid hM
  clear h hmp2 hO2 hvv hap hM
  generalize hs : (E e).ba = eb at *
  generalize hv : (E e).val = ev at *
  have Hs := hid hs
  have Hv := hid hv
  clear hs hv
  go_enter Tryz.func102, Tryz.ntmps102
  go_wp2
  go_region
  have bB := hid ((Bl.refl w2).alloc (.cells #[.int .i64 e, .int .i64 b] 3))
  have HVW := hid (H.out.bl (bA.out.drew))
  have OW : Hid (Only (fun x => x = bm) (w.alloc (.cells #[.int .i64 b, .int .i64 eb, .slice va ev.length vc] 155)).drew (w2.alloc (.cells #[.int .i64 e, .int .i64 b] 3))) := HO.out.trans (Only.of_bl bB.out)
  have hP3 := (OW.out.block p HVW.out.lt HVW.out.pm).trans HVW.out.at'
  have hI3 := OW.out.owns HVW.out.own fun b' e1 e2 => HVW.out.mp.ne_own HVW.out.own (by rw [e1, e2])
  have hN : Bs (w2.alloc (.cells #[.int .i64 e, .int .i64 b] 3)) (.slice (some ⟨w2.heap.size, 0, none⟩) 2 2) ([e, b].map (Value.int .i64)) := bs_new w2 3 #[.int .i64 e, .int .i64 b] 2 rfl
  have l2 : w.heap.size ≤ w2.heap.size := Nat.le_trans bA.out.lt HO.out.size
  have HK := hid (keep_raw base p 1 _ t vi img.length (img.map B8) 1 (.slice (some ⟨w2.heap.size, 0, none⟩) 2 2) (.slice none 0 0) [e, b] [] _ hP3 rfl (by rcases H.out.ty with e | e <;> rw [e] <;> decide) hI3 (by simp; omega) hl hN (.inl ⟨rfl, rfl⟩) (by decide) (by decide) (by simp) (by simp) (fun g e1 e2 => by
    simp [Value.ownBlock] at e2
    have := (H.out.own.lt g e1).2
    omega) (fun g e e' => by simp [Value.ownBlock] at e') (fun g e => by simp [Value.ownBlock] at e; subst e; simp) (fun g e => by simp [Value.ownBlock] at e))
  clear hP3 hI3 hN
  go_wp2_with fail
  refine HK.out.mono ?_
  rintro en w' ⟨vi', rfl, hk⟩
  have R := hid (H.out.turn e ⟨b, eb, ev⟩ (.slice va ev.length vc) (bA.out.drew) HO.out HM.out ((Only.of_bl (S := fun _ => False) bA.out.drew).owns HV.out fun _ _ e => e) HA.out (fun g e1 => .inl (.inr ⟨e, by rw [HFM.out]; exact e1⟩)) bB.out hk rfl rfl)
  clear hk HK
  go_wp2
  go_end0
  exact ⟨_, _, rfl, R.out.1, R.out.2⟩

set_option maxRecDepth 100000 in
set_option maxHeartbeats 2000000 in
theorem vote_any (base p bm n : Nat) (E : Int → Ep) (img : List Int) (M : Int → Value) (vi : Value) (t : TypeId) (e b : Int) (v : Value) (ys : List Int) (w : World) (h : Vs base w p bm n E img M vi t) (hb : base ≤ w.heap.size) (hl : img.length ≤ 30000000) (hn : n ≤ 30000000) (he : (Lit.int .i64 e).wf = true)
    (hv : Bs w v (ys.map B8)) (hy : ys.length ≤ 255) (hvb : ∀ g, v.ownBlock = some g → g < w.heap.size ∧ vi.ownBlock ≠ some g ∧ g ≠ bm) :
    Calls Tryz.prog 106 #[.pointer (some ⟨p, 0, none⟩), .int .i64 e, .int .i64 b, v] w fun en w' => ∃ M' vi', en = .returned (.tuple #[]) ∧ Vs base w' p bm (n + 1) (updE E e ⟨b, b, ys⟩) (img ++ recB 2 [e, b] ys) M' vi' t ∧ Gone p bm M vi M' vi' w w' := by
  obtain ⟨va, vc, ev⟩ := hv.len
  rw [List.length_map] at ev
  subst ev
  have hp := h.lt
  have c0 := h.c0
  have H := hid h
  have Hv := hid hv
  have Hvb := hid hvb
  clear h hv hvb
  have HC : Hid (∀ W, Bl w W → Calls Tryz.prog 103 #[.slice va ys.length vc] W fun en w1 => ∃ ua uc w2, en = .returned (.slice ua ys.length uc) ∧ Bl w w1 ∧ w1.cell? ⟨p, 0, none⟩ = some (.map (some bm)) ∧ w1.ownsRow w.heap.size 5 1 (.slice ua ys.length uc) ys.length (ys.map B8) ∧ (Instr.mapUpdate 128 (.map (some bm)) (.int .i64 e) (.agg #[.int .i64 b, .int .i64 b, .slice ua ys.length uc])).run Tryz.prog w1 = .ok () w2 ∧ Mp w2 bm (n + 1) (updM M e (.agg #[.int .i64 b, .int .i64 b, .slice ua ys.length uc])) ∧ Only (fun x => x = bm) w1 w2) := by
    intro W hW
    refine (clone_any (.slice va ys.length vc) ys W (Hv.out.bl hW) (by omega)).mono ?_
    rintro en w1 ⟨u, rfl, hb1, hu⟩
    obtain ⟨ua, uc, rfl⟩ : ∃ a c, u = .slice a ys.length c := by
      obtain ⟨a', c', e'⟩ := (ownsRow_sl hu).len
      rw [ownsRow_len hu] at e'
      exact ⟨a', c', e'⟩
    have hB := hW.trans hb1
    obtain ⟨w2, hput, hmp2, hO2⟩ := (H.out.mp.bl hB).put e he (.agg #[.int .i64 b, .int .i64 b, .slice ua ys.length uc]) (by unfold maxLen; omega)
    exact ⟨ua, uc, w2, rfl, hB, (H.out.bl hB).c0, ownsRow_base hu fun g e => Nat.le_trans hW.lt (hu.lt g e).1, hput, hmp2, hO2⟩
  go_enter Tryz.func106, Tryz.ntmps106
  go_wp2
  go_region_with (go_at_call 103; refine (HC.out _ (by exact (Bl.refl _).drewN _)).mono ?_; rintro en w1 ⟨ua, uc, w2, rfl, hB, c1, hu, hput, hmp2, hO2⟩; have HB := hid hB; have HU := hid hu; have HM := hid hmp2; have HO := hid hO2; clear hB hu hmp2 hO2)
  all_goals
    have bB := hid ((Bl.refl w2).alloc (.cells #[.int .i64 e, .int .i64 b] 3))
    have HVW := hid (H.out.bl HB.out)
    have OW : Hid (Only (fun x => x = bm) w1 (w2.alloc (.cells #[.int .i64 e, .int .i64 b] 3))) := HO.out.trans (Only.of_bl bB.out)
    have hP3 := (OW.out.block p HVW.out.lt HVW.out.pm).trans HVW.out.at'
    have hI3 := OW.out.owns HVW.out.own fun b' e1 e2 => HVW.out.mp.ne_own HVW.out.own (by rw [e1, e2])
    have hV3 := (Hv.out.bl HB.out).only OW.out fun g e e' => (Hvb.out g e).2.2 e'
    have hN : Bs (w2.alloc (.cells #[.int .i64 e, .int .i64 b] 3)) (.slice (some ⟨w2.heap.size, 0, none⟩) 2 2) ([e, b].map (Value.int .i64)) := bs_new w2 3 #[.int .i64 e, .int .i64 b] 2 rfl
    have l2 : w.heap.size ≤ w2.heap.size := Nat.le_trans HB.out.lt HO.out.size
    have HK := hid (keep_raw base p 1 _ t vi img.length (img.map B8) 2 (.slice (some ⟨w2.heap.size, 0, none⟩) 2 2) (.slice va ys.length vc) [e, b] ys _ hP3 rfl (by rcases H.out.ty with e | e <;> rw [e] <;> decide) hI3 (by simp; omega) hl hN hV3 (by decide) (by decide) (by simp) hy (fun g e1 e2 => by
      simp [Value.ownBlock] at e2
      have := (H.out.own.lt g e1).2
      omega) (fun g e e' => (Hvb.out g e').2.1 e) (fun g e => by simp [Value.ownBlock] at e; subst e; simp) (fun g e => by have := (Hvb.out g e).1; simp; omega))
    clear hP3 hI3 hN hV3
    go_wp2_with fail
    refine HK.out.mono ?_
    rintro en w' ⟨vi', rfl, hk⟩
    have R := hid (H.out.turn e ⟨b, b, ys⟩ (.slice ua ys.length uc) HB.out HO.out HM.out (ownsRow_base HU.out fun g e => Nat.le_trans hb (HU.out.lt g e).1) (fun g e e' => by have := (HU.out.lt g e).1; have := (H.out.own.lt g e').2; omega) (fun g e => .inr (HU.out.lt g e).1) bB.out hk rfl rfl)
    clear hk HK
    go_wp2
    go_end0
    exact ⟨_, _, rfl, R.out.1, R.out.2⟩

set_option maxRecDepth 100000 in
set_option maxHeartbeats 400000 in
theorem refused_any (pr ba : Int) (a : Option Addr) (n c : Nat) (w : World) :
    Calls Tryz.prog 101 #[.agg #[.int .i64 pr, .int .i64 ba, .slice a n c]] w fun e w' => e = .returned (.agg #[.int .i64 6, .int .i64 pr, .int .i64 0, .slice none 0 0]) ∧ Bl w w' := by
  go_enter Tryz.func101, Tryz.ntmps101
  go_wp2
  exact bodyPost_ret (v := .agg #[.int .i64 6, .int .i64 pr, .int .i64 0, .slice none 0 0]) (by simp [results, Tryz.results101, go_sem]) rfl ⟨rfl, ((Bl.refl _).alloc _).alloc _⟩

set_option maxRecDepth 100000 in
set_option maxHeartbeats 400000 in
theorem mayBeVoted_any (a : Option Addr) (n c : Nat) (w : World) (hn : (n : Int) ≤ 9223372036854775807) :
    Calls Tryz.prog 104 #[.slice a n c] w fun e w' => e = .returned (.bool (decide (1 ≤ n ∧ n ≤ 255))) ∧ Bl w w' := by
  by_cases h1 : 1 ≤ n
  · by_cases h2 : n ≤ 255
    · have h1' : (1 : Int) ≤ (n : Int) := by omega
      have h2' : (n : Int) ≤ 255 := by omega
      go_enter Tryz.func104, Tryz.ntmps104
      go_wp2
      go_ret
      exact ⟨by rw [show decide (1 ≤ n ∧ n ≤ 255) = true from by simp; omega]; rfl, Bl.refl _⟩
    · have h1' : (1 : Int) ≤ (n : Int) := by omega
      have h2' : ¬ (n : Int) ≤ 255 := by omega
      go_enter Tryz.func104, Tryz.ntmps104
      go_wp2
      go_ret
      exact ⟨rfl, Bl.refl _⟩
  · have h1' : ¬ (1 : Int) ≤ (n : Int) := by omega
    go_enter Tryz.func104, Tryz.ntmps104
    go_wp2
    go_ret
    exact ⟨rfl, Bl.refl _⟩
end Go.Proofs.YtkgjpfamjedncaaGreat
