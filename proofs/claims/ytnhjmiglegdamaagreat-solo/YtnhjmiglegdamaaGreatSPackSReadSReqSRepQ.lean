-- Packets: one record each, as bytes.
-- Packets are read.
-- A request is read.
-- A reply is read; bytes of a reply are no vote.
import Derived.Test.YtnhjmiglegdamaaGreatSplitSplitsLocateSmallQ
import Derived.Deep.RegionHeld3
import Derived.Deep.DeepCutAuto
namespace Go.Proofs.YtnhjmiglegdamaaGreat
open Go.RowKit
attribute [local go_sem ↓] Go.wp_at_zero Go.wp_at_succ

/-- A slice that holds a packet's bytes. -/
def Pkt (w : World) (v : Value) (ds : List Int) : Prop := ∃ b o c, v = .slice (some ⟨b, o, none⟩) ds.length c ∧ b < w.heap.size ∧ ds.length ≤ c ∧ c ≤ 9223372036854775807 ∧ ∀ j d, ds[j]? = some d → w.cell? ⟨b, o + j, none⟩ = some (B8 d)
theorem Pkt.bl {w w' : World} {v : Value} {ds : List Int} (h : Pkt w v ds) (hb : Bl w w') : Pkt w' v ds := by
  obtain ⟨b, o, c, e, h1, h2, h3, h4⟩ := h
  exact ⟨b, o, c, e, Nat.lt_of_lt_of_le h1 hb.lt, h2, h3, fun j d hd => (hb.cell h1).trans (h4 j d hd)⟩
theorem Pkt.sl {w : World} {v : Value} {ds : List Int} (h : Pkt w v ds) : Sl w v (ds.map B8) := by
  obtain ⟨b, o, c, e, h1, h2, h3, h4⟩ := h
  refine .inr ⟨b, o, c, by rw [List.length_map]; exact e, h1, fun j hj => ?_⟩
  have hj' : j < ds.length := by simpa using hj
  rw [h4 j ds[j] (List.getElem?_eq_getElem hj')]
  simp
theorem rec_len (r : Rc) : 3 ≤ r.bytes.length := by rw [r.len]; omega
theorem ok_len {shs : List (Int × Int × Int)} {r : Rc} (h : r.Ok shs) : r.bytes.length ≤ 2298 := by
  have h1 := h.n1
  have h2 := h.v1
  rw [r.len]; omega

set_option maxRecDepth 100000 in
set_option maxHeartbeats 2000000 in
/-- Bytes that no shape fits are no records. -/
theorem split_no (v : Value) (ds : List Int) (bs os cs : Nat) (shs : List (Int × Int × Int)) (w : World) (hv : Pkt w v ds) (h0 : 0 < ds.length) (hl : ds.length ≤ 40000000) (hby : ∀ d ∈ ds, 0 ≤ d ∧ d ≤ 255) (hsh : Shapes w bs os shs) (hs : shs.length ≤ 1000) (hf : (shs.any fun s => fitsB s.1 s.2.1 s.2.2 ds) = false) :
    Calls Tryz.prog 230 #[v, .slice (some ⟨bs, os, none⟩) shs.length cs] w fun e w' => e = .returned (.tuple #[.slice none 0 0, .bool false]) ∧ Bl w w' := by
  have hsl := hv.sl
  obtain ⟨b, o, c, rfl, _⟩ := hv
  have bR := (Bl.refl w).alloc (.cells #[.slice (some ⟨b, o, none⟩) ds.length c] 40)
  have hX := heap_alloc_new w (.cells #[.slice (some ⟨b, o, none⟩) ds.length c] 40)
  have x0 : (w.alloc (.cells #[.slice (some ⟨b, o, none⟩) ds.length c] 40)).cell? ⟨w.heap.size, 0, none⟩ = some (.slice (some ⟨b, o, none⟩) ds.length c) := cell_of_row _ w.heap.size 0 _ 40 (0, 0) hX
  have hsh' : Shapes (w.alloc (.cells #[.slice (some ⟨b, o, none⟩) ds.length c] 40)) bs os shs := ⟨Nat.lt_of_lt_of_le hsh.1 bR.lt, fun j h => by rw [bR.cell hsh.1, bR.cell hsh.1, bR.cell hsh.1]; exact hsh.2 j h⟩
  have HC := hid (containsShape_any bs os cs shs w.heap.size _ ds _ hsh' (by simp) x0 (hsl.bl bR) h0 hl hby hs)
  rw [hf] at HC
  have HB := hid bR
  have hpos : (0 : Int) < (ds.length : Int) := by omega
  clear hsl bR hX hsh' hsh hby hf x0
  go_enter Tryz.func230, Tryz.ntmps230
  go_wp2
  refine wp_loop_rounds 1 ?_; rw [rounds_succ]
  go_wp2_with fail
  refine HC.out.mono ?_
  rintro e w2 ⟨rfl, hb2⟩
  have HB2 := hid (HB.out.trans hb2)
  clear HC hb2
  go_wp2
  go_ret2
  exact ⟨rfl, HB2.out⟩

set_option maxRecDepth 100000 in
set_option maxHeartbeats 2000000 in
/-- A packet is one record. -/
theorem whole_yes (v : Value) (r : Rc) (bs os cs : Nat) (shs : List (Int × Int × Int)) (w : World) (hv : Pkt w v r.bytes) (hsh : Shapes w bs os shs) (hs : shs.length ≤ 1000) (ok : r.Ok shs) :
    Calls Tryz.prog 242 #[v, .slice (some ⟨bs, os, none⟩) shs.length cs] w fun e w' => ∃ g na nc va vc, e = .returned (.tuple #[.agg #[.int .i64 r.kd, .slice (some ⟨g, na, none⟩) r.ns.length nc, .slice va r.val.length vc], .bool true]) ∧ Bl w w' ∧ w'.ownsRow w.heap.size 3 1 (.slice (some ⟨g, na, none⟩) r.ns.length nc) r.ns.length (r.ns.map (Value.int .i64)) ∧ w'.ownsRow w.heap.size 5 1 (.slice va r.val.length vc) r.val.length (r.val.map B8) := by
  obtain ⟨b, o, c, rfl, h1, h2, h3, h4⟩ := hv
  have hflat : flat [r] = r.bytes := by simp [flat]
  have hol := ok_len ok
  have h3' := rec_len r
  have bA := (Bl.refl w).alloc (.cells #[.int .i64 0, .slice none 0 0, .slice none 0 0] 309)
  have HS := hid (split_any (some ⟨b, o, none⟩) b o c r.bytes.length bs os cs [r] shs (w.alloc (.cells #[.int .i64 0, .slice none 0 0, .slice none 0 0] 309)) (by rw [hflat]; exact Nat.le_refl _) h2 (by omega) h3 (fun _ => ⟨rfl, by simp; omega⟩) (fun j d hj hd => by rw [hflat] at hd; rw [bA.cell h1]; exact h4 j d hd)
    ⟨Nat.lt_of_lt_of_le hsh.1 bA.lt, fun j h => by rw [bA.cell hsh.1, bA.cell hsh.1, bA.cell hsh.1]; exact hsh.2 j h⟩ hs (by simpa using ok))
  have HA := hid bA
  have hX := hid (heap_alloc_new w (.cells #[.int .i64 0, .slice none 0 0, .slice none 0 0] 309))
  have Hok := hid ok
  clear h4 hsh ok bA
  go_enter Tryz.func242, Tryz.ntmps242
  go_wp2_with fail
  refine HS.out.mono ?_
  rintro e w1 ⟨k, rv, xs, rfl, k1, k2, k3, k4, hb1⟩
  have hk : k = 1 := by
    apply Classical.byContradiction
    intro hne
    obtain rfl : k = 0 := by simp at k1; omega
    have := k3 (by simp)
    rw [off_zero] at this
    simp at this
  subst hk
  have e1 : List.take 1 [r] = [r] := rfl
  rw [e1] at k4
  obtain ⟨nv, n1, n2⟩ := k4.ns 0 (by simp)
  obtain ⟨vv, v1, v2⟩ := k4.val 0 (by simp)
  have kd1 := k4.kd 0 (by simp)
  simp only [List.getElem_cons_zero, Nat.mul_zero, Nat.zero_add] at n1 n2 v1 v2 kd1
  have hrow := k4.own
  obtain ⟨gr, cr, hrv⟩ : ∃ gr cr, rv = .slice (some ⟨gr, 0, none⟩) 1 cr := by
    rcases hrow.2 with ⟨_, e'⟩ | ⟨g, cap, cur, e, _⟩
    · simp at e'
    · exact ⟨g, cap, by simpa using e⟩
  subst hrv
  obtain ⟨gn, cn, hnv⟩ : ∃ gn cn, nv = .slice (some ⟨gn, 0, none⟩) r.ns.length cn := by
    rcases n2.2 with ⟨_, e'⟩ | ⟨g, cap, cur, e, _⟩
    · have := Hok.out.n0; omega
    · exact ⟨g, cap, e⟩
  obtain ⟨va, vc, hvv⟩ := (ownsRow_sl v2).len
  rw [List.length_map] at hvv
  subst hnv hvv
  have d0 := (hrow.cellAt 0 (by simp)).trans kd1
  have d1 := (hrow.cellAt 1 (by simp)).trans n1
  have d2 := (hrow.cellAt 2 (by simp)).trans v1
  have lgr : gr < w1.heap.size := (hrow.lt gr rfl).2
  have hbs : ∀ {e : TypeId} {u : Value} {n : Nat} {ys : List Value}, w1.ownsRow w.heap.size e 1 u n ys → n = ys.length → Bs w1 u ys := fun {e u n ys} h hn => by
    subst hn
    rcases h.2 with ⟨e1, e2⟩ | ⟨g, cap, cur, e1, _⟩
    · exact .inl ⟨e1, List.length_eq_zero_iff.1 e2⟩
    · subst e1
      exact .inr ⟨⟨g, 0, none⟩, cap, rfl, fun j u hj => by rw [add_eq, Nat.zero_add, h.cellAt j (by have := (List.getElem?_eq_some_iff.1 hj).1; omega)]; exact hj⟩
  have HR := hid (recAppend_any 0 (.slice none 0 0) 0 [] r.kd _ _ r.ns r.val w1 (World.ownsRow_nil _ _ _ _) (Nat.zero_le _) (by omega) (hbs (ownsRow_base n2 (by intro g hg; have := (n2.lt g hg).1; simp at this; omega)) (by simp)) (hbs (ownsRow_base v2 (by intro g hg; have := (v2.lt g hg).1; simp at this; omega)) (by simp)) Hok.out.k0 Hok.out.k1 Hok.out.n1 Hok.out.v1 (fun g e => by simp [Value.ownBlock] at e) (fun g e => by simp [Value.ownBlock] at e) (fun g e => (n2.lt g e).2) (fun g e => (v2.lt g e).2))
  have HB1 := hid (HA.out.trans hb1)
  have hX1 := hid ((hb1.heap (by simp)).trans hX.out)
  have HN := hid (ownsRow_base (base' := w.heap.size) n2 (by intro g hg; have := (n2.lt g hg).1; simp at this; omega))
  have HV := hid (ownsRow_base (base' := w.heap.size) v2 (by intro g hg; have := (v2.lt g hg).1; simp at this; omega))
  have hlr : (recB r.kd r.ns r.val).length = r.bytes.length := rfl
  clear HS k2 k3 k4 hb1 n1 n2 v1 v2 kd1 hrow hbs hX HA
  go_wp2_with fail
  refine HR.out.mono ?_
  rintro e w2 ⟨v', rfl, hG⟩
  rw [Nat.zero_add, hlr] at hG
  obtain ⟨ga, gc, rfl⟩ := hG.shape
  have hb2 := hG.only.to_bl (fun k _ e => by simp [Value.ownBlock] at e)
  have d0' := (hb2.cell lgr).trans d0
  have d1' := (hb2.cell lgr).trans d1
  have d2' := (hb2.cell lgr).trans d2
  have lgr2 := Nat.lt_of_lt_of_le lgr hb2.lt
  have hX2 := (hb2.heap (Array.getElem?_eq_some_iff.1 hX1.out).1).trans hX1.out
  have y0 : w2.cell? ⟨w.heap.size, 0, none⟩ = some (.int .i64 0) := cell_of_row w2 w.heap.size 0 _ 309 (0, 0) hX2
  have y1 : w2.cell? ⟨w.heap.size, 1, none⟩ = some (.slice none 0 0) := cell_of_row w2 w.heap.size 1 _ 309 (0, 0) hX2
  have y2 : w2.cell? ⟨w.heap.size, 2, none⟩ = some (.slice none 0 0) := cell_of_row w2 w.heap.size 2 _ 309 (0, 0) hX2
  have f0 := frozen_of_row w2 w.heap.size 0 _ 309 hX2
  have f1 := frozen_of_row w2 w.heap.size 1 _ 309 hX2
  have f2 := frozen_of_row w2 w.heap.size 2 _ 309 hX2
  have lX2 : w.heap.size < w2.heap.size := (Array.getElem?_eq_some_iff.1 hX2).1
  have HB2 := hid hb2
  have HX2 := hid hX2
  clear HR hG hb2 hX2 d0 d1 d2 hX1
  go_wp2
  have Z := (((Only.refl (fun b => b = w.heap.size) w2).setCell ⟨w.heap.size, 0, none⟩ (.inl rfl) (.int .i64 r.kd)).setCell ⟨w.heap.size, 1, none⟩ (.inl rfl) (.slice (some ⟨gn, 0, none⟩) r.ns.length cn)).setCell ⟨w.heap.size, 2, none⟩ (.inl rfl) (.slice va r.val.length vc)
  have hB := (HB1.out.trans HB2.out).trans_only Z fun n e => by omega
  have hN2 := (Only.of_bl (S := fun _ => False) HB2.out).owns HN.out fun _ _ e => e
  have hV2 := (Only.of_bl (S := fun _ => False) HB2.out).owns HV.out fun _ _ e => e
  have hN3 := Z.owns hN2 fun b hb e => own_ne_block hN2 HX2.out (by decide) (by rw [hb, e])
  have hV3 := Z.owns hV2 fun b hb e => own_ne_block hV2 HX2.out (by decide) (by rw [hb, e])
  exact bodyPost_ret (v := .tuple #[.agg #[.int .i64 r.kd, .slice (some ⟨gn, 0, none⟩) r.ns.length cn, .slice va r.val.length vc], .bool true]) (by simp [results, Tryz.results242, go_sem, y0, y1, y2]) rfl ⟨gn, 0, cn, va, vc, rfl, hB, hN3, hV3⟩
end Go.Proofs.YtnhjmiglegdamaaGreat

namespace Go.Proofs.YtnhjmiglegdamaaGreat
open Go.RowKit
attribute [local go_sem ↓] Go.wp_at_zero Go.wp_at_succ

set_option maxRecDepth 100000 in
set_option maxHeartbeats 2000000 in
theorem whole_no (v : Value) (ds : List Int) (bs os cs : Nat) (shs : List (Int × Int × Int)) (w : World) (hv : Pkt w v ds) (h0 : 0 < ds.length) (hl : ds.length ≤ 40000000) (hby : ∀ d ∈ ds, 0 ≤ d ∧ d ≤ 255) (hsh : Shapes w bs os shs) (hs : shs.length ≤ 1000) (hf : (shs.any fun s => fitsB s.1 s.2.1 s.2.2 ds) = false) :
    Calls Tryz.prog 242 #[v, .slice (some ⟨bs, os, none⟩) shs.length cs] w fun e w' => e = .returned (.tuple #[.agg #[.int .i64 0, .slice none 0 0, .slice none 0 0], .bool false]) ∧ Bl w w' := by
  have bA := (Bl.refl w).alloc (.cells #[.int .i64 0, .slice none 0 0, .slice none 0 0] 309)
  have HS := hid (split_no v ds bs os cs shs _ (hv.bl bA) h0 hl hby ⟨Nat.lt_of_lt_of_le hsh.1 bA.lt, fun j h => by rw [bA.cell hsh.1, bA.cell hsh.1, bA.cell hsh.1]; exact hsh.2 j h⟩ hs hf)
  have HA := hid bA
  have hX := hid (heap_alloc_new w (.cells #[.int .i64 0, .slice none 0 0, .slice none 0 0] 309))
  clear hv hby hsh hf bA
  go_enter Tryz.func242, Tryz.ntmps242
  go_wp2_with fail
  refine HS.out.mono ?_
  rintro e w2 ⟨rfl, hb2⟩
  have hX2 := (hb2.heap (by simp)).trans hX.out
  have y0 : w2.cell? ⟨w.heap.size, 0, none⟩ = some (.int .i64 0) := cell_of_row w2 w.heap.size 0 _ 309 (0, 0) hX2
  have y1 : w2.cell? ⟨w.heap.size, 1, none⟩ = some (.slice none 0 0) := cell_of_row w2 w.heap.size 1 _ 309 (0, 0) hX2
  have y2 : w2.cell? ⟨w.heap.size, 2, none⟩ = some (.slice none 0 0) := cell_of_row w2 w.heap.size 2 _ 309 (0, 0) hX2
  have f0 := frozen_of_row w2 w.heap.size 0 _ 309 hX2
  have f1 := frozen_of_row w2 w.heap.size 1 _ 309 hX2
  have f2 := frozen_of_row w2 w.heap.size 2 _ 309 hX2
  have lX2 : w.heap.size < w2.heap.size := (Array.getElem?_eq_some_iff.1 hX2).1
  have HB2 := hid (HA.out.trans hb2)
  clear HS hb2 hX hX2 HA
  go_wp2
  have Z := (((Only.refl (fun b => b = w.heap.size) w2).setCell ⟨w.heap.size, 0, none⟩ (.inl rfl) (.int .i64 0)).setCell ⟨w.heap.size, 1, none⟩ (.inl rfl) (.slice none 0 0)).setCell ⟨w.heap.size, 2, none⟩ (.inl rfl) (.slice none 0 0)
  have hB := HB2.out.trans_only Z fun n e => by omega
  exact bodyPost_ret (v := .tuple #[.agg #[.int .i64 0, .slice none 0 0, .slice none 0 0], .bool false]) (by simp [results, Tryz.results242, go_sem, y0, y1, y2]) rfl ⟨rfl, hB⟩

/-- The shapes of requests. -/
def reqShs : List (Int × Int × Int) := [(1, 6, 0), (2, 6, 8), (3, 6, 0), (4, 6, 0), (5, 6, 0), (6, 6, 255), (7, 6, 0)]
set_option maxRecDepth 100000 in
theorem requestShapes_any (w : World) : Calls Tryz.prog 243 #[] w fun e w' => ∃ bs, e = .returned (.slice (some ⟨bs, 0, none⟩) 7 7) ∧ Bl w w' ∧ Shapes w' bs 0 reqShs := by
  go_enter Tryz.func243, Tryz.ntmps243
  go_wp2
  go_ret
  refine ⟨_, rfl, (Bl.refl w).alloc _, by simp, fun j h => ?_⟩
  have h' : j < 7 := h
  have hX := heap_alloc_new w (.cells #[.int .i64 1, .int .i64 6, .int .i64 0, .int .i64 2, .int .i64 6, .int .i64 8, .int .i64 3, .int .i64 6, .int .i64 0, .int .i64 4, .int .i64 6, .int .i64 0, .int .i64 5, .int .i64 6, .int .i64 0, .int .i64 6, .int .i64 6, .int .i64 255, .int .i64 7, .int .i64 6, .int .i64 0] 311)
  rw [cell_of_row _ _ _ _ _ _ hX, cell_of_row _ _ _ _ _ _ hX, cell_of_row _ _ _ _ _ _ hX]
  match j, h' with
  | 0, _ => exact ⟨rfl, rfl, rfl⟩
  | 1, _ => exact ⟨rfl, rfl, rfl⟩
  | 2, _ => exact ⟨rfl, rfl, rfl⟩
  | 3, _ => exact ⟨rfl, rfl, rfl⟩
  | 4, _ => exact ⟨rfl, rfl, rfl⟩
  | 5, _ => exact ⟨rfl, rfl, rfl⟩
  | 6, _ => exact ⟨rfl, rfl, rfl⟩
end Go.Proofs.YtnhjmiglegdamaaGreat

namespace Go.Proofs.YtnhjmiglegdamaaGreat
open Go.RowKit
attribute [local go_sem ↓] Go.wp_at_zero Go.wp_at_succ

theorem own_six {w : World} {base g o c : Nat} {x0 x1 x2 x3 x4 x5 : Int} (h : w.ownsRow base 3 1 (.slice (some ⟨g, o, none⟩) 6 c) 6 ([x0, x1, x2, x3, x4, x5].map (Value.int .i64))) : o = 0 ∧ g < w.heap.size ∧ w.cell? ⟨g, 0, none⟩ = some (.int .i64 x0) ∧ w.cell? ⟨g, 1, none⟩ = some (.int .i64 x1) ∧ w.cell? ⟨g, 2, none⟩ = some (.int .i64 x2) ∧ w.cell? ⟨g, 3, none⟩ = some (.int .i64 x3) ∧ w.cell? ⟨g, 4, none⟩ = some (.int .i64 x4) ∧ w.cell? ⟨g, 5, none⟩ = some (.int .i64 x5) := by
  rcases h.2 with ⟨e, _⟩ | ⟨g', cap, cur, e, _⟩
  · simp at e
  · simp only [Value.slice.injEq, Option.some.injEq, Addr.mk.injEq] at e
    obtain ⟨⟨_, rfl, _⟩, _⟩ := e
    exact ⟨rfl, (h.lt g rfl).2, h.cellAt 0 (by omega), h.cellAt 1 (by omega), h.cellAt 2 (by omega), h.cellAt 3 (by omega), h.cellAt 4 (by omega), h.cellAt 5 (by omega)⟩
theorem row3 {W : World} {g : Nat} {t : TypeId} {x0 x1 x2 : Value} (h : W.heap[g]? = some (.cells #[x0, x1, x2] t (0, 0))) : W.cell? ⟨g, 0, none⟩ = some x0 ∧ W.cell? ⟨g, 1, none⟩ = some x1 ∧ W.cell? ⟨g, 2, none⟩ = some x2 ∧ g < W.heap.size :=
  ⟨cell_of_row W g 0 _ t (0, 0) h, cell_of_row W g 1 _ t (0, 0) h, cell_of_row W g 2 _ t (0, 0) h, (Array.getElem?_eq_some_iff.1 h).1⟩
theorem row4 {W : World} {g : Nat} {t : TypeId} {x0 x1 x2 x3 : Value} (h : W.heap[g]? = some (.cells #[x0, x1, x2, x3] t (0, 0))) : W.cell? ⟨g, 0, none⟩ = some x0 ∧ W.cell? ⟨g, 1, none⟩ = some x1 ∧ W.cell? ⟨g, 2, none⟩ = some x2 ∧ W.cell? ⟨g, 3, none⟩ = some x3 ∧ g < W.heap.size :=
  ⟨cell_of_row W g 0 _ t (0, 0) h, cell_of_row W g 1 _ t (0, 0) h, cell_of_row W g 2 _ t (0, 0) h, cell_of_row W g 3 _ t (0, 0) h, (Array.getElem?_eq_some_iff.1 h).1⟩
theorem row8 {W : World} {g : Nat} {t : TypeId} {x0 x1 x2 x3 x4 x5 x6 x7 : Value} (h : W.heap[g]? = some (.cells #[x0, x1, x2, x3, x4, x5, x6, x7] t (0, 0))) : (W.cell? ⟨g, 0, none⟩ = some x0 ∧ W.cell? ⟨g, 1, none⟩ = some x1 ∧ W.cell? ⟨g, 2, none⟩ = some x2 ∧ W.cell? ⟨g, 3, none⟩ = some x3 ∧ W.cell? ⟨g, 4, none⟩ = some x4 ∧ W.cell? ⟨g, 5, none⟩ = some x5 ∧ W.cell? ⟨g, 6, none⟩ = some x6 ∧ W.cell? ⟨g, 7, none⟩ = some x7) ∧ (W.frozen? ⟨g, 0, none⟩ = false ∧ W.frozen? ⟨g, 1, none⟩ = false ∧ W.frozen? ⟨g, 2, none⟩ = false ∧ W.frozen? ⟨g, 3, none⟩ = false ∧ W.frozen? ⟨g, 4, none⟩ = false ∧ W.frozen? ⟨g, 5, none⟩ = false ∧ W.frozen? ⟨g, 6, none⟩ = false ∧ W.frozen? ⟨g, 7, none⟩ = false) ∧ g < W.heap.size :=
  ⟨⟨cell_of_row W g 0 _ t (0, 0) h, cell_of_row W g 1 _ t (0, 0) h, cell_of_row W g 2 _ t (0, 0) h, cell_of_row W g 3 _ t (0, 0) h, cell_of_row W g 4 _ t (0, 0) h, cell_of_row W g 5 _ t (0, 0) h, cell_of_row W g 6 _ t (0, 0) h, cell_of_row W g 7 _ t (0, 0) h⟩, ⟨frozen_of_row W g 0 _ t h, frozen_of_row W g 1 _ t h, frozen_of_row W g 2 _ t h, frozen_of_row W g 3 _ t h, frozen_of_row W g 4 _ t h, frozen_of_row W g 5 _ t h, frozen_of_row W g 6 _ t h, frozen_of_row W g 7 _ t h⟩, (Array.getElem?_eq_some_iff.1 h).1⟩

set_option maxRecDepth 100000 in
set_option maxHeartbeats 4000000 in
theorem readRequest_yes (v : Value) (kd nr ep pl ck cl ca : Int) (val : List Int) (w : World) (hv : Pkt w v (recB kd [nr, ep, pl, ck, cl, ca] val)) (ok : Rc.Ok reqShs ⟨kd, [nr, ep, pl, ck, cl, ca], val⟩) :
    Calls Tryz.prog 209 #[v] w fun e w' => ∃ va vc, e = .returned (.tuple #[.agg #[.int .i64 kd, .int .i64 nr, .int .i64 ep, .int .i64 pl, .int .i64 ck, .int .i64 cl, .int .i64 ca, .slice va val.length vc], .bool true]) ∧ Bl w w' ∧ w'.ownsRow w.heap.size 5 1 (.slice va val.length vc) val.length (val.map B8) := by
  have bA := (Bl.refl w).alloc (.cells #[.int .i64 0, .int .i64 0, .int .i64 0, .int .i64 0, .int .i64 0, .int .i64 0, .int .i64 0, .slice none 0 0] 100)
  have hX := hid (heap_alloc_new w (.cells #[.int .i64 0, .int .i64 0, .int .i64 0, .int .i64 0, .int .i64 0, .int .i64 0, .int .i64 0, .slice none 0 0] 100))
  have HS := hid (requestShapes_any (w.alloc (.cells #[.int .i64 0, .int .i64 0, .int .i64 0, .int .i64 0, .int .i64 0, .int .i64 0, .int .i64 0, .slice none 0 0] 100)))
  have HA := hid bA
  have Hv := hid hv
  have Hok := hid ok
  clear hv bA ok
  go_enter Tryz.func209, Tryz.ntmps209
  go_wp2_with fail
  refine HS.out.mono ?_
  rintro e w1 ⟨bs, rfl, hb1, hsh⟩
  have HW := hid (whole_yes v ⟨kd, [nr, ep, pl, ck, cl, ca], val⟩ bs 0 7 reqShs w1 (Hv.out.bl (HA.out.trans hb1)) hsh (by decide) Hok.out)
  have HB1 := hid (HA.out.trans hb1)
  have hX1 := hid ((hb1.heap (by simp)).trans hX.out)
  clear HS hb1 hsh hX HA
  go_wp2_with fail
  refine HW.out.mono ?_
  rintro e w2 ⟨g, na, nc, va, vc, rfl, hb2, hn2, hv2⟩
  obtain ⟨rfl, lg, n0, n1, n2, n3, n4, n5⟩ := own_six hn2
  have ng : ¬ w.heap.size = g := by have := (hn2.lt g rfl).1; have := (Array.getElem?_eq_some_iff.1 hX1.out).1; omega
  have HB2 := hid (HB1.out.trans hb2)
  have hX2 := (hb2.heap (Array.getElem?_eq_some_iff.1 hX1.out).1).trans hX1.out
  have lx := (Array.getElem?_eq_some_iff.1 hX2).1
  have HV2 := hid hv2
  have HL1 := hid HB1.out.lt
  have nr2 : ¬ w.heap.size = w2.heap.size := by omega
  clear HW hb2 hn2 hv2 hX1
  obtain ⟨W3, hW3⟩ : ∃ W3, w2.alloc (.cells #[.int .i64 kd, .slice (some ⟨g, 0, none⟩) 6 nc, .slice va val.length vc] 309) = W3 := ⟨_, rfl⟩
  have bC := (Bl.refl w2).alloc (.cells #[.int .i64 kd, .slice (some ⟨g, 0, none⟩) 6 nc, .slice va val.length vc] 309)
  have hR := heap_alloc_new w2 (.cells #[.int .i64 kd, .slice (some ⟨g, 0, none⟩) 6 nc, .slice va val.length vc] 309)
  rw [hW3] at bC hR
  have HX3 := hid ((bC.heap lx).trans hX2)
  obtain ⟨r0, r1, r2, lr⟩ := row3 hR
  have m0 := (bC.cell lg).trans n0
  have m1 := (bC.cell lg).trans n1
  have m2 := (bC.cell lg).trans n2
  have m3 := (bC.cell lg).trans n3
  have m4 := (bC.cell lg).trans n4
  have m5 := (bC.cell lg).trans n5
  have lg3 := Nat.lt_of_lt_of_le lg bC.lt
  have HB3 := hid (HB2.out.trans bC)
  have HV3 := hid ((Only.of_bl (S := fun _ => False) bC).owns HV2.out fun _ _ e => e)
  have HWW := hid hW3
  have HR3 := hid hR
  clear hX2 hW3 bC HB2 HV2 n0 n1 n2 n3 n4 n5 hR
  go_upto_region 5 with fail
  rw [HWW.out]
  clear HWW
  generalize w2.heap.size = gr at *
  go_cut [7] from 19 to 30 (fun x wx => ∃ gc, x = .pointer (some ⟨gc, 0, none⟩) ∧ Hid (wx.heap[gc]? = some (.cells #[.int .i64 ck, .int .i64 cl, .int .i64 ca, .slice va val.length vc] 91 (0, 0)) ∧ W3.heap.size ≤ gc) ∧ Hid (Bl W3 wx))
  case first =>
    go_region_held3 (fun W => W.cell? ⟨g, 3, none⟩ = some (.int .i64 ck) ∧ W.cell? ⟨g, 4, none⟩ = some (.int .i64 cl) ∧ W.cell? ⟨g, 5, none⟩ = some (.int .i64 ca) ∧ W.cell? ⟨gr, 2, none⟩ = some (.slice va val.length vc)) (go_keep) (fail)
    all_goals (go_wp2_with fail; go_meet)
    all_goals exact ⟨_, rfl, ⟨heap_alloc_new W3 _, Nat.le_refl _⟩, by first | exact ((Bl.refl W3).alloc _).drewN _ | exact ((Bl.refl W3).alloc _).drew | exact (Bl.refl W3).alloc _⟩
  case rest =>
    obtain ⟨gc, rfl, HC, HBc⟩ := hcut
    obtain ⟨k0, k1, k2, k3, lgc⟩ := row4 HC.out.1
    have hX4 := (HBc.out.heap (Array.getElem?_eq_some_iff.1 HX3.out).1).trans HX3.out
    obtain ⟨⟨x0, x1, x2, x3, x4, x5, x6, x7⟩, ⟨f0, f1, f2, f3, f4, f5, f6, f7⟩, lX⟩ := row8 hX4
    have p0 := (HBc.out.cell lg3).trans m0
    have p1 := (HBc.out.cell lg3).trans m1
    have p2 := (HBc.out.cell lg3).trans m2
    have s0 := (HBc.out.cell lr).trans r0
    have lg4 := Nat.lt_of_lt_of_le lg3 HBc.out.lt
    have lr4 := Nat.lt_of_lt_of_le lr HBc.out.lt
    have HX4 := hid hX4
    have nn1 : ¬ w.heap.size = gc := by have := HC.out.2; have := (Array.getElem?_eq_some_iff.1 HX3.out).1; omega
    have HV4 := hid ((Only.of_bl (S := fun _ => False) HBc.out).owns HV3.out fun _ _ e => e)
    have HB4 := hid (HB3.out.trans HBc.out)
    clear m0 m1 m2 m3 m4 m5 r0 r1 r2 hX4 HV3 HX3
    go_upto_region 6 with fail
    go_region_held3 (fun W => W.cell? ⟨g, 0, none⟩ = some (.int .i64 nr) ∧ W.cell? ⟨g, 1, none⟩ = some (.int .i64 ep) ∧ W.cell? ⟨g, 2, none⟩ = some (.int .i64 pl) ∧ W.cell? ⟨gr, 0, none⟩ = some (.int .i64 kd) ∧ W.cell? ⟨gc, 0, none⟩ = some (.int .i64 ck) ∧ W.cell? ⟨gc, 1, none⟩ = some (.int .i64 cl) ∧ W.cell? ⟨gc, 2, none⟩ = some (.int .i64 ca) ∧ W.cell? ⟨gc, 3, none⟩ = some (.slice va val.length vc)) (go_keep) (fail)
    all_goals
      go_wp2
      have Z := (((((((((Only.refl (fun b => b = w.heap.size) wc).setCell ⟨w.heap.size, 0, none⟩ (.inl rfl) (.int .i64 kd)).setCell ⟨w.heap.size, 1, none⟩ (.inl rfl) (.int .i64 nr)).setCell ⟨w.heap.size, 2, none⟩ (.inl rfl) (.int .i64 ep)).setCell ⟨w.heap.size, 3, none⟩ (.inl rfl) (.int .i64 pl)).setCell ⟨w.heap.size, 4, none⟩ (.inl rfl) (.int .i64 ck)).setCell ⟨w.heap.size, 5, none⟩ (.inl rfl) (.int .i64 cl)).setCell ⟨w.heap.size, 6, none⟩ (.inl rfl) (.int .i64 ca)).setCell ⟨w.heap.size, 7, none⟩ (.inl rfl) (.slice va val.length vc))
      have hB := HB4.out.trans_only Z fun n e => by omega
      have hV := Z.owns HV4.out fun b hb e => own_ne_block HV4.out HX4.out (by decide) (by rw [hb, e])
      refine bodyPost_ret (v := .tuple #[.agg #[.int .i64 kd, .int .i64 nr, .int .i64 ep, .int .i64 pl, .int .i64 ck, .int .i64 cl, .int .i64 ca, .slice va val.length vc], .bool true]) (by simp [results, Tryz.results209, go_sem, x0, x1, x2, x3, x4, x5, x6, x7]) rfl ⟨va, vc, rfl, hB.drew, ownsRow_base ((Only.of_bl (S := fun _ => False) (Bl.refl _).drew).owns hV fun _ _ e => e) fun b hb => ?_⟩
      have h1 := (hV.lt b hb).1
      have h2 := HL1.out
      omega
end Go.Proofs.YtnhjmiglegdamaaGreat

namespace Go.Proofs.YtnhjmiglegdamaaGreat
open Go.RowKit
attribute [local go_sem ↓] Go.wp_at_zero Go.wp_at_succ

theorem own_seven {w : World} {base g o c : Nat} {x0 x1 x2 x3 x4 x5 x6 : Int} (h : w.ownsRow base 3 1 (.slice (some ⟨g, o, none⟩) 7 c) 7 ([x0, x1, x2, x3, x4, x5, x6].map (Value.int .i64))) : o = 0 ∧ g < w.heap.size ∧ w.cell? ⟨g, 0, none⟩ = some (.int .i64 x0) ∧ w.cell? ⟨g, 1, none⟩ = some (.int .i64 x1) ∧ w.cell? ⟨g, 2, none⟩ = some (.int .i64 x2) ∧ w.cell? ⟨g, 3, none⟩ = some (.int .i64 x3) ∧ w.cell? ⟨g, 4, none⟩ = some (.int .i64 x4) ∧ w.cell? ⟨g, 5, none⟩ = some (.int .i64 x5) ∧ w.cell? ⟨g, 6, none⟩ = some (.int .i64 x6) := by
  rcases h.2 with ⟨e, _⟩ | ⟨g', cap, cur, e, _⟩
  · simp at e
  · simp only [Value.slice.injEq, Option.some.injEq, Addr.mk.injEq] at e
    obtain ⟨⟨_, rfl, _⟩, _⟩ := e
    exact ⟨rfl, (h.lt g rfl).2, h.cellAt 0 (by omega), h.cellAt 1 (by omega), h.cellAt 2 (by omega), h.cellAt 3 (by omega), h.cellAt 4 (by omega), h.cellAt 5 (by omega), h.cellAt 6 (by omega)⟩
theorem row7 {W : World} {g : Nat} {t : TypeId} {x0 x1 x2 x3 x4 x5 x6 : Value} (h : W.heap[g]? = some (.cells #[x0, x1, x2, x3, x4, x5, x6] t (0, 0))) : (W.cell? ⟨g, 0, none⟩ = some x0 ∧ W.cell? ⟨g, 1, none⟩ = some x1 ∧ W.cell? ⟨g, 2, none⟩ = some x2 ∧ W.cell? ⟨g, 3, none⟩ = some x3 ∧ W.cell? ⟨g, 4, none⟩ = some x4 ∧ W.cell? ⟨g, 5, none⟩ = some x5 ∧ W.cell? ⟨g, 6, none⟩ = some x6) ∧ (W.frozen? ⟨g, 0, none⟩ = false ∧ W.frozen? ⟨g, 1, none⟩ = false ∧ W.frozen? ⟨g, 2, none⟩ = false ∧ W.frozen? ⟨g, 3, none⟩ = false ∧ W.frozen? ⟨g, 4, none⟩ = false ∧ W.frozen? ⟨g, 5, none⟩ = false ∧ W.frozen? ⟨g, 6, none⟩ = false) ∧ g < W.heap.size :=
  ⟨⟨cell_of_row W g 0 _ t (0, 0) h, cell_of_row W g 1 _ t (0, 0) h, cell_of_row W g 2 _ t (0, 0) h, cell_of_row W g 3 _ t (0, 0) h, cell_of_row W g 4 _ t (0, 0) h, cell_of_row W g 5 _ t (0, 0) h, cell_of_row W g 6 _ t (0, 0) h⟩, ⟨frozen_of_row W g 0 _ t h, frozen_of_row W g 1 _ t h, frozen_of_row W g 2 _ t h, frozen_of_row W g 3 _ t h, frozen_of_row W g 4 _ t h, frozen_of_row W g 5 _ t h, frozen_of_row W g 6 _ t h⟩, (Array.getElem?_eq_some_iff.1 h).1⟩
theorem set4_heap {w : World} {g : Nat} {t : TypeId} {a b c d : Value} (h : w.heap[g]? = some (.cells #[a, b, c, d] t (0, 0))) (x0 x1 x2 x3 : Value) : ((((w.setCell ⟨g, 0, none⟩ x0).setCell ⟨g, 1, none⟩ x1).setCell ⟨g, 2, none⟩ x2).setCell ⟨g, 3, none⟩ x3).heap[g]? = some (.cells #[x0, x1, x2, x3] t (0, 0)) :=
  heap_setCell_same _ g 3 _ t _ (heap_setCell_same _ g 2 _ t _ (heap_setCell_same _ g 1 _ t _ (heap_setCell_same _ g 0 _ t _ h)))
/-- The shape of replies. -/
def repShs : List (Int × Int × Int) := [(101, 7, 8)]
theorem repShs_at (w : World) : Shapes (w.alloc (.cells #[.int .i64 101, .int .i64 7, .int .i64 8] 311)) w.heap.size 0 repShs := by
  refine ⟨by simp, fun j h => ?_⟩
  have hX := heap_alloc_new w (.cells #[.int .i64 101, .int .i64 7, .int .i64 8] 311)
  rw [cell_of_row _ _ _ _ _ _ hX, cell_of_row _ _ _ _ _ _ hX, cell_of_row _ _ _ _ _ _ hX]
  have h' : j < 1 := h
  match j, h' with
  | 0, _ => exact ⟨rfl, rfl, rfl⟩

set_option maxRecDepth 100000 in
set_option maxHeartbeats 4000000 in
theorem readReply_yes (v : Value) (nr wh ep mk ck cl ca : Int) (val : List Int) (w : World) (hv : Pkt w v (recB 101 [nr, wh, ep, mk, ck, cl, ca] val)) (ok : Rc.Ok repShs ⟨101, [nr, wh, ep, mk, ck, cl, ca], val⟩) :
    Calls Tryz.prog 210 #[v] w fun e w' => ∃ va vc, e = .returned (.tuple #[.int .i64 nr, .agg #[.int .i64 wh, .int .i64 ep, .int .i64 mk, .int .i64 ck, .int .i64 cl, .int .i64 ca, .slice va val.length vc], .bool true]) ∧ Bl w w' ∧ w'.ownsRow w.heap.size 5 1 (.slice va val.length vc) val.length (val.map B8) := by
  have bA := (Bl.refl w).alloc (.cells #[.int .i64 0, .int .i64 0, .int .i64 0, .int .i64 0, .int .i64 0, .int .i64 0, .slice none 0 0] 210)
  have hX := heap_alloc_new w (.cells #[.int .i64 0, .int .i64 0, .int .i64 0, .int .i64 0, .int .i64 0, .int .i64 0, .slice none 0 0] 210)
  have bB := (Bl.refl (w.alloc (.cells #[.int .i64 0, .int .i64 0, .int .i64 0, .int .i64 0, .int .i64 0, .int .i64 0, .slice none 0 0] 210))).alloc (.cells #[.int .i64 101, .int .i64 7, .int .i64 8] 311)
  have hb1 := bA.trans bB
  have HW := hid (whole_yes v ⟨101, [nr, wh, ep, mk, ck, cl, ca], val⟩ _ 0 1 repShs _ (hv.bl hb1) (repShs_at _) (by decide) ok)
  have HB1 := hid hb1
  have hX1 := hid ((bB.heap (by simp)).trans hX)
  have HL0 : Hid ((w.alloc (.cells #[.int .i64 0, .int .i64 0, .int .i64 0, .int .i64 0, .int .i64 0, .int .i64 0, .slice none 0 0] 210)).heap.size = w.heap.size + 1) := by unfold Hid; simp
  rw [HL0.out] at HW
  clear hv bA hX bB hb1 ok
  go_enter Tryz.func210, Tryz.ntmps210
  go_wp2_with fail
  refine HW.out.mono ?_
  rintro e w2 ⟨g, na, nc, va, vc, rfl, hb2, hn2, hv2⟩
  obtain ⟨rfl, lg, n0, n1, n2, n3, n4, n5, n6⟩ := own_seven hn2
  have ng : ¬ w.heap.size = g := by have := (hn2.lt g rfl).1; simp at this; omega
  have HB2 := hid (HB1.out.trans hb2)
  have hX2 := (hb2.heap (Array.getElem?_eq_some_iff.1 hX1.out).1).trans hX1.out
  have lx := (Array.getElem?_eq_some_iff.1 hX2).1
  have HV2 := hid (ownsRow_base (base' := w.heap.size) hv2 fun b hb => by have := (hv2.lt b hb).1; simp at this; omega)
  have nr2 : ¬ w.heap.size = w2.heap.size := by omega
  clear HW hb2 hn2 hv2 hX1 HB1 HL0
  obtain ⟨W3, hW3⟩ : ∃ W3, w2.alloc (.cells #[.int .i64 101, .slice (some ⟨g, 0, none⟩) 7 nc, .slice va val.length vc] 309) = W3 := ⟨_, rfl⟩
  have bC := (Bl.refl w2).alloc (.cells #[.int .i64 101, .slice (some ⟨g, 0, none⟩) 7 nc, .slice va val.length vc] 309)
  have hR := heap_alloc_new w2 (.cells #[.int .i64 101, .slice (some ⟨g, 0, none⟩) 7 nc, .slice va val.length vc] 309)
  rw [hW3] at bC hR
  have HX3 := hid ((bC.heap lx).trans hX2)
  obtain ⟨r0, r1, r2, lr⟩ := row3 hR
  have m0 := (bC.cell lg).trans n0
  have m1 := (bC.cell lg).trans n1
  have m2 := (bC.cell lg).trans n2
  have m3 := (bC.cell lg).trans n3
  have m4 := (bC.cell lg).trans n4
  have m5 := (bC.cell lg).trans n5
  have m6 := (bC.cell lg).trans n6
  have lg3 := Nat.lt_of_lt_of_le lg bC.lt
  have HB3 := hid (HB2.out.trans bC)
  have HV3 := hid ((Only.of_bl (S := fun _ => False) bC).owns HV2.out fun _ _ e => e)
  have HWW := hid hW3
  clear hX2 hW3 bC HB2 HV2 n0 n1 n2 n3 n4 n5 n6 hR
  go_upto_region 5 with fail
  rw [HWW.out]
  clear HWW
  generalize w2.heap.size = gr at *
  go_cut [8] from 21 to 32 (fun x wx => ∃ gc, x = .pointer (some ⟨gc, 0, none⟩) ∧ Hid (wx.heap[gc]? = some (.cells #[.int .i64 ck, .int .i64 cl, .int .i64 ca, .slice va val.length vc] 91 (0, 0)) ∧ W3.heap.size ≤ gc) ∧ Hid (Bl W3 wx))
  case first =>
    go_region_held3 (fun W => W.cell? ⟨g, 4, none⟩ = some (.int .i64 ck) ∧ W.cell? ⟨g, 5, none⟩ = some (.int .i64 cl) ∧ W.cell? ⟨g, 6, none⟩ = some (.int .i64 ca) ∧ W.cell? ⟨gr, 2, none⟩ = some (.slice va val.length vc)) (go_keep) (fail)
    all_goals (go_wp2_with fail; go_meet)
    all_goals exact ⟨_, rfl, ⟨heap_alloc_new W3 _, Nat.le_refl _⟩, by first | exact ((Bl.refl W3).alloc _).drewN _ | exact ((Bl.refl W3).alloc _).drew | exact (Bl.refl W3).alloc _⟩
  case rest =>
    obtain ⟨gc, rfl, HC, HBc⟩ := hcut
    obtain ⟨k0, k1, k2, k3, lgc⟩ := row4 HC.out.1
    have hX4 := (HBc.out.heap (Array.getElem?_eq_some_iff.1 HX3.out).1).trans HX3.out
    obtain ⟨⟨x0, x1, x2, x3, x4, x5, x6⟩, ⟨f0, f1, f2, f3, f4, f5, f6⟩, lX⟩ := row7 hX4
    have p0 := (HBc.out.cell lg3).trans m0
    have p1 := (HBc.out.cell lg3).trans m1
    have p2 := (HBc.out.cell lg3).trans m2
    have p3 := (HBc.out.cell lg3).trans m3
    have lg4 := Nat.lt_of_lt_of_le lg3 HBc.out.lt
    have HX4 := hid hX4
    have nn1 : ¬ w.heap.size = gc := by have := HC.out.2; have := (Array.getElem?_eq_some_iff.1 HX3.out).1; omega
    have HV4 := hid ((Only.of_bl (S := fun _ => False) HBc.out).owns HV3.out fun _ _ e => e)
    have HB4 := hid (HB3.out.trans HBc.out)
    clear m0 m1 m2 m3 m4 m5 m6 r0 r1 r2 hX4 HV3 HX3
    go_upto_region 6 with fail
    go_region_held3 (fun W => W.cell? ⟨g, 0, none⟩ = some (.int .i64 nr) ∧ W.cell? ⟨g, 1, none⟩ = some (.int .i64 wh) ∧ W.cell? ⟨g, 2, none⟩ = some (.int .i64 ep) ∧ W.cell? ⟨g, 3, none⟩ = some (.int .i64 mk) ∧ W.cell? ⟨gc, 0, none⟩ = some (.int .i64 ck) ∧ W.cell? ⟨gc, 1, none⟩ = some (.int .i64 cl) ∧ W.cell? ⟨gc, 2, none⟩ = some (.int .i64 ca) ∧ W.cell? ⟨gc, 3, none⟩ = some (.slice va val.length vc)) (go_keep) (fail)
    all_goals
      go_wp2
      have Z := ((((((((Only.refl (fun b => b = w.heap.size) wc).setCell ⟨w.heap.size, 0, none⟩ (.inl rfl) (.int .i64 wh)).setCell ⟨w.heap.size, 1, none⟩ (.inl rfl) (.int .i64 ep)).setCell ⟨w.heap.size, 2, none⟩ (.inl rfl) (.int .i64 mk)).setCell ⟨w.heap.size, 3, none⟩ (.inl rfl) (.int .i64 ck)).setCell ⟨w.heap.size, 4, none⟩ (.inl rfl) (.int .i64 cl)).setCell ⟨w.heap.size, 5, none⟩ (.inl rfl) (.int .i64 ca)).setCell ⟨w.heap.size, 6, none⟩ (.inl rfl) (.slice va val.length vc))
      have hB := HB4.out.trans_only Z fun n e => by omega
      have hV := Z.owns HV4.out fun b hb e => own_ne_block HV4.out HX4.out (by decide) (by rw [hb, e])
      exact bodyPost_ret (v := .tuple #[.int .i64 nr, .agg #[.int .i64 wh, .int .i64 ep, .int .i64 mk, .int .i64 ck, .int .i64 cl, .int .i64 ca, .slice va val.length vc], .bool true]) (by simp [results, Tryz.results210, go_sem, x0, x1, x2, x3, x4, x5, x6]) rfl ⟨va, vc, rfl, hB.drew, (Only.of_bl (S := fun _ => False) (Bl.refl _).drew).owns hV fun _ _ e => e⟩

set_option maxRecDepth 100000 in
set_option maxHeartbeats 2000000 in
/-- Bytes of another kind than 102 are no vote. -/
theorem readVote_no (v : Value) (ds : List Int) (w : World) (hv : Pkt w v ds) (h0 : 0 < ds.length) (hl : ds.length ≤ 40000000) (hby : ∀ d ∈ ds, 0 ≤ d ∧ d ≤ 255) (hf : ds.getD 0 0 ≠ 102) :
    Calls Tryz.prog 212 #[v] w fun e w' => e = .returned (.tuple #[.int .i64 0, .agg #[.int .i64 0, .int .i64 0, .int .i64 0, .slice none 0 0], .bool false]) ∧ Bl w w' := by
  have hfit : (([(102, 4, 255)] : List (Int × Int × Int)).any fun s => fitsB s.1 s.2.1 s.2.2 ds) = false := by
    simp only [List.any_cons, List.any_nil, Bool.or_false, fitsB]
    rw [show (ds.getD 0 0 == 102) = false from by simpa using hf]
    rfl
  have bA := (Bl.refl w).alloc (.cells #[.int .i64 0, .int .i64 0, .int .i64 0, .slice none 0 0] 217)
  have hX := heap_alloc_new w (.cells #[.int .i64 0, .int .i64 0, .int .i64 0, .slice none 0 0] 217)
  have bB := (Bl.refl (w.alloc (.cells #[.int .i64 0, .int .i64 0, .int .i64 0, .slice none 0 0] 217))).alloc (.cells #[.int .i64 102, .int .i64 4, .int .i64 255] 311)
  have hb1 := bA.trans bB
  have hsh : Shapes ((w.alloc (.cells #[.int .i64 0, .int .i64 0, .int .i64 0, .slice none 0 0] 217)).alloc (.cells #[.int .i64 102, .int .i64 4, .int .i64 255] 311)) (w.alloc (.cells #[.int .i64 0, .int .i64 0, .int .i64 0, .slice none 0 0] 217)).heap.size 0 [(102, 4, 255)] := by
    refine ⟨by simp, fun j h => ?_⟩
    have hX := heap_alloc_new (w.alloc (.cells #[.int .i64 0, .int .i64 0, .int .i64 0, .slice none 0 0] 217)) (.cells #[.int .i64 102, .int .i64 4, .int .i64 255] 311)
    rw [cell_of_row _ _ _ _ _ _ hX, cell_of_row _ _ _ _ _ _ hX, cell_of_row _ _ _ _ _ _ hX]
    have h' : j < 1 := h
    match j, h' with
    | 0, _ => exact ⟨rfl, rfl, rfl⟩
  have HW := hid (whole_no v ds _ 0 1 [(102, 4, 255)] _ (hv.bl hb1) h0 hl hby hsh (by decide) hfit)
  have HB1 := hid hb1
  have hX1 := hid ((bB.heap (by simp)).trans hX)
  have HL0 : Hid ((w.alloc (.cells #[.int .i64 0, .int .i64 0, .int .i64 0, .slice none 0 0] 217)).heap.size = w.heap.size + 1) := by unfold Hid; simp
  rw [HL0.out] at HW
  clear hv bA hX bB hb1 hsh hfit hf hby HL0
  go_enter Tryz.func212, Tryz.ntmps212
  go_wp2_with fail
  refine HW.out.mono ?_
  rintro e w2 ⟨rfl, hb2⟩
  have hX2 := (hb2.heap (Array.getElem?_eq_some_iff.1 hX1.out).1).trans hX1.out
  obtain ⟨x0, x1, x2, x3, lX⟩ := row4 hX2
  have f0 := frozen_of_row w2 w.heap.size 0 _ 217 hX2
  have f1 := frozen_of_row w2 w.heap.size 1 _ 217 hX2
  have f2 := frozen_of_row w2 w.heap.size 2 _ 217 hX2
  have f3 := frozen_of_row w2 w.heap.size 3 _ 217 hX2
  have HB2 := hid (HB1.out.trans hb2)
  have HX2 := hid hX2
  clear HW hb2 hX2 hX1 HB1
  go_wp2
  have Z := ((((Only.refl (fun b => b = w.heap.size) w2).setCell ⟨w.heap.size, 0, none⟩ (.inl rfl) (.int .i64 0)).setCell ⟨w.heap.size, 1, none⟩ (.inl rfl) (.int .i64 0)).setCell ⟨w.heap.size, 2, none⟩ (.inl rfl) (.int .i64 0)).setCell ⟨w.heap.size, 3, none⟩ (.inl rfl) (.slice none 0 0)
  have hB := HB2.out.trans_only Z fun n e => by omega
  have hX5 := set4_heap HX2.out (.int .i64 0) (.int .i64 0) (.int .i64 0) (.slice none 0 0)
  have bD := (Bl.refl ((((w2.setCell ⟨w.heap.size, 0, none⟩ (.int .i64 0)).setCell ⟨w.heap.size, 1, none⟩ (.int .i64 0)).setCell ⟨w.heap.size, 2, none⟩ (.int .i64 0)).setCell ⟨w.heap.size, 3, none⟩ (.slice none 0 0))).alloc (.cells #[.int .i64 0, .slice none 0 0, .slice none 0 0] 309)
  obtain ⟨y0, y1, y2, y3, _⟩ := row4 ((bD.heap (Array.getElem?_eq_some_iff.1 hX5).1).trans hX5)
  exact bodyPost_ret (v := .tuple #[.int .i64 0, .agg #[.int .i64 0, .int .i64 0, .int .i64 0, .slice none 0 0], .bool false]) (by simp only [results, Tryz.results212]; simp [go_sem, y0, y1, y2, y3]) rfl ⟨rfl, hB.trans bD⟩
end Go.Proofs.YtnhjmiglegdamaaGreat
