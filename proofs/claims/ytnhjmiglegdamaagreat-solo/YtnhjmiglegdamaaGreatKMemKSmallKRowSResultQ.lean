-- The world of furrowkeep as it lies in memory.
-- Small functions of furrowkeep's world.
-- How the world of furrowkeep turns: cells of rows, its own block.
-- How a call ended.
import Derived.Test.YtnhjmiglegdamaaGreatSCRecvSDoorsSGiveSFurKPureQ
import Derived.Test.YtnhjmiglegdamaaGreatSWnDMapSEndSShelfSLayQ
namespace Go.Proofs.YtnhjmiglegdamaaGreat
open Go.RowKit Go.Maps

/-- What bears a mark outside of P is as it was; what was there keeps its mark. -/
structure KSt (P : Nat → Prop) (w : World) (tag : Nat → Nat) (w' : World) (tag' : Nat → Nat) : Prop where
  only : Only (fun b => P (tag b)) w w'
  tag : ∀ b, b < w.heap.size → tag' b = tag b
section
variable {P Q : Nat → Prop} {w w' w2 : World} {tag tag' tag2 : Nat → Nat}
theorem KSt.refl : KSt P w tag w tag := ⟨Only.refl _ _, fun _ _ => rfl⟩
theorem KSt.trans (h : KSt P w tag w' tag') (k : KSt P w' tag' w2 tag2) : KSt P w tag w2 tag2 :=
  ⟨⟨k.only.os.trans h.only.os, k.only.tape.trans h.only.tape, k.only.output.trans h.only.output, Nat.le_trans h.only.size k.only.size, fun i hi hn => by
    rw [k.only.block i (Nat.lt_of_lt_of_le hi h.only.size) (by rw [h.tag i hi]; exact hn), h.only.block i hi hn]⟩,
   fun b hb => (k.tag b (Nat.lt_of_lt_of_le hb h.only.size)).trans (h.tag b hb)⟩
theorem KSt.mono (h : KSt P w tag w' tag') (hq : ∀ t, P t → Q t) : KSt Q w tag w' tag' := ⟨h.only.mono fun _ _ e => hq _ e, h.tag⟩
theorem KSt.of_bl (h : Bl w w') (t : Nat) : KSt P w tag w' (tagTo tag w.heap.size t) := ⟨Only.of_bl h, fun _ hb => tagTo_old _ _ _ _ hb⟩
theorem KSt.of_bl' (h : Bl w w') (ht : ∀ b, b < w.heap.size → tag' b = tag b) : KSt P w tag w' tag' := ⟨Only.of_bl h, ht⟩
theorem KSt.size (h : KSt P w tag w' tag') : w.heap.size ≤ w'.heap.size := h.only.size
theorem KSt.heap (h : KSt P w tag w' tag') {b t : Nat} {o : Obj} (hb : w.heap[b]? = some o) (hg : tag b = t) (ht : ¬ P t) : w'.heap[b]? = some o ∧ tag' b = t := by
  have lb := (Array.getElem?_eq_some_iff.1 hb).1
  exact ⟨(h.only.block b lb (by rw [hg]; exact ht)).trans hb, (h.tag b lb).trans hg⟩
/-- A row of its own, in a block with a mark. -/
structure RowT (w : World) (tag : Nat → Nat) (t : Nat) (e : TypeId) (sz : Nat) (v : Value) (n : Nat) (xs : List Value) : Prop where
  own : w.ownsRow 0 e sz v n xs
  tag : ∀ b, v.ownBlock = some b → tag b = t
theorem RowT.nil (t : Nat) (e : TypeId) (sz : Nat) : RowT w tag t e sz (.slice none 0 0) 0 [] := ⟨World.ownsRow_nil _ _ _ _, fun b hb => by simp [Value.ownBlock] at hb⟩
theorem RowT.kst {t sz n : Nat} {e : TypeId} {v : Value} {xs : List Value} (h : RowT w tag t e sz v n xs) (k : KSt P w tag w' tag') (ht : ¬ P t) : RowT w' tag' t e sz v n xs :=
  ⟨k.only.owns h.own fun b hb hP => ht (by rw [← h.tag b hb]; exact hP), fun b hb => (k.tag b (h.own.lt b hb).2).trans (h.tag b hb)⟩
theorem RowT.shape {t sz n : Nat} {e : TypeId} {v : Value} {xs : List Value} (h : RowT w tag t e sz v n xs) : ∃ a c, v = .slice a n c := by
  rcases h.own.2 with ⟨e, e'⟩ | ⟨g, cap, cur, e, _⟩
  · exact ⟨_, _, by rw [e, e']⟩
  · exact ⟨_, _, e⟩
theorem RowT.block {t sz n : Nat} {e : TypeId} {v : Value} {xs : List Value} (h : RowT w tag t e sz v n xs) (h0 : 0 < n) : ∃ g cap cur, v = .slice (some ⟨g, 0, none⟩) n cap ∧ tag g = t ∧ g < w.heap.size ∧ w.heap[g]? = some (.cells cur e (0, 0)) ∧ n ≤ cap ∧ cap ≤ maxLen := by
  have hl := fun b hb => (h.own.lt b hb).2
  have ht := h.tag
  rcases h.own.2 with ⟨e, e'⟩ | ⟨g, cap, cur, e, _, e2, e3, e4, _⟩
  · omega
  · subst e
    exact ⟨g, cap, cur, rfl, ht g rfl, hl g rfl, e2, e3, e4⟩
theorem Rd.kst {t : Nat} {e : TypeId} {v : Value} {cs : List Value} (h : Rd w tag t e v cs) (k : KSt P w tag w' tag') (ht : ¬ P t) : Rd w' tag' t e v cs :=
  h.of_heap fun b arr f hb hg => by
    have := k.heap hb hg ht
    exact ⟨this.1.trans hb.symm, this.2⟩
theorem Nd.kst {tg tn tb g : Nat} {a b c d ch : Int} {rs : List Rc} {S : Nat → St} {q : List (Int × List Int)} (h : Nd w tag tg tn tb g a b c d ch rs S q) (k : KSt P w tag w' tag') (h1 : ¬ P tg) (h2 : ¬ P tn) (h3 : ¬ P tb) : Nd w' tag' tg tn tb g a b c d ch rs S q :=
  h.only k.only (fun _ _ e => ⟨fun e' => h1 (e' ▸ e), fun e' => h2 (e' ▸ e), fun e' => h3 (e' ▸ e)⟩) k.tag
/-- Where nothing waits, the blocks of answers may turn. -/
theorem Nd.kst0 {tg tn tb g : Nat} {a b c d ch : Int} {rs : List Rc} {S : Nat → St} (h : Nd w tag tg tn tb g a b c d ch rs S []) (k : KSt P w tag w' tag') (h1 : ¬ P tg) (h2 : ¬ P tn) : Nd w' tag' tg tn tb g a b c d ch rs S [] := by
  obtain ⟨p, ov, hg, htg, hk, xs, ⟨hq, hq2, _⟩, hap⟩ := h
  have hh := k.heap hg htg h2
  exact ⟨p, ov, hh.1, hh.2, hk.only k.only (fun b _ e e' => h1 (e' ▸ e)) k.tag, xs, ⟨k.only.owns hq fun b hb e => h2 ((hq2 b hb) ▸ e), fun b hb => (k.tag b (hq.lt b hb).2).trans (hq2 b hb), fun i hi => by simp at hi⟩, hap⟩
theorem Vd.kst {tn g : Nat} (h : Vd w tag tn g) (k : KSt P w tag w' tag') (h2 : ¬ P tn) : Vd w' tag' tn g := h.only k.only (fun _ _ e e' => h2 (e' ▸ e)) k.tag
theorem Cl.kst {tc p q n m : Nat} {vo ce id : Int} {X : CX} (h : Cl w tag tc p q n m vo ce id X) (k : KSt P w tag w' tag') (h2 : ¬ P tc) : Cl w' tag' tc p q n m vo ce id X := h.only k.only (fun _ _ e e' => h2 (e' ▸ e)) (fun b hb e => (k.tag b hb).trans e)

/-- The number of a node. -/
def plId (n m i : Nat) : Int := if i < n * m then i else 100 + i - (n * m : Nat)
/-- A node: a unit, or a voter that lies idle. -/
def NodeOk (w : World) (tag : Nat → Nat) (n m v : Nat) (ce : Int) (us : List UQ) (now : Int) (i g : Nat) (mk : Int) : Prop :=
  (i < n * m ∧ ∃ U rs S, us[i]? = some U ∧ Nd w tag (10 + 3 * i) (11 + 3 * i) (12 + 3 * i) g n m v ce ((i / m : Nat) : Int) rs S (U.q.map rawQ) ∧ S rs.length = U.s ∧ 0 ≤ mk ∧ mk ≤ (flat rs).length ∧ ((flat rs).length : Int) ≤ 60 * now) ∨ (n * m ≤ i ∧ mk = 0 ∧ Vd w tag (11 + 3 * i) g)
theorem NodeOk.kst {n m v i g : Nat} {ce now mk : Int} {us : List UQ} (h : NodeOk w tag n m v ce us now i g mk) (k : KSt P w tag w' tag') (h1 : ¬ P (10 + 3 * i)) (h2 : ¬ P (11 + 3 * i)) (h3 : ¬ P (12 + 3 * i)) : NodeOk w' tag' n m v ce us now i g mk := by
  rcases h with ⟨hi, U, rs, S, e1, e2, e3⟩ | ⟨hi, e1, e2⟩
  · exact .inl ⟨hi, U, rs, S, e1, e2.kst k h1 h2 h3, e3⟩
  · exact .inr ⟨hi, e1, e2.kst k h2⟩
theorem NodeOk.later {n m v i g : Nat} {ce now now' mk : Int} {us us' : List UQ} (h : NodeOk w tag n m v ce us now i g mk) (hn : now ≤ now') (hu : us'[i]? = us[i]?) : NodeOk w tag n m v ce us' now' i g mk := by
  rcases h with ⟨hi, U, rs, S, e1, e2, e3, e4, e5, e6⟩ | h
  · exact .inl ⟨hi, U, rs, S, hu.trans e1, e2, e3, e4, e5, by omega⟩
  · exact .inr h
/-- The five cells of a node. -/
def PlAt (ps : List Value) (n m i g : Nat) (mk : Int) : Prop := ps[i * 5]? = some (.int .i64 (plId n m i)) ∧ ps[i * 5 + 1]? = some (.pointer (some ⟨g, 0, none⟩)) ∧ ps[i * 5 + 2]? = some (.int .i64 mk) ∧ ps[i * 5 + 3]? = some (.bool true) ∧ ps[i * 5 + 4]? = some (.bool false)
structure PlsX (w : World) (tag : Nat → Nat) (n m v : Nat) (ce : Int) (us : List UQ) (now : Int) (pv : Value) (ps : List Value) : Prop where
  row : RowT w tag 2 72 5 pv (n * m + v) ps
  pl : ∀ i, i < n * m + v → ∃ g mk, PlAt ps n m i g mk ∧ NodeOk w tag n m v ce us now i g mk
theorem PlsX.kst {n m v : Nat} {ce now : Int} {us : List UQ} {pv : Value} {ps : List Value} (h : PlsX w tag n m v ce us now pv ps) (k : KSt P w tag w' tag') (h2 : ¬ P 2) (hP : ∀ i, i < n * m + v → ¬ P (10 + 3 * i) ∧ ¬ P (11 + 3 * i) ∧ ¬ P (12 + 3 * i)) : PlsX w' tag' n m v ce us now pv ps :=
  ⟨h.row.kst k h2, fun i hi => by
    obtain ⟨g, mk, e1, e2⟩ := h.pl i hi
    exact ⟨g, mk, e1, e2.kst k (hP i hi).1 (hP i hi).2.1 (hP i hi).2.2⟩⟩
theorem PlsX.later {n m v : Nat} {ce now now' : Int} {us : List UQ} {pv : Value} {ps : List Value} (h : PlsX w tag n m v ce us now pv ps) (hn : now ≤ now') : PlsX w tag n m v ce us now' pv ps :=
  ⟨h.row, fun i hi => by
    obtain ⟨g, mk, e1, e2⟩ := h.pl i hi
    exact ⟨g, mk, e1, e2.later hn rfl⟩⟩
/-- The eleven cells of a call. -/
def CallC (w : World) (tag : Nat → Nat) (cs : List Value) (i : Nat) (c : PK) : Prop := ∃ tv rv, cs[i * 11]? = some (.int .i64 0) ∧ cs[i * 11 + 1]? = some (.int .i64 i) ∧ cs[i * 11 + 2]? = some (.int .i64 c.kind) ∧ cs[i * 11 + 3]? = some (.int .i64 c.pos) ∧ cs[i * 11 + 4]? = some (.string (strOf c.value)) ∧ cs[i * 11 + 5]? = some tv ∧ cs[i * 11 + 6]? = some (.int .i64 c.beg) ∧ cs[i * 11 + 7]? = some (.int .i64 c.fin) ∧ cs[i * 11 + 8]? = some (.int .i64 c.r.wh) ∧ cs[i * 11 + 9]? = some (.int .i64 c.r.ad) ∧ cs[i * 11 + 10]? = some rv ∧ RowT w tag (100 + i) 3 1 tv c.tokens.length (c.tokens.map (Value.int .i64)) ∧ Rd w tag 99 5 rv (c.r.val.map B8)
structure CallsX (w : World) (tag : Nat → Nat) (calls : List PK) (cv : Value) (cs : List Value) : Prop where
  row : RowT w tag 4 60 11 cv calls.length cs
  c : ∀ i c, calls[i]? = some c → CallC w tag cs i c
theorem CallC.kst {cs : List Value} {i : Nat} {c : PK} (h : CallC w tag cs i c) (k : KSt P w tag w' tag') (h1 : ¬ P (100 + i)) (h2 : ¬ P 99) : CallC w' tag' cs i c := by
  obtain ⟨tv, rv, e1, e2, e3, e4, e5, e6, e7, e8, e9, e10, e11, e12, e13⟩ := h
  exact ⟨tv, rv, e1, e2, e3, e4, e5, e6, e7, e8, e9, e10, e11, e12.kst k h1, e13.kst k h2⟩
theorem CallsX.kst {calls : List PK} {cv : Value} {cs : List Value} (h : CallsX w tag calls cv cs) (k : KSt P w tag w' tag') (h4 : ¬ P 4) (h9 : ¬ P 99) (hP : ∀ i, i < calls.length → ¬ P (100 + i)) : CallsX w' tag' calls cv cs :=
  ⟨h.row.kst k h4, fun i c hc => (h.c i c hc).kst k (hP i (List.getElem?_eq_some_iff.1 hc).1) h9⟩
/-- Letters: from whom, to whom, the bytes. -/
structure PoolX (w : World) (tag : Nat → Nat) (pool : List Ms) (lv : Value) (ls : List Value) : Prop where
  row : RowT w tag 8 135 3 lv pool.length ls
  l : ∀ j x, pool[j]? = some x → ls[j * 3]? = some (.int .i64 x.fr) ∧ ls[j * 3 + 1]? = some (.int .i64 x.to) ∧ ∃ dv, ls[j * 3 + 2]? = some dv ∧ Rd w tag 98 5 dv (x.data.map B8)
theorem PoolX.nil : PoolX w tag [] (.slice none 0 0) [] := ⟨RowT.nil _ _ _, fun j x h => by simp at h⟩
theorem PoolX.kst {pool : List Ms} {lv : Value} {ls : List Value} (h : PoolX w tag pool lv ls) (k : KSt P w tag w' tag') (h8 : ¬ P 8) (h9 : ¬ P 98) : PoolX w' tag' pool lv ls :=
  ⟨h.row.kst k h8, fun j x hx => by
    obtain ⟨e1, e2, dv, e3, e4⟩ := h.l j x hx
    exact ⟨e1, e2, dv, e3, e4.kst k h9⟩⟩
/-- The world's own block. -/
def wdL (n m v : Nat) (ce : Int) (pv av lv cv : Value) (now : Int) (hv : Value) : List Value := [.int .i64 n, .int .i64 m, .int .i64 v, .int .i64 ce, pv, av, lv, cv, .int .i64 now, hv, .slice none 0 0]
structure WdX (w : World) (tag : Nat → Nat) (g p q n m v : Nat) (ce : Int) (K : KW) (pv av lv cv hv : Value) (ps cs ls : List Value) : Prop where
  hg : w.heap[g]? = some (.cells (wdL n m v ce pv av lv cv K.now hv).toArray 66 (0, 0))
  tg : tag g = 1
  pls : PlsX w tag n m v ce K.us K.now pv ps
  ac : RowT w tag 3 126 3 av 1 [.int .i64 1000, .pointer (some ⟨p, 0, none⟩), .bool true]
  cl : Cl w tag 5 p q n m v ce 1000 K.X
  ca : CallsX w tag K.calls cv cs
  po : PoolX w tag K.pool lv ls
  ha : ∃ hs, RowT w tag 7 3 1 hv K.had hs
/-- What the world does not bear. -/
def Free (n m v k : Nat) (P : Nat → Prop) : Prop := ¬ P 1 ∧ ¬ P 2 ∧ ¬ P 3 ∧ ¬ P 4 ∧ ¬ P 5 ∧ ¬ P 7 ∧ ¬ P 8 ∧ ¬ P 98 ∧ ¬ P 99 ∧ (∀ i, i < n * m + v → ¬ P (10 + 3 * i) ∧ ¬ P (11 + 3 * i) ∧ ¬ P (12 + 3 * i)) ∧ ∀ i, i < k → ¬ P (100 + i)
theorem WdX.kst {g p q n m v : Nat} {ce : Int} {K : KW} {pv av lv cv hv : Value} {ps cs ls : List Value} (h : WdX w tag g p q n m v ce K pv av lv cv hv ps cs ls) (k : KSt P w tag w' tag') (hf : Free n m v K.calls.length P) : WdX w' tag' g p q n m v ce K pv av lv cv hv ps cs ls := by
  obtain ⟨f1, f2, f3, f4, f5, f7, f8, f98, f99, fp, fk⟩ := hf
  obtain ⟨hs, hh⟩ := h.ha
  exact ⟨(k.heap h.hg h.tg f1).1, (k.heap h.hg h.tg f1).2, h.pls.kst k f2 fp, h.ac.kst k f3, h.cl.kst k f5, h.ca.kst k f4 f99 fk, h.po.kst k f8 f98, hs, hh.kst k f7⟩
theorem free_none (n m v k : Nat) : Free n m v k (fun _ => False) := ⟨by simp, by simp, by simp, by simp, by simp, by simp, by simp, by simp, by simp, fun _ _ => by simp, fun _ _ => by simp⟩
theorem WdX.bl {g p q n m v : Nat} {ce : Int} {K : KW} {pv av lv cv hv : Value} {ps cs ls : List Value} (h : WdX w tag g p q n m v ce K pv av lv cv hv ps cs ls) (hb : Bl w w') (ht : ∀ b, b < w.heap.size → tag' b = tag b) : WdX w' tag' g p q n m v ce K pv av lv cv hv ps cs ls :=
  h.kst (P := fun _ => False) (KSt.of_bl' hb ht) (free_none _ _ _ _)
end
end Go.Proofs.YtnhjmiglegdamaaGreat

namespace Go.Proofs.YtnhjmiglegdamaaGreat
open Go.RowKit Go.Maps
attribute [local go_sem ↓] Go.wp_at_zero Go.wp_at_succ
section
variable {P Q : Nat → Prop} {w w' w2 : World} {tag tag' tag2 : Nat → Nat}
theorem own_set {base sz g n cap : Nat} {e : TypeId} {xs : List Value} (h : w.ownsRow base e sz (.slice (some ⟨g, 0, none⟩) n cap) n xs) (j : Nat) (u : Value) : (w.setCell ⟨g, j, none⟩ u).ownsRow base e sz (.slice (some ⟨g, 0, none⟩) n cap) n (xs.set j u) := by
  refine ⟨by rw [List.length_set]; exact h.1, ?_⟩
  rcases h.2 with ⟨e, _⟩ | ⟨g', cap', cur, e, h1, h2, h3, h4, h5, h6⟩
  · simp at e
  · simp only [Value.slice.injEq, Option.some.injEq, Addr.mk.injEq, and_true, true_and] at e
    obtain ⟨rfl, rfl⟩ := e
    refine .inr ⟨g, cap, cur.setIfInBounds j u, rfl, h1, heap_setCell_same w g j cur _ u h2, h3, h4, by simpa using h5, ?_⟩
    rw [← h6, Array.toList_setIfInBounds, List.take_set]
theorem RowT.cells {t sz n cap : Nat} {a : Option Addr} {e : TypeId} {xs : List Value} (h : RowT w tag t e sz (.slice a n cap) n xs) (h0 : 0 < n) : ∃ g, a = some ⟨g, 0, none⟩ ∧ tag g = t ∧ g < w.heap.size ∧ (∀ j, j < n * sz → w.cell? ⟨g, j, none⟩ = xs[j]?) ∧ ∀ j, w.frozen? ⟨g, j, none⟩ = false := by
  obtain ⟨g, cap', cur, e1, e2, e3, e4, _⟩ := h.block h0
  simp only [Value.slice.injEq, true_and] at e1
  obtain ⟨rfl, rfl⟩ := e1
  exact ⟨g, rfl, e2, e3, fun j hj => h.own.cellAt j hj, fun j => frozen_of_row w g j _ _ e4⟩
theorem WdX.cellAt {g p q n m v : Nat} {ce : Int} {K : KW} {pv av lv cv hv : Value} {ps cs ls : List Value} (h : WdX w tag g p q n m v ce K pv av lv cv hv ps cs ls) (o : Nat) {u : Value} (hu : (wdL n m v ce pv av lv cv K.now hv)[o]? = some u) : w.cell? ⟨g, o, none⟩ = some u := by
  rw [cell_of_row w g o _ 66 (0, 0) h.hg]; simpa using hu
theorem WdX.lt {g p q n m v : Nat} {ce : Int} {K : KW} {pv av lv cv hv : Value} {ps cs ls : List Value} (h : WdX w tag g p q n m v ce K pv av lv cv hv ps cs ls) : g < w.heap.size := (Array.getElem?_eq_some_iff.1 h.hg).1
end
section
variable {w : World} {tag : Nat → Nat} {g p q n m v : Nat} {ce : Int} {K : KW} {pv av lv cv hv : Value} {ps cs ls : List Value}
set_option maxRecDepth 100000 in
set_option maxHeartbeats 2000000 in
theorem total_any (h : WdX w tag g p q n m v ce K pv av lv cv hv ps cs ls) (hf : fit n m v ce = true) :
    Calls Tryz.prog 27 #[.pointer (some ⟨g, 0, none⟩)] w fun en w' => en = .returned (.int .i64 (n * ce)) ∧ Bl w w' := by
  obtain ⟨f1, f2, f3, f4⟩ := fit_bd hf
  have c0 := h.cellAt 0 rfl
  have c3 := h.cellAt 3 rfl
  have lg := h.lt
  have hm := mul_bd f1 f2 f3 f4
  have hw : IntKind.i64.wrap ((n : Int) * ce) = n * ce := by rw [IntKind.wrap_i64]; omega
  clear h
  go_enter Tryz.func27, Tryz.ntmps27
  go_wp2_with fail
  go_quiet (fail)
  go_wp2
  go_ret
  exact ⟨rfl, by first | exact Bl.refl _ | exact (Bl.refl _).drew | exact (Bl.refl _).drewN _⟩
set_option maxRecDepth 100000 in
set_option maxHeartbeats 2000000 in
theorem numberOf_any (h : WdX w tag g p q n m v ce K pv av lv cv hv ps cs ls) (hl : K.calls.length ≤ 1000) :
    Calls Tryz.prog 54 #[.pointer (some ⟨g, 0, none⟩), .int .i64 0] w fun en w' => en = .returned (.int .i64 K.calls.length) ∧ w' = w := by
  obtain ⟨ca, cc, rfl⟩ := h.ca.row.shape
  have c7 := h.cellAt 7 rfl
  have lg := h.lt
  have HC := hid h.ca
  clear h
  go_enter Tryz.func54, Tryz.ntmps54
  go_wp2_with fail
  go_loopw [5, 6] (fun s i wr => ∃ k : Nat, k ≤ K.calls.length ∧ s = .int .i64 k ∧ i = .int .i64 k ∧ wr = w) (fun _ i _ => K.calls.length - (Go.RowKit.intOf i).toNat)
  case atStart => exact ⟨0, Nat.zero_le _, rfl, rfl, rfl⟩
  case round =>
    obtain ⟨k, hk, rfl, rfl, rfl⟩ := hrel
    by_cases hlt : k < K.calls.length
    · have hltI : (k : Int) < (K.calls.length : Int) := by omega
      obtain ⟨cb, rfl, _, lcb, hce, _⟩ := HC.out.row.cells (by omega)
      obtain ⟨tv, rv, e0, _⟩ := HC.out.c k _ (List.getElem?_eq_getElem hlt)
      have d0 := (hce (k * 11) (by omega)).trans e0
      clear hce e0
      go_wp2
      go_roundw
      case rel => exact ⟨k + 1, by omega, by go_num, by go_num, trivial⟩
      case measure => simp [Go.RowKit.intOf]; omega
    · have hge : ¬ ((k : Int) < (K.calls.length : Int)) := by omega
      have hkn : k = K.calls.length := by omega
      go_wp2
      go_ret
      exact ⟨rfl, rfl⟩
set_option maxRecDepth 100000 in
set_option maxHeartbeats 2000000 in
theorem pending_any (h : WdX w tag g p q n m v ce K pv av lv cv hv ps cs ls) (hl : K.calls.length ≤ 1000) (hp : ∀ (i : Nat) (c : PK), K.calls[i]? = some c → c.fin ≠ 0) :
    Calls Tryz.prog 55 #[.pointer (some ⟨g, 0, none⟩), .int .i64 0] w fun en w' => en = .returned (.int .i64 0) ∧ w' = w := by
  obtain ⟨ca, cc, rfl⟩ := h.ca.row.shape
  have c7 := h.cellAt 7 rfl
  have lg := h.lt
  have HC := hid h.ca
  have HP := hid hp
  clear h hp
  go_enter Tryz.func55, Tryz.ntmps55
  go_wp2_with fail
  go_loopw [5, 6] (fun s i wr => ∃ k : Nat, k ≤ K.calls.length ∧ s = .int .i64 0 ∧ i = .int .i64 k ∧ wr = w) (fun _ i _ => K.calls.length - (Go.RowKit.intOf i).toNat)
  case atStart => exact ⟨0, Nat.zero_le _, rfl, rfl, rfl⟩
  case round =>
    obtain ⟨k, hk, rfl, rfl, rfl⟩ := hrel
    by_cases hlt : k < K.calls.length
    · have hltI : (k : Int) < (K.calls.length : Int) := by omega
      obtain ⟨cb, rfl, _, lcb, hce, _⟩ := HC.out.row.cells (by omega)
      obtain ⟨tv, rv, e0, e1, e2, e3, e4, e5, e6, e7, _⟩ := HC.out.c k _ (List.getElem?_eq_getElem hlt)
      have d0 := (hce (k * 11) (by omega)).trans e0
      have d7 := (hce (k * 11 + 7) (by omega)).trans e7
      have hne := HP.out k _ (List.getElem?_eq_getElem hlt)
      generalize K.calls[k].fin = fi at *
      clear hce e0 e1 e2 e3 e4 e5 e6 e7
      go_wp2
      go_roundw
      case rel => exact ⟨k + 1, by omega, rfl, by go_num, trivial⟩
      case measure => simp [Go.RowKit.intOf]; omega
    · have hge : ¬ ((k : Int) < (K.calls.length : Int)) := by omega
      go_wp2
      go_ret
      exact ⟨rfl, rfl⟩
set_option maxRecDepth 100000 in
set_option maxHeartbeats 2000000 in
/-- There are no masks. -/
theorem parted_any (h : WdX w tag g p q n m v ce K pv av lv cv hv ps cs ls) (fr tt : Int) (da : Option Addr) (dn dc : Nat) :
    Calls Tryz.prog 99 #[.pointer (some ⟨g, 0, none⟩), .agg #[.int .i64 fr, .int .i64 tt, .slice da dn dc]] w fun en w' => en = .returned (.bool false) ∧ Bl w w' := by
  have bA := (Bl.refl w).alloc (.cells #[.int .i64 fr, .int .i64 tt, .slice da dn dc] 135)
  have c10 := (bA.cell h.lt).trans (h.cellAt 10 rfl)
  have lg := Nat.lt_of_lt_of_le h.lt bA.lt
  have HB := hid bA
  clear h bA
  go_enter Tryz.func99, Tryz.ntmps99
  go_wp2_with fail
  go_loopw [5] (fun i wr => i = .int .i64 0 ∧ wr = w.alloc (.cells #[.int .i64 fr, .int .i64 tt, .slice da dn dc] 135)) (fun _ _ => 0)
  case atStart => exact ⟨rfl, rfl⟩
  case round =>
    obtain ⟨rfl, rfl⟩ := hrel
    go_wp2
    go_ret
    exact ⟨rfl, HB.out⟩
end
end Go.Proofs.YtnhjmiglegdamaaGreat

namespace Go.Proofs.YtnhjmiglegdamaaGreat
open Go.RowKit Go.Maps
attribute [local go_sem ↓] Go.wp_at_zero Go.wp_at_succ
theorem putL_len : ∀ (vs : List Value) (l : List Value) (o : Nat), (putL l o vs).length = l.length
  | [], _, _ => rfl
  | v :: vs, l, o => by unfold putL; rw [putL_len vs]; simp
theorem putL_out : ∀ (vs : List Value) (l : List Value) (o j : Nat), (j < o ∨ o + vs.length ≤ j) → (putL l o vs)[j]? = l[j]?
  | [], _, _, _, _ => rfl
  | v :: vs, l, o, j, h => by
    unfold putL
    rw [putL_out vs _ _ _ (by simp at h; omega), List.getElem?_set_ne (by simp at h; omega)]
theorem putL_in : ∀ (vs : List Value) (l : List Value) (o k : Nat), k < vs.length → o + vs.length ≤ l.length → (putL l o vs)[o + k]? = vs[k]?
  | [], _, _, _, h, _ => by simp at h
  | v :: vs, l, o, 0, _, h2 => by
    unfold putL
    rw [putL_out vs _ _ _ (by omega), Nat.add_zero, List.getElem?_set_self (by simp at h2; omega)]
    rfl
  | v :: vs, l, o, k + 1, h1, h2 => by
    unfold putL
    rw [show o + (k + 1) = (o + 1) + k by omega, putL_in vs _ _ _ (by simpa using h1) (by simp at h2 ⊢; omega)]
    simp
theorem own_puts {base sz g n cap : Nat} {e : TypeId} : ∀ (vs : List Value) (o : Nat) (w : World) (xs : List Value), w.ownsRow base e sz (.slice (some ⟨g, 0, none⟩) n cap) n xs → (puts w g o vs).ownsRow base e sz (.slice (some ⟨g, 0, none⟩) n cap) n (putL xs o vs)
  | [], _, _, _, h => h
  | v :: vs, o, _, _, h => own_puts vs (o + 1) _ _ (own_set h o v)
section
variable {P Q : Nat → Prop} {w w' w2 : World} {tag tag' tag2 : Nat → Nat} {g p q n m v : Nat} {ce : Int} {K : KW} {pv av lv cv hv : Value} {ps cs ls : List Value}
theorem kst_set {b t : Nat} (ht : tag b = t) (o : Nat) (u : Value) : KSt (fun s => s = t) w tag (w.setCell ⟨b, o, none⟩ u) tag := ⟨(Only.refl _ w).setCell ⟨b, o, none⟩ (.inl ht) _, fun _ _ => rfl⟩
theorem kst_puts {b t : Nat} (ht : tag b = t) (o : Nat) (vs : List Value) : KSt (fun s => s = t) w tag (puts w b o vs) tag := ⟨puts_only (S := fun b => tag b = t) (.inl ht) vs o w (Only.refl _ w), fun _ _ => rfl⟩
/-- Time goes on. -/
theorem WdX.setNow (h : WdX w tag g p q n m v ce K pv av lv cv hv ps cs ls) (t : Int) (ht : K.now ≤ t) : WdX (w.setCell ⟨g, 8, none⟩ (.int .i64 t)) tag g p q n m v ce { K with now := t } pv av lv cv hv ps cs ls := by
  have k : KSt (fun s => s = 1) w tag (w.setCell ⟨g, 8, none⟩ (.int .i64 t)) tag := kst_set h.tg 8 _
  obtain ⟨hs, hh⟩ := h.ha
  exact ⟨set_heap 8 _ w _ h.hg, h.tg, (h.pls.kst k (by omega) (fun i _ => by omega)).later ht, h.ac.kst k (by omega), h.cl.kst k (by omega), h.ca.kst k (by omega) (by omega) (fun i _ => by omega), h.po.kst k (by omega) (by omega), hs, hh.kst k (by omega)⟩
/-- The calls turn. -/
theorem WdX.reCalls (h : WdX w tag g p q n m v ce K pv av lv cv hv ps cs ls) (k : KSt (fun t => t = 4 ∨ t = 99 ∨ 100 ≤ t) w tag w' tag') {calls' : List PK} {cs' : List Value} (hc : CallsX w' tag' calls' cv cs') (hnm : n * m + v ≤ 20) : WdX w' tag' g p q n m v ce { K with calls := calls' } pv av lv cv hv ps cs' ls := by
  obtain ⟨hs, hh⟩ := h.ha
  exact ⟨(k.heap h.hg h.tg (by omega)).1, (k.heap h.hg h.tg (by omega)).2, h.pls.kst k (by omega) (fun i hi => by omega), h.ac.kst k (by omega), h.cl.kst k (by omega), hc, h.po.kst k (by omega) (by omega), hs, hh.kst k (by omega)⟩
/-- A call's end and result are noted. -/
theorem CallsX.see {calls : List PK} {cb len cap i : Nat} {c : PK} (h : CallsX w tag calls (.slice (some ⟨cb, 0, none⟩) len cap) cs) (hlen : calls.length = len) (hc : calls[i]? = some c) (t : Int) (r : Rz) (rv : Value) (hr : Rd w tag 99 5 rv (r.val.map B8)) :
    CallsX (puts w cb (i * 11 + 7) [.int .i64 t, .int .i64 r.wh, .int .i64 r.ad, rv]) tag (calls.set i { c with fin := t, r := r }) (.slice (some ⟨cb, 0, none⟩) len cap) (putL cs (i * 11 + 7) [.int .i64 t, .int .i64 r.wh, .int .i64 r.ad, rv]) := by
  subst hlen
  have tcb := h.row.tag cb rfl
  have k : KSt (fun s => s = 4) w tag (puts w cb (i * 11 + 7) [.int .i64 t, .int .i64 r.wh, .int .i64 r.ad, rv]) tag := kst_puts tcb _ _
  have hl := h.row.own.1
  have hil := (List.getElem?_eq_some_iff.1 hc).1
  have hput : i * 11 + 7 + 4 ≤ cs.length := by omega
  refine ⟨⟨by rw [List.length_set]; exact own_puts _ _ _ _ h.row.own, h.row.tag⟩, fun j c' hj => ?_⟩
  by_cases hji : j = i
  · subst hji
    rw [List.getElem?_set_self hil] at hj
    simp only [Option.some.injEq] at hj
    subst hj
    obtain ⟨tv, rv0, e0, e1, e2, e3, e4, e5, e6, e7, e8, e9, e10, e11, e12⟩ := h.c j c hc
    have z := fun kk hk => putL_in [.int .i64 t, .int .i64 r.wh, .int .i64 r.ad, rv] cs (j * 11 + 7) kk hk hput
    have y := fun o (ho : o < 7) => putL_out [.int .i64 t, .int .i64 r.wh, .int .i64 r.ad, rv] cs (j * 11 + 7) (j * 11 + o) (.inl (by omega))
    exact ⟨tv, rv, (y 0 (by omega)).trans e0, (y 1 (by omega)).trans e1, (y 2 (by omega)).trans e2, (y 3 (by omega)).trans e3, (y 4 (by omega)).trans e4, (y 5 (by omega)).trans e5, (y 6 (by omega)).trans e6, z 0 (by simp), z 1 (by simp), z 2 (by simp), z 3 (by simp), e11.kst k (by omega), hr.kst k (by omega)⟩
  · rw [List.getElem?_set_ne (Ne.symm hji)] at hj
    obtain ⟨tv, rv0, e0, e1, e2, e3, e4, e5, e6, e7, e8, e9, e10, e11, e12⟩ := h.c j c' hj
    have y := fun o (ho : o < 11) => putL_out [.int .i64 t, .int .i64 r.wh, .int .i64 r.ad, rv] cs (i * 11 + 7) (j * 11 + o) (by simp; omega)
    exact ⟨tv, rv0, (y 0 (by omega)).trans e0, (y 1 (by omega)).trans e1, (y 2 (by omega)).trans e2, (y 3 (by omega)).trans e3, (y 4 (by omega)).trans e4, (y 5 (by omega)).trans e5, (y 6 (by omega)).trans e6, (y 7 (by omega)).trans e7, (y 8 (by omega)).trans e8, (y 9 (by omega)).trans e9, (y 10 (by omega)).trans e10, e11.kst k (by omega), e12.kst k (by omega)⟩
end
end Go.Proofs.YtnhjmiglegdamaaGreat

namespace Go.Proofs.YtnhjmiglegdamaaGreat
open Go.RowKit Go.Maps
attribute [local go_sem ↓] Go.wp_at_zero Go.wp_at_succ
section
variable {w w0 w' : World} {tag tag' : Nat → Nat} {tc p q n m : Nat} {vo ce id : Int} {X X' : CX} {lv rv vv nv av pv vv' nv' av' ov cv ev ov' cv' ev' : Value} {bm born clk k gm : Nat} {c c' : PC}
set_option maxRecDepth 100000 in
set_option maxHeartbeats 4000000 in
theorem cl_result (h : ClK w tag tc p q n m vo ce id X lv rv vv nv av bm born clk) (i : Nat) (r : Rz) (hr : X.res[i]? = some r) (_hl : X.res.length ≤ 1000) (hvl : r.val.length ≤ 1000) :
    Calls Tryz.prog 50 #[.pointer (some ⟨p, 0, none⟩), .int .i64 i] w fun en w' => ∃ va vc, en = .returned (.tuple #[.agg #[.int .i64 r.wh, .int .i64 r.ad, .slice va r.val.length vc], .int .i64 0]) ∧ Bl w w' ∧ w'.ownsRow w.heap.size 5 1 (.slice va r.val.length vc) r.val.length (r.val.map B8) := by
  have hi := (List.getElem?_eq_some_iff.1 hr).1
  obtain ⟨xs, h1, h2, h3⟩ := h.res
  obtain ⟨g, cap, hrv⟩ : ∃ g cap, rv = .slice (some ⟨g, 0, none⟩) X.res.length cap := by
    rcases h1.2 with ⟨_, h0⟩ | ⟨g, cap, cur, e, _⟩
    · omega
    · exact ⟨g, cap, e⟩
  subst hrv
  obtain ⟨x0, x1, s, x2, hs⟩ := h3 i r hr
  obtain ⟨sa, sc, rfl⟩ := hs.shape
  rw [List.length_map] at x2 hs
  have z0 : w.cell? ⟨g, i * 3, none⟩ = some (.int .i64 r.wh) := by rw [h1.cellAt _ (by omega), Nat.mul_comm]; exact x0
  have z1 : w.cell? ⟨g, i * 3 + 1, none⟩ = some (.int .i64 r.ad) := by rw [h1.cellAt _ (by omega), Nat.mul_comm]; exact x1
  have z2 : w.cell? ⟨g, i * 3 + 2, none⟩ = some (.slice sa r.val.length sc) := by rw [h1.cellAt _ (by omega), Nat.mul_comm]; exact x2
  have lg := (h1.lt g rfl).2
  have c7 := h.cellAt 7 rfl
  have lp := h.lp
  have hi0 : (0 : Int) ≤ (i : Int) := by omega
  have hi1 : (i : Int) < (X.res.length : Int) := by omega
  have HC : Hid (∀ W, Bl w W → _) := fun W hW => clone_any (.slice sa r.val.length sc) r.val W (hs.bs.bl hW) (by omega)
  clear h h1 h2 h3 x0 x1 x2 hs hr
  go_enter Tryz.func50, Tryz.ntmps50
  go_wp2_with fail
  refine (HC.out _ (by repeat (first | exact Bl.refl _ | refine Bl.drew ?_ | refine Bl.drewN ?_ _ | refine Bl.alloc ?_ _))).mono ?_
  rintro en w2 ⟨v', rfl, hb2, ho2⟩
  have bAB := ((Bl.refl w).alloc (.cells #[.int .i64 0, .int .i64 0, .slice none 0 0] 43)).alloc (.cells #[.int .i64 r.wh, .int .i64 r.ad, .slice sa r.val.length sc] 43)
  have hA0 := (heap_alloc_old (w.alloc (.cells #[.int .i64 0, .int .i64 0, .slice none 0 0] 43)) (.cells #[.int .i64 r.wh, .int .i64 r.ad, .slice sa r.val.length sc] 43) (r := w.heap.size) (by simp)).trans (heap_alloc_new w _)
  have hB0 : ((w.alloc (.cells #[.int .i64 0, .int .i64 0, .slice none 0 0] 43)).alloc (.cells #[.int .i64 r.wh, .int .i64 r.ad, .slice sa r.val.length sc] 43)).heap[w.heap.size + 1]? = some (.cells #[.int .i64 r.wh, .int .i64 r.ad, .slice sa r.val.length sc] 43 (0, 0)) := by
    have := heap_alloc_new (w.alloc (.cells #[.int .i64 0, .int .i64 0, .slice none 0 0] 43)) (.cells #[.int .i64 r.wh, .int .i64 r.ad, .slice sa r.val.length sc] 43)
    simpa using this
  have hA2 := (hb2.heap (Array.getElem?_eq_some_iff.1 hA0).1).trans hA0
  have hB2 := (hb2.heap (Array.getElem?_eq_some_iff.1 hB0).1).trans hB0
  obtain ⟨a0, a1, a2, la⟩ := row3 hA2
  obtain ⟨b0, b1, b2, lb⟩ := row3 hB2
  have fa0 := frozen_of_row w2 w.heap.size 0 _ 43 hA2
  have fa1 := frozen_of_row w2 w.heap.size 1 _ 43 hA2
  have fa2 := frozen_of_row w2 w.heap.size 2 _ 43 hA2
  have fb2 := frozen_of_row w2 (w.heap.size + 1) 2 _ 43 hB2
  obtain ⟨va, vc, hv'⟩ : ∃ va vc, v' = .slice va r.val.length vc := by
    obtain ⟨a, c, e⟩ := (ownsRow_sl ho2).len
    rw [List.length_map] at e
    exact ⟨a, c, e⟩
  subst hv'
  have HB := hid (bAB.trans hb2)
  have HO := hid (ownsRow_base (base' := w.heap.size + 2) ho2 (fun b hb => by have := (ho2.lt b hb).1; simpa using this))
  clear hA0 hB0 hA2 hB2 hb2 ho2 bAB HC z0 z1 z2
  go_wp2
  (try simp only [Exit.inBlock, Exit.then])
  refine bodyPost_ret (v := .tuple #[.agg #[.int .i64 r.wh, .int .i64 r.ad, .slice va r.val.length vc], .int .i64 0]) (by simp [results, Tryz.results50, go_sem, a0, a1, a2]) rfl ⟨va, vc, rfl, ?_, ?_⟩
  · exact Below.setCell (Below.setCell (Below.setCell (Below.setCell HB.out (Nat.le_succ _) _) (Nat.le_refl _) _) (Nat.le_refl _) _) (Nat.le_refl _) _
  · have Z := ((((Only.refl (fun b => b = w.heap.size ∨ b = w.heap.size + 1) w2).setCell ⟨w.heap.size + 1, 2, none⟩ (.inl (.inr rfl)) (.slice va r.val.length vc)).setCell ⟨w.heap.size, 0, none⟩ (.inl (.inl rfl)) (.int .i64 r.wh)).setCell ⟨w.heap.size, 1, none⟩ (.inl (.inl rfl)) (.int .i64 r.ad)).setCell ⟨w.heap.size, 2, none⟩ (.inl (.inl rfl)) (.slice va r.val.length vc)
    exact ownsRow_base (Z.owns HO.out fun b hb e => by have := (HO.out.lt b hb).1; omega) fun b hb => by have := (HO.out.lt b hb).1; omega
set_option maxRecDepth 100000 in
set_option maxHeartbeats 2000000 in
theorem fcl_result (h : ClK w tag tc p q n m vo ce id X lv rv vv nv av bm born clk) (i : Nat) (r : Rz) (hr : X.res[i]? = some r) (hl : X.res.length ≤ 1000) (hvl : r.val.length ≤ 1000) :
    Calls Tryz.prog 23 #[.pointer (some ⟨p, 0, none⟩), .int .i64 i] w fun en w' => ∃ va vc, en = .returned (.tuple #[.agg #[.int .i64 r.wh, .int .i64 r.ad, .slice va r.val.length vc], .int .i64 0]) ∧ Bl w w' ∧ w'.ownsRow w.heap.size 5 1 (.slice va r.val.length vc) r.val.length (r.val.map B8) := by
  have hA := (Bl.refl w).alloc (.cells #[.int .i64 0, .int .i64 0, .slice none 0 0] 43)
  have HC := hid (cl_result (h.bl hA (tag' := tag) (fun _ _ e => e)) i r hr hl hvl)
  have lp := h.lp
  clear h
  go_enter Tryz.func23, Tryz.ntmps23
  go_wp2_with fail
  refine HC.out.mono ?_
  rintro en w' ⟨va, vc, rfl, hb, ho⟩
  have hN := (hb.heap (b := w.heap.size) (by simp)).trans (heap_alloc_new w _)
  obtain ⟨n0, n1, n2, ln⟩ := row3 hN
  have f0 := frozen_of_row w' w.heap.size 0 _ 43 hN
  have f1 := frozen_of_row w' w.heap.size 1 _ 43 hN
  have f2 := frozen_of_row w' w.heap.size 2 _ 43 hN
  have HB := hid (hA.trans hb)
  have HO := hid (ownsRow_base (base' := w.heap.size + 1) ho (fun b hb => by have := (ho.lt b hb).1; simpa using this))
  clear hN hb ho HC
  go_wp2
  (try simp only [Exit.inBlock, Exit.then])
  refine bodyPost_ret (v := .tuple #[.agg #[.int .i64 r.wh, .int .i64 r.ad, .slice va r.val.length vc], .int .i64 0]) (by simp [results, Tryz.results23, go_sem, n0, n1, n2]) rfl ⟨va, vc, rfl, ?_, ?_⟩
  · exact Below.setCell (Below.setCell (Below.setCell HB.out (Nat.le_refl _) _) (Nat.le_refl _) _) (Nat.le_refl _) _
  · have Z := (((Only.refl (fun b => b = w.heap.size) w').setCell ⟨w.heap.size, 0, none⟩ (.inl rfl) (.int .i64 r.wh)).setCell ⟨w.heap.size, 1, none⟩ (.inl rfl) (.int .i64 r.ad)).setCell ⟨w.heap.size, 2, none⟩ (.inl rfl) (.slice va r.val.length vc)
    exact ownsRow_base (Z.owns HO.out fun b hb e => by have := (HO.out.lt b hb).1; omega) fun b hb => by have := (HO.out.lt b hb).1; omega
end
end Go.Proofs.YtnhjmiglegdamaaGreat
