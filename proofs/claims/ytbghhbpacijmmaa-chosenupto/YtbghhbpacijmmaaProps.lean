-- What Chosen has in memory.
import Derived.Test.YtbghhbpacijmmaaAlone
namespace Go.Proofs.Ytbghhbpacijmmaa
open Go.RowKit Go.Maps

/-- A block of at least 42 cells. -/
def A42 (w : World) (p : Nat) (K : Nat → Value) : Prop :=
  ∃ arr t, w.heap[p]? = some (.cells arr t (0, 0)) ∧ ∀ i, i < 42 → arr[i]? = some (K i)
theorem A42.lt {w : World} {p : Nat} {K : Nat → Value} (h : A42 w p K) : p < w.heap.size := by
  obtain ⟨arr, t, hb, _⟩ := h; exact (Array.getElem?_eq_some_iff.1 hb).1
theorem A42.cell {w : World} {p : Nat} {K : Nat → Value} (h : A42 w p K) (i : Nat) (hi : i < 42) : w.cell? ⟨p, i, none⟩ = some (K i) := by
  obtain ⟨arr, t, hb, hc⟩ := h
  rw [cell_of_row w p i _ t (0, 0) hb]; exact hc i hi
theorem A42.frozen {w : World} {p : Nat} {K : Nat → Value} (h : A42 w p K) (i : Nat) : w.frozen? ⟨p, i, none⟩ = false := by
  obtain ⟨arr, t, hb, hc⟩ := h
  exact frozen_of_row w p i _ t hb
theorem A42.of_heap {w w' : World} {p : Nat} {K : Nat → Value} (h : A42 w p K) (e : w'.heap[p]? = w.heap[p]?) : A42 w' p K := by
  obtain ⟨arr, t, hb, r⟩ := h
  exact ⟨arr, t, e.trans hb, r⟩
theorem A42.set {w : World} {p : Nat} {K : Nat → Value} (h : A42 w p K) (i : Nat) (u : Value) : A42 (w.setCell ⟨p, i, none⟩ u) p (upd K i u) := by
  obtain ⟨arr, t, hb, hc⟩ := h
  refine ⟨_, t, Go.heap_setCell_same w p i _ t u hb, fun j hj => ?_⟩
  unfold upd
  rw [Array.getElem?_setIfInBounds]
  have hsz := (Array.getElem?_eq_some_iff.1 (hc j hj)).1
  by_cases e : i = j
  · subst e; simp [hsz]
  · rw [if_neg e, if_neg (Ne.symm e)]; exact hc j hj

/-- Three proposers, of 14 cells each. -/
structure Pk (K : Nat → Value) (ps : Nat → PS) : Prop where
  ask : ∀ q, q < 3 → K (14 * q) = .bool (ps q).asks
  bal : ∀ q, q < 3 → K (14 * q + 1) = .int .i64 (ps q).ballot
  prm : ∀ q k, q < 3 → k < 5 → K (14 * q + 2 + k) = .bool ((ps q).prom k)
  vot : ∀ q k, q < 3 → k < 5 → K (14 * q + 7 + k) = .bool ((ps q).vot k)
  bst : ∀ q, q < 3 → K (14 * q + 12) = .int .i64 (ps q).best
  val : ∀ q, q < 3 → K (14 * q + 13) = .string (strOf (ps q).value)
def Pb (w : World) (b : Nat) (ps : Nat → PS) : Prop := ∃ K, A42 w b K ∧ Pk K ps

theorem Pk.other {K : Nat → Value} {ps : Nat → PS} (h : Pk K ps) (q : Nat) (c : Nat) (hc : c < 14) (u : Value) (x : PS) (hq : q < 3)
    (h0 : upd K (14 * q + c) u (14 * q) = .bool x.asks) (h1 : upd K (14 * q + c) u (14 * q + 1) = .int .i64 x.ballot) (h2 : ∀ k, k < 5 → upd K (14 * q + c) u (14 * q + 2 + k) = .bool (x.prom k)) (h3 : ∀ k, k < 5 → upd K (14 * q + c) u (14 * q + 7 + k) = .bool (x.vot k)) (h4 : upd K (14 * q + c) u (14 * q + 12) = .int .i64 x.best) (h5 : upd K (14 * q + c) u (14 * q + 13) = .string (strOf x.value)) :
    Pk (upd K (14 * q + c) u) (upN ps q x) := by
  have far : ∀ q' c', q' ≠ q → c' < 14 → upd K (14 * q + c) u (14 * q' + c') = K (14 * q' + c') := fun q' c' h1 h2 => upd_other _ _ _ _ (by omega)
  refine ⟨fun q' hq' => ?_, fun q' hq' => ?_, fun q' k hq' hk => ?_, fun q' k hq' hk => ?_, fun q' hq' => ?_, fun q' hq' => ?_⟩
  · by_cases e : q' = q
    · subst e; rw [upN_same]; exact h0
    · rw [upN_other _ _ _ _ e, ← h.ask q' hq']; exact far q' 0 e (by omega)
  · by_cases e : q' = q
    · subst e; rw [upN_same]; exact h1
    · rw [upN_other _ _ _ _ e, ← h.bal q' hq']; exact far q' 1 e (by omega)
  · by_cases e : q' = q
    · subst e; rw [upN_same]; exact h2 k hk
    · rw [upN_other _ _ _ _ e, ← h.prm q' k hq' hk, Nat.add_assoc]; exact far q' (2 + k) e (by omega)
  · by_cases e : q' = q
    · subst e; rw [upN_same]; exact h3 k hk
    · rw [upN_other _ _ _ _ e, ← h.vot q' k hq' hk, Nat.add_assoc]; exact far q' (7 + k) e (by omega)
  · by_cases e : q' = q
    · subst e; rw [upN_same]; exact h4
    · rw [upN_other _ _ _ _ e, ← h.bst q' hq']; exact far q' 12 e (by omega)
  · by_cases e : q' = q
    · subst e; rw [upN_same]; exact h5
    · rw [upN_other _ _ _ _ e, ← h.val q' hq']; exact far q' 13 e (by omega)
theorem upd_o {K : Nat → Value} {i j : Nat} {u v : Value} (h : j ≠ i) (e : K j = v) : upd K i u j = v := by rw [upd_other _ _ _ _ h, e]
theorem Pb.set {w : World} {b : Nat} {ps : Nat → PS} (h : Pb w b ps) (q c : Nat) (u : Value) (ps' : Nat → PS) (hx : ∀ K, Pk K ps → Pk (upd K (14 * q + c) u) ps') : Pb (w.setCell ⟨b, 14 * q + c, none⟩ u) b ps' := by
  obtain ⟨K, h1, h2⟩ := h
  exact ⟨_, h1.set _ _, hx K h2⟩
theorem Pk.setAsk {K : Nat → Value} {ps : Nat → PS} (h : Pk K ps) (q : Nat) (hq : q < 3) (b : Bool) : Pk (upd K (14 * q + 0) (.bool b)) (upN ps q { ps q with asks := b }) :=
  h.other q 0 (by omega) _ _ hq (upd_same _ _ _) (upd_o (by omega) (h.bal q hq)) (fun k hk => upd_o (by omega) (h.prm q k hq hk)) (fun k hk => upd_o (by omega) (h.vot q k hq hk)) (upd_o (by omega) (h.bst q hq)) (upd_o (by omega) (h.val q hq))
theorem Pk.setPrm {K : Nat → Value} {ps : Nat → PS} (h : Pk K ps) (q k : Nat) (hq : q < 3) (hk : k < 5) (b : Bool) : Pk (upd K (14 * q + (2 + k)) (.bool b)) (upN ps q { ps q with prom := upN (ps q).prom k b }) :=
  h.other q (2 + k) (by omega) _ _ hq (upd_o (by omega) (h.ask q hq)) (upd_o (by omega) (h.bal q hq)) (fun j hj => by
    simp only
    by_cases e : j = k
    · subst e; rw [upN_same, Nat.add_assoc, upd_same]
    · rw [upN_other _ _ _ _ e]; exact upd_o (by omega) (h.prm q j hq hj)) (fun k hk => upd_o (by omega) (h.vot q k hq hk)) (upd_o (by omega) (h.bst q hq)) (upd_o (by omega) (h.val q hq))
theorem Pk.setVot {K : Nat → Value} {ps : Nat → PS} (h : Pk K ps) (q k : Nat) (hq : q < 3) (hk : k < 5) (b : Bool) : Pk (upd K (14 * q + (7 + k)) (.bool b)) (upN ps q { ps q with vot := upN (ps q).vot k b }) :=
  h.other q (7 + k) (by omega) _ _ hq (upd_o (by omega) (h.ask q hq)) (upd_o (by omega) (h.bal q hq)) (fun k hk => upd_o (by omega) (h.prm q k hq hk)) (fun j hj => by
    simp only
    by_cases e : j = k
    · subst e; rw [upN_same, Nat.add_assoc, upd_same]
    · rw [upN_other _ _ _ _ e]; exact upd_o (by omega) (h.vot q j hq hj)) (upd_o (by omega) (h.bst q hq)) (upd_o (by omega) (h.val q hq))
theorem Pk.setBst {K : Nat → Value} {ps : Nat → PS} (h : Pk K ps) (q : Nat) (hq : q < 3) (b : Int) : Pk (upd K (14 * q + 12) (.int .i64 b)) (upN ps q { ps q with best := b }) :=
  h.other q 12 (by omega) _ _ hq (upd_o (by omega) (h.ask q hq)) (upd_o (by omega) (h.bal q hq)) (fun k hk => upd_o (by omega) (h.prm q k hq hk)) (fun k hk => upd_o (by omega) (h.vot q k hq hk)) (upd_same _ _ _) (upd_o (by omega) (h.val q hq))
theorem Pk.setVal {K : Nat → Value} {ps : Nat → PS} (h : Pk K ps) (q : Nat) (hq : q < 3) (v : List Int) : Pk (upd K (14 * q + 13) (.string (strOf v))) (upN ps q { ps q with value := v }) :=
  h.other q 13 (by omega) _ _ hq (upd_o (by omega) (h.ask q hq)) (upd_o (by omega) (h.bal q hq)) (fun k hk => upd_o (by omega) (h.prm q k hq hk)) (fun k hk => upd_o (by omega) (h.vot q k hq hk)) (upd_o (by omega) (h.bst q hq)) (upd_same _ _ _)
theorem Pk.setBal {K : Nat → Value} {ps : Nat → PS} (h : Pk K ps) (q : Nat) (hq : q < 3) (b : Int) : Pk (upd K (14 * q + 1) (.int .i64 b)) (upN ps q { ps q with ballot := b }) :=
  h.other q 1 (by omega) _ _ hq (upd_o (by omega) (h.ask q hq)) (upd_same _ _ _) (fun k hk => upd_o (by omega) (h.prm q k hq hk)) (fun k hk => upd_o (by omega) (h.vot q k hq hk)) (upd_o (by omega) (h.bst q hq)) (upd_o (by omega) (h.val q hq))
theorem upN_upN {α : Type} (f : Nat → α) (k : Nat) (u v : α) : upN (upN f k u) k v = upN f k v := by
  funext j; unfold upN; split <;> rfl

theorem cnt_far {n : Nat} {f : Nat → Bool} (h : ∀ k, n ≤ k → f k = false) : ∀ m, cnt (n + m) f = cnt n f
  | 0 => rfl
  | m + 1 => by rw [← Nat.add_assoc, cnt_succ, cnt_far h m, h (n + m) (by omega)]; simp
theorem cnt_five {n : Nat} {f : Nat → Bool} (hn : n ≤ 5) (h : ∀ k, n ≤ k → f k = false) : cnt 5 f = cnt n f := by
  have := cnt_far h (5 - n)
  rwa [show n + (5 - n) = 5 by omega] at this

/-- The names of the three. -/
def nm (q : Nat) : List Int := [97 + (q : Int)]
def namesRow : Array Value := #[.string (strOf (nm 0)), .string (strOf (nm 1)), .string (strOf (nm 2))]
theorem nm_good (q : Nat) (h : q < 3) : Good (nm q) := ⟨by simp [nm], by simp [nm], by simp [nm]; omega⟩

/-- Memory behind some tries: voters, proposers, names; all that was there at first is as it was. -/
structure Cm (w : World) (n : Nat) (e : Int) (vb psb nb t : Nat) (ep : Nat → Ep) (ps : Nat → PS) (wr : World) : Prop where
  ex : ∃ tag P EE, Vots n wr tag P t EE ∧ (∀ j, ep j = EE j e) ∧ (∀ b, b < w.heap.size → tag b = 9) ∧ tag vb = 9 ∧ tag psb = 9 ∧ tag nb = 9 ∧ ∃ arr tv, wr.heap[vb]? = some (.cells arr tv (0, 0)) ∧ ∀ j, j < n → arr[j]? = some (.pointer (some ⟨P j, 0, none⟩))
  pb : Pb wr psb ps
  na : wr.heap[nb]? = some (.cells namesRow 9 (0, 0))
  bl : Bl w wr
  apart : vb ≠ psb ∧ vb ≠ nb ∧ psb ≠ nb
  big : w.heap.size ≤ vb ∧ w.heap.size ≤ psb ∧ w.heap.size ≤ nb

theorem Cm.turn {w : World} {n : Nat} {e : Int} {vb psb nb t : Nat} {ep : Nat → Ep} {ps : Nat → PS} {wr w' : World} (h : Cm w n e vb psb nb t ep ps wr) (hb : Bl wr w') : Cm w n e vb psb nb t ep ps w' := by
  obtain ⟨⟨tag, P, EE, h1, h2, h3, h4, h5, h6, arr, tv, h7, h8⟩, hp, hn, hbl, ha, hg⟩ := h
  obtain ⟨K, k1, k2⟩ := hp
  exact ⟨⟨tag, P, EE, h1.bl hb, h2, h3, h4, h5, h6, arr, tv, (hb.heap (Array.getElem?_eq_some_iff.1 h7).1).trans h7, h8⟩, ⟨K, k1.of_heap (hb.heap k1.lt), k2⟩, (hb.heap (Array.getElem?_eq_some_iff.1 hn).1).trans hn, hbl.trans hb, ha, hg⟩
/-- A voter's call. -/
theorem Cm.voter {w : World} {n : Nat} {e : Int} {vb psb nb t t' k : Nat} {ep ep' : Nat → Ep} {ps : Nat → PS} {wr W w' : World} (h : Cm w n e vb psb nb t ep ps wr) (hW : Bl wr W) {tag P : Nat → Nat} {EE' : Nat → Int → Ep} {arr : Array Value} {tv : TypeId} (hk : k < n) (hn : n ≤ 5) (h1 : Vots n w' (tagTo tag W.heap.size k) P t' EE') (h2 : ∀ j, ep' j = EE' j e) (h3 : ∀ b, b < w.heap.size → tag b = 9) (h4 : tag vb = 9) (h5 : tag psb = 9) (h6 : tag nb = 9) (h7 : wr.heap[vb]? = some (.cells arr tv (0, 0))) (h8 : ∀ j, j < n → arr[j]? = some (.pointer (some ⟨P j, 0, none⟩))) (ho : Only (fun b => tag b = k) W w') : Cm w n e vb psb nb t' ep' ps w' := by
  obtain ⟨_, ⟨K, k1, k2⟩, hna, hbl, ha, hg⟩ := h
  have l1 := (Array.getElem?_eq_some_iff.1 h7).1
  have l2 := k1.lt
  have l3 := (Array.getElem?_eq_some_iff.1 hna).1
  have lW := hW.lt
  have lw := hbl.lt
  have keep : ∀ b, b < wr.heap.size → tag b = 9 → w'.heap[b]? = wr.heap[b]? := fun b hb ht => (ho.block b (by omega) (by show ¬ tag b = k; omega)).trans (hW.heap hb)
  refine ⟨⟨_, P, EE', h1, h2, fun b hb => by rw [tagTo_old _ _ _ _ (by omega)]; exact h3 b hb, by rw [tagTo_old _ _ _ _ (by omega)]; exact h4, by rw [tagTo_old _ _ _ _ (by omega)]; exact h5, by rw [tagTo_old _ _ _ _ (by omega)]; exact h6, arr, tv, (keep _ l1 h4).trans h7, h8⟩, ⟨K, k1.of_heap (keep _ l2 h5), k2⟩, (keep _ l3 h6).trans hna, ?_, ha, hg⟩
  have hO : Only (fun b => tag b = k) w w' := (Only.of_bl (hbl.trans hW)).trans ho
  exact hO.to_bl fun b hb e => by have := h3 b hb; omega

/-- A voter's call, and a block that was laid ahead of it is written then. -/
theorem Cm.voter2 {w : World} {n : Nat} {e : Int} {vb psb nb t t' k g : Nat} {ep ep' : Nat → Ep} {ps : Nat → PS} {wr W w' w3 : World} (h : Cm w n e vb psb nb t ep ps wr) (hW : Bl wr W) {tag P : Nat → Nat} {EE' : Nat → Int → Ep} {arr : Array Value} {tv : TypeId} (hk : k < n) (hn : n ≤ 5) (h1 : Vots n w' (tagTo tag W.heap.size k) P t' EE') (h2 : ∀ j, ep' j = EE' j e) (h3 : ∀ b, b < w.heap.size → tag b = 9) (h4 : tag vb = 9) (h5 : tag psb = 9) (h6 : tag nb = 9) (h7 : wr.heap[vb]? = some (.cells arr tv (0, 0))) (h8 : ∀ j, j < n → arr[j]? = some (.pointer (some ⟨P j, 0, none⟩))) (ho : Only (fun b => tag b = k) W w') (hg1 : wr.heap.size ≤ g) (hg2 : g < W.heap.size) (hg : tag g = 9) (O : Only (fun b => b = g) w' w3) : Cm w n e vb psb nb t' ep' ps w3 := by
  obtain ⟨_, ⟨K, k1, k2⟩, hna, hbl, ha, hgg⟩ := h
  have l1 := (Array.getElem?_eq_some_iff.1 h7).1
  have l2 := k1.lt
  have l3 := (Array.getElem?_eq_some_iff.1 hna).1
  have lW := hW.lt
  have lw := hbl.lt
  have lo := ho.size
  have keep : ∀ b, b < wr.heap.size → tag b = 9 → w3.heap[b]? = wr.heap[b]? := fun b hb ht => (O.block b (by omega) (by show ¬ b = g; omega)).trans ((ho.block b (by omega) (by show ¬ tag b = k; omega)).trans (hW.heap hb))
  refine ⟨⟨_, P, EE', h1.only O (fun b _ e => by subst e; rw [tagTo_old _ _ _ _ hg2]; omega) (fun _ _ => rfl), h2, fun b hb => by rw [tagTo_old _ _ _ _ (by omega)]; exact h3 b hb, by rw [tagTo_old _ _ _ _ (by omega)]; exact h4, by rw [tagTo_old _ _ _ _ (by omega)]; exact h5, by rw [tagTo_old _ _ _ _ (by omega)]; exact h6, arr, tv, (keep _ l1 h4).trans h7, h8⟩, ⟨K, k1.of_heap (keep _ l2 h5), k2⟩, (keep _ l3 h6).trans hna, ?_, ha, hgg⟩
  have hO : Only (fun b => tag b = k) w w' := (Only.of_bl (hbl.trans hW)).trans ho
  exact (hO.to_bl fun b hb e => by have := h3 b hb; omega).trans_only O fun b e => by omega

theorem Cm.set {w : World} {n : Nat} {e : Int} {vb psb nb t : Nat} {ep : Nat → Ep} {ps ps' : Nat → PS} {wr : World} (h : Cm w n e vb psb nb t ep ps wr) (hn5 : n ≤ 5) (q c : Nat) (u : Value) (hx : ∀ K, Pk K ps → Pk (upd K (14 * q + c) u) ps') : Cm w n e vb psb nb t ep ps' (wr.setCell ⟨psb, 14 * q + c, none⟩ u) := by
  obtain ⟨⟨tag, P, EE, h1, h2, h3, h4, h5, h6, arr, tv, h7, h8⟩, hp, hn, hbl, ha, hg⟩ := h
  have O : Only (fun b => b = psb) wr (wr.setCell ⟨psb, 14 * q + c, none⟩ u) := (Only.refl (fun b => b = psb) wr).setCell ⟨psb, 14 * q + c, none⟩ (.inl rfl) u
  refine ⟨⟨tag, P, EE, h1.only O (fun b _ e => by rw [e, h5]; omega) (fun _ _ => rfl), h2, h3, h4, h5, h6, arr, tv, (O.block vb (Array.getElem?_eq_some_iff.1 h7).1 ha.1).trans h7, h8⟩, hp.set q c u ps' hx, (O.block nb (Array.getElem?_eq_some_iff.1 hn).1 (Ne.symm ha.2.2)).trans hn, ?_, ha, hg⟩
  exact hbl.trans_only O fun b e => by have := hg.2.1; omega

theorem Cm.tags {w : World} {n : Nat} {e : Int} {vb psb nb t : Nat} {ep : Nat → Ep} {ps : Nat → PS} {wr : World} (h : Cm w n e vb psb nb t ep ps wr) :
    ∃ tag P EE, Vots n wr tag P t EE ∧ (∀ j, ep j = EE j e) ∧ (∀ b, b < w.heap.size → tag b = 9) ∧ tag vb = 9 ∧ tag psb = 9 ∧ tag nb = 9 ∧ (∃ arr tv, wr.heap[vb]? = some (.cells arr tv (0, 0)) ∧ ∀ j, j < n → arr[j]? = some (.pointer (some ⟨P j, 0, none⟩))) ∧ ∀ b, wr.heap.size ≤ b → tag b = 9 := by
  obtain ⟨⟨tag, P, EE, h1, h2, h3, h4, h5, h6, arr, tv, h7, h8⟩, ⟨K, k1, k2⟩, hna, hbl, ha, hg⟩ := h
  have l1 := (Array.getElem?_eq_some_iff.1 h7).1
  have l2 := k1.lt
  have l3 := (Array.getElem?_eq_some_iff.1 hna).1
  have lw := hbl.lt
  exact ⟨tagTo tag wr.heap.size 9, P, EE, h1.only (Only.refl (fun _ => False) wr) (fun _ _ e => e.elim) (fun b hb => tagTo_old _ _ _ _ hb), h2, fun b hb => by rw [tagTo_old _ _ _ _ (by omega)]; exact h3 b hb, by rw [tagTo_old _ _ _ _ l1]; exact h4, by rw [tagTo_old _ _ _ _ l2]; exact h5, by rw [tagTo_old _ _ _ _ l3]; exact h6, ⟨arr, tv, h7, h8⟩, fun b hb => tagTo_new _ _ _ _ hb⟩
theorem cm_prep {w : World} {n : Nat} {e : Int} {vb psb nb t k : Nat} {ep : Nat → Ep} {ps : Nat → PS} {wr : World} (h : Cm w n e vb psb nb t ep ps wr) (hk : k < n) (hn : n ≤ 5) (b : Int) (he : 1 ≤ e) (hwf : (Lit.int .i64 e).wf = true) (hbf : (Lit.int .i64 b).wf = true) (ht : t ≤ 1000000) :
    ∃ p, wr.cell? ⟨vb, k, none⟩ = some (.pointer (some ⟨p, 0, none⟩)) ∧
      (1 ≤ b → (ep k).pr < b → ∀ W, Bl wr W → Calls Try.prog 16 #[.pointer (some ⟨p, 0, none⟩), .int .i64 e, .int .i64 b] W fun en w' => ∃ va vc, en = .returned (voteR 1 b (ep k).ba (.slice va (ep k).val.length vc)) ∧ w'.ownsRow wr.heap.size 5 1 (.slice va (ep k).val.length vc) (ep k).val.length ((ep k).val.map B8) ∧ Cm w n e vb psb nb (t + 1) (upN ep k ⟨b, (ep k).ba, (ep k).val⟩) ps w' ∧ w'.cell? ⟨vb, k, none⟩ = some (.pointer (some ⟨p, 0, none⟩)) ∧ wr.heap.size ≤ w'.heap.size ∧ ∀ g, wr.heap.size ≤ g → g < W.heap.size → w'.heap[g]? = W.heap[g]? ∧ ∀ w3, Only (fun b => b = g) w' w3 → Cm w n e vb psb nb (t + 1) (upN ep k ⟨b, (ep k).ba, (ep k).val⟩) ps w3 ∧ w3.ownsRow wr.heap.size 5 1 (.slice va (ep k).val.length vc) (ep k).val.length ((ep k).val.map B8)) ∧
      (b < 1 ∨ b ≤ (ep k).pr → ∀ W, Bl wr W → Calls Try.prog 16 #[.pointer (some ⟨p, 0, none⟩), .int .i64 e, .int .i64 b] W fun en w' => en = .returned (voteR 6 (ep k).pr 0 (.slice none 0 0)) ∧ Bl wr w' ∧ Bl W w') := by
  have hh := h
  obtain ⟨tag, P, EE, h1, h2, h3, h4, h5, h6, ⟨arr, tv, h7, h8⟩, h9⟩ := h.tags
  refine ⟨P k, by rw [cell_of_row _ _ k _ tv (0, 0) h7]; exact h8 k hk, fun b1 b2 W hW => ?_, fun hno W hW => ?_⟩
  · rw [h2 k] at b2 ⊢
    refine (vots_prep h1 hW hk e b he hwf hbf ht b1 b2).mono ?_
    rintro en w' ⟨va, vc, rfl, r1, r2, r3⟩
    have hj : ∀ j, upN ep k ⟨b, (EE k e).ba, (EE k e).val⟩ j = upN EE k (updE (EE k) e ⟨b, (EE k e).ba, (EE k e).val⟩) j e := fun j => by
      unfold upN
      split
      · simp [updE]
      · exact h2 j
    have r1' := ownsRow_base (base' := wr.heap.size) r1 fun b hb => Nat.le_trans hW.lt (r1.lt b hb).1
    refine ⟨va, vc, rfl, r1', hh.voter hW hk hn r2 hj h3 h4 h5 h6 h7 h8 r3, ?_, Nat.le_trans hW.lt r3.size, fun g g1 g2 => ⟨r3.block g g2 (by have := h9 g g1; show ¬ tag g = k; omega), fun w3 O => ⟨hh.voter2 hW hk hn r2 hj h3 h4 h5 h6 h7 h8 r3 g1 g2 (h9 g g1) O, O.owns r1' fun b hb e => by have := (r1.lt b hb).1; omega⟩⟩⟩
    · have l1 := (Array.getElem?_eq_some_iff.1 h7).1
      rw [cell_of_row _ _ k _ tv (0, 0) (((r3.block vb (Nat.lt_of_lt_of_le l1 hW.lt) (by omega)).trans (hW.heap l1)).trans h7)]
      exact h8 k hk
  · rw [h2 k] at hno ⊢
    refine (vots_prepNo h1 hW hk e b hwf (.inr hno)).mono ?_
    rintro en w' ⟨rfl, _, hb⟩
    exact ⟨rfl, hW.trans hb, hb⟩
theorem cm_acc {w : World} {n : Nat} {e : Int} {vb psb nb t k : Nat} {ep : Nat → Ep} {ps : Nat → PS} {wr : World} (h : Cm w n e vb psb nb t ep ps wr) (hk : k < n) (hn : n ≤ 5) (b : Int) (he : 1 ≤ e) (hwf : (Lit.int .i64 e).wf = true) (hbf : (Lit.int .i64 b).wf = true) (ht : t ≤ 1000000) (h3 : (ep k).ba ≤ (ep k).pr) :
    ∃ p, wr.cell? ⟨vb, k, none⟩ = some (.pointer (some ⟨p, 0, none⟩)) ∧
      (1 ≤ b → (ep k).pr ≤ b → ∀ W (v : Value) (ys : List Int), Bl wr W → Bs W v (ys.map B8) → (∀ g, v.ownBlock = some g → wr.heap.size ≤ g ∧ g < W.heap.size) → Good ys → Calls Try.prog 17 #[.pointer (some ⟨p, 0, none⟩), .int .i64 e, .int .i64 b, v] W fun en w' => en = .returned (voteR 1 b 0 (.slice none 0 0)) ∧ Cm w n e vb psb nb (t + 1) (upN ep k ⟨b, b, ys⟩) ps w' ∧ w'.cell? ⟨vb, k, none⟩ = some (.pointer (some ⟨p, 0, none⟩)) ∧ wr.heap.size ≤ w'.heap.size ∧ ∀ g, wr.heap.size ≤ g → g < W.heap.size → w'.heap[g]? = W.heap[g]? ∧ ∀ w3, Only (fun b => b = g) w' w3 → Cm w n e vb psb nb (t + 1) (upN ep k ⟨b, b, ys⟩) ps w3) ∧
      (b < 1 ∨ b < (ep k).pr → ∀ W ua un uc, Bl wr W → un ≤ 255 → Calls Try.prog 17 #[.pointer (some ⟨p, 0, none⟩), .int .i64 e, .int .i64 b, .slice ua un uc] W fun en w' => en = .returned (voteR 6 (ep k).pr 0 (.slice none 0 0)) ∧ Bl wr w' ∧ Bl W w') := by
  have hh := h
  obtain ⟨tag, P, EE, h1, h2, g3, h4, h5, h6, ⟨arr, tv, h7, h8⟩, h9⟩ := h.tags
  refine ⟨P k, by rw [cell_of_row _ _ k _ tv (0, 0) h7]; exact h8 k hk, fun b1 b2 W v ys hW hv hvb hgo => ?_, fun hno W ua un uc hW hun => ?_⟩
  · rw [h2 k] at b2 h3
    refine (vots_acc h1 hW hk e b he hwf hbf ht b1 b2 h3 v ys hv hvb hgo.1 hgo.2.1 hgo.2.2).mono ?_
    rintro en w' ⟨rfl, r2, r3⟩
    have hj : ∀ j, upN ep k ⟨b, b, ys⟩ j = upN EE k (updE (EE k) e ⟨b, b, ys⟩) j e := fun j => by
      unfold upN
      split
      · simp [updE]
      · exact h2 j
    refine ⟨rfl, hh.voter hW hk hn r2 hj g3 h4 h5 h6 h7 h8 r3, ?_, Nat.le_trans hW.lt r3.size, fun g g1 g2 => ⟨r3.block g g2 (by have := h9 g g1; show ¬ tag g = k; omega), fun w3 O => hh.voter2 hW hk hn r2 hj g3 h4 h5 h6 h7 h8 r3 g1 g2 (h9 g g1) O⟩⟩
    · have l1 := (Array.getElem?_eq_some_iff.1 h7).1
      rw [cell_of_row _ _ k _ tv (0, 0) (((r3.block vb (Nat.lt_of_lt_of_le l1 hW.lt) (by omega)).trans (hW.heap l1)).trans h7)]
      exact h8 k hk
  · rw [h2 k] at hno ⊢
    refine (vots_accNo h1 hW hk e b hwf ua un uc hun (.inr hno)).mono ?_
    rintro en w' ⟨rfl, _, hb⟩
    exact ⟨rfl, hW.trans hb, hb⟩
theorem cm_open {w : World} {n : Nat} {e : Int} {vb psb nb t k : Nat} {ep : Nat → Ep} {ps : Nat → PS} {wr : World} (h : Cm w n e vb psb nb t ep ps wr) (hk : k < n) (hn : n ≤ 5) (ht : t ≤ 1000000) :
    ∃ p, wr.cell? ⟨vb, k, none⟩ = some (.pointer (some ⟨p, 0, none⟩)) ∧ wr.frozen? ⟨vb, k, none⟩ = false ∧ vb < wr.heap.size ∧
      ∀ W, Bl wr W → Calls Try.prog 19 #[.pointer (some ⟨p, 0, none⟩)] W fun en w1 => ∃ ad nn cc, en = .returned (.slice ad nn cc) ∧ Bl wr w1 ∧
        Calls Try.prog 15 #[.slice ad nn cc] w1 fun en w2 => ∃ p', en = .returned (.tuple #[.pointer (some ⟨p', 0, none⟩), .int .i64 0]) ∧ Bl wr w2 ∧ ∀ w3, Bl w2 w3 → Cm w n e vb psb nb t ep ps (w3.setCell ⟨vb, k, none⟩ (.pointer (some ⟨p', 0, none⟩))) := by
  have hh := h
  obtain ⟨⟨tag, P, EE, h1, h2, h3, h4, h5, h6, arr, tv, h7, h8⟩, hp, hna, hbl, ha, hg⟩ := h
  have l1 := (Array.getElem?_eq_some_iff.1 h7).1
  refine ⟨P k, by rw [cell_of_row _ _ k _ tv (0, 0) h7]; exact h8 k hk, frozen_of_row wr vb k _ tv h7, l1, fun W hW => ?_⟩
  refine (vots_image h1 hW hk ht).mono ?_
  rintro en w1 ⟨ad, nn, cc, rfl, hb1, hr⟩
  refine ⟨ad, nn, cc, rfl, hW.trans hb1, (rip_open hr ht).mono ?_⟩
  rintro en w2 ⟨p', rfl, a1, a2, a3, a4⟩
  have B2 := (hW.trans hb1).trans a3
  refine ⟨p', rfl, B2, fun w3 hb3 => ?_⟩
  have B3 := B2.trans hb3
  have l2 := B2.lt
  have l3 := hb3.lt
  have l4 := (hW.trans hb1).lt
  have lw := hbl.lt
  have hc := hh.turn B3
  obtain ⟨_, ⟨K, k1, k2⟩, hna3, hbl3, _, _⟩ := hc
  have O : Only (fun b => b = vb) w3 (w3.setCell ⟨vb, k, none⟩ (.pointer (some ⟨p', 0, none⟩))) := (Only.refl (fun b => b = vb) w3).setCell ⟨vb, k, none⟩ (.inl rfl) _
  have h73 := (B3.heap l1).trans h7
  have hs := Go.heap_setCell_same w3 vb k _ tv (.pointer (some ⟨p', 0, none⟩)) h73
  refine ⟨⟨tagTo tag w1.heap.size k, upN P k p', EE, fun i hi => ?_, h2, fun b hb => by rw [tagTo_old _ _ _ _ (by omega)]; exact h3 b hb, by rw [tagTo_old _ _ _ _ (by omega)]; exact h4, by rw [tagTo_old _ _ _ _ (by have := hp.elim fun K h => h.1.lt; omega)]; exact h5, by rw [tagTo_old _ _ _ _ (by have := (Array.getElem?_eq_some_iff.1 hna).1; omega)]; exact h6, _, tv, hs, fun j hj => ?_⟩, ⟨K, k1.of_heap (O.block _ k1.lt (Ne.symm ha.1)), k2⟩, (O.block _ (Array.getElem?_eq_some_iff.1 hna3).1 (Ne.symm ha.2.1)).trans hna3, hbl3.trans_only O fun b e => by have := hg.1; omega, ha, hg⟩
  · by_cases e1 : i = k
    · subst e1
      rw [upN_same]
      exact ((a4 tag i).bl hb3).only O (fun b _ e1 => by rw [e1, tagTo_old _ _ _ _ (by omega), h4]; omega) (fun _ _ => rfl)
    · rw [upN_other _ _ _ _ e1]
      have hv := ((h1 i hi).bl (hW.trans hb1)).only (tag' := tagTo tag w1.heap.size k) (Only.of_bl (S := fun _ => False) (a3.trans hb3)) (fun _ _ e => e.elim) (fun b hb => tagTo_old _ _ _ _ hb)
      exact hv.only O (fun b _ e1 => by rw [e1, tagTo_old _ _ _ _ (by omega), h4]; omega) (fun _ _ => rfl)
  · rw [Array.getElem?_setIfInBounds]
    have hsz := (Array.getElem?_eq_some_iff.1 (h8 j hj)).1
    by_cases e1 : k = j
    · subst e1
      rw [if_pos rfl, if_pos hsz, upN_same]
    · rw [if_neg e1, upN_other _ _ _ _ (Ne.symm e1)]; exact h8 j hj
/-- The last one, who asks all. -/
theorem cm_alone {w : World} {n : Nat} {e : Int} {vb psb nb t : Nat} {ep : Nat → Ep} {ps : Nat → PS} {wr : World} (h : Cm w n e vb psb nb t ep ps wr) (vc : Nat) (B : Int) (hn : 1 ≤ n) (hn5 : n ≤ 5) (he : 1 ≤ e) (hwf : (Lit.int .i64 e).wf = true) (hbf : (Lit.int .i64 B).wf = true) (ht : t ≤ 900000) (h1 : 1 ≤ B) (h2 : ∀ i, i < n → (ep i).pr < B ∧ (ep i).ba ≤ (ep i).pr) (hg : ∀ i, i < n → 0 < (ep i).ba → Good (ep i).val) :
    Calls Try.prog 20 #[.slice (some ⟨vb, 0, none⟩) n vc, .int .i64 e, .int .i64 B] wr fun en w' => ∃ b v, en = .returned (.string (strOf v)) ∧ Best ep n b v ∧ Good v ∧ Bl w w' := by
  obtain ⟨⟨tag, P, EE, v1, v2, v3, v4, v5, v6, arr, tv, h7, h8⟩, hp, hna, hbl, ha, hgg⟩ := h
  have l1 := (Array.getElem?_eq_some_iff.1 h7).1
  have eep : (fun i => EE i e) = ep := by funext i; exact (v2 i).symm
  refine (alone_any n wr tag P t EE vb vc e B hn hn5 v1 l1 (by omega) (fun i hi => by rw [cell_of_row _ _ i _ tv (0, 0) h7]; exact h8 i hi) he hwf hbf ht h1 (fun i hi => by rw [← v2 i]; exact h2 i hi) (fun i hi => by rw [← v2 i]; exact hg i hi)).mono ?_
  rintro en w' ⟨b, v, rfl, r1, r2, r3⟩
  rw [eep] at r1
  exact ⟨b, v, rfl, r1, r2, ((Only.of_bl hbl).trans r3).to_bl fun b hb e => by have := v3 b hb; omega⟩
end Go.Proofs.Ytbghhbpacijmmaa
