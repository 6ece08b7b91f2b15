-- The first line that no pending call has.
import Derived.Test.YtbghhbpacijmmaaGreatMIter0
namespace Go.Proofs.YtbghhbpacijmmaaGreat
open Go.RowKit
attribute [local go_sem ↓] Go.wp_at_zero Go.wp_at_succ
/-- Eight signs: a line is taken. -/
def lnS (ls : List Nat) (i : Nat) : Value := .bool (ls.contains i)
def lnF (ls : List Nat) : Nat := ((List.range 8).find? fun l => !(ls.contains l)).getD 0
/-- A block of eight signs. -/
def Sg (w : World) (b : Nat) (ls : List Nat) : Prop := ∃ arr, w.heap[b]? = some (.cells arr 266 (0, 0)) ∧ arr.size = 8 ∧ ∀ i, i < 8 → arr[i]? = some (lnS ls i)
section
variable {w w' : World} {b : Nat} {ls : List Nat}
theorem Sg.lt (h : Sg w b ls) : b < w.heap.size := by
  obtain ⟨arr, hb, _⟩ := h; exact (Array.getElem?_eq_some_iff.1 hb).1
theorem Sg.cell (h : Sg w b ls) (i : Nat) (hi : i < 8) : w.cell? ⟨b, i, none⟩ = some (lnS ls i) := by
  obtain ⟨arr, hb, _, hc⟩ := h
  rw [cell_of_row w b i _ 266 (0, 0) hb]; exact hc i hi
theorem Sg.frozen (h : Sg w b ls) (i : Nat) : w.frozen? ⟨b, i, none⟩ = false := by
  obtain ⟨arr, hb, _⟩ := h
  exact frozen_of_row w b i _ 266 hb
theorem Sg.of_heap (h : Sg w b ls) (e : w'.heap[b]? = w.heap[b]?) : Sg w' b ls := by
  obtain ⟨arr, hb, r⟩ := h
  exact ⟨arr, e.trans hb, r⟩
theorem Sg.set (h : Sg w b ls) (i : Nat) (hi : i < 8) : Sg (w.setCell ⟨b, i, none⟩ (.bool true)) b (i :: ls) := by
  obtain ⟨arr, hb, hs, hc⟩ := h
  refine ⟨_, Go.heap_setCell_same w b i _ 266 _ hb, by simp [hs], fun j hj => ?_⟩
  rw [Array.getElem?_setIfInBounds]
  by_cases e : i = j
  · subst e; simp [hs, hi, lnS]
  · rw [if_neg e, hc j hj]; simp [lnS, Ne.symm e]
theorem lnF_mem (ls : List Nat) (h : ls.length < 8) : (List.range 8).find? (fun l => !(ls.contains l)) = some (lnF ls) := by
  unfold lnF
  cases e : (List.range 8).find? (fun l => !(ls.contains l)) with
  | some x => rfl
  | none =>
    exfalso
    have := len_of_sub (l1 := List.range 8) (l2 := ls) List.nodup_range (fun x hx => by
      have := List.find?_eq_none.1 e x hx
      simpa using this)
    simp at this; omega
theorem lnF_spec (ls : List Nat) (h : ls.length < 8) : lnF ls < 8 ∧ ls.contains (lnF ls) = false ∧ ∀ i, i < lnF ls → ls.contains i = true := by
  have e := lnF_mem ls h
  have h1 := List.find?_some e
  have h2 := List.mem_of_find?_eq_some e
  refine ⟨by simpa using h2, by simpa using h1, fun i hi => ?_⟩
  rw [List.find?_eq_some_iff_append] at e
  obtain ⟨_, as0, bs0, hab, hall⟩ := e
  have hlen : as0.length = lnF ls := by
    have h3 : (List.range 8)[as0.length]? = some (lnF ls) := by rw [hab]; simp
    rw [List.getElem?_range] at h3
    · simpa using h3
    · have := congrArg List.length hab; simp at this; omega
  have h4 : as0[i]? = some i := by
    have h5 : (List.range 8)[i]? = some i := by rw [List.getElem?_range]; simp at h2; omega
    rw [hab, List.getElem?_append_left (by omega)] at h5
    exact h5
  have := hall i (List.mem_of_getElem? h4)
  simpa using this
set_option maxRecDepth 100000 in
set_option maxHeartbeats 4000000 in
theorem index_any (h : Sg w b ls) (hl : ls.length < 8) : Calls Tryz.prog 188 #[.slice (some ⟨b, 0, none⟩) 8 8, .bool false] w fun en w' => en = .returned (.int .i64 (lnF ls)) ∧ Bl w w' := by
  obtain ⟨f1, f2, f3⟩ := lnF_spec ls hl
  have H := hid h
  have F3 := hid f3
  have hlt := h.lt
  have F2 := hid f2
  clear h f3 f2
  go_enter Tryz.func188, Tryz.ntmps188
  go_wp2_with fail
  go_loopw [8] (fun v wr => ∃ i : Nat, v = .int .i64 i ∧ i ≤ lnF ls ∧ wr = w) (fun v _ => lnF ls - (Go.RowKit.intOf v).toNat)
  case atStart => exact ⟨0, rfl, Nat.zero_le _, rfl⟩
  case round =>
    obtain ⟨i, rfl, hi, rfl⟩ := hrel
    have hc := H.out.cell i (by omega)
    unfold lnS at hc
    have hi8 : (i : Int) < 8 := by omega
    have hi0 : (0 : Int) ≤ i := by omega
    by_cases e : i = lnF ls
    · subst e
      rw [F2.out] at hc
      go_wp2
      go_ret
      exact ⟨rfl, Bl.refl _⟩
    · rw [F3.out i (by omega)] at hc
      go_wp2
      go_roundw
      case rel => exact ⟨i + 1, by simp, by omega, trivial⟩
      case measure => simp [Go.RowKit.intOf]; omega
theorem lnF_perm {l1 l2 : List Nat} (h : l1.Perm l2) : lnF l1 = lnF l2 := by
  unfold lnF
  have : (fun l => !(l1.contains l)) = (fun l => !(l2.contains l)) := by
    funext x
    rw [Bool.eq_iff_iff]
    simp [h.mem_iff]
  rw [this]
theorem Sg.new (w : World) : Sg (w.alloc (.cells #[.bool false, .bool false, .bool false, .bool false, .bool false, .bool false, .bool false, .bool false] 266)) w.heap.size [] := by
  refine ⟨_, heap_alloc_new w _, rfl, fun i hi => ?_⟩
  have : i = 0 ∨ i = 1 ∨ i = 2 ∨ i = 3 ∨ i = 4 ∨ i = 5 ∨ i = 6 ∨ i = 7 := by omega
  rcases this with rfl | rfl | rfl | rfl | rfl | rfl | rfl | rfl <;> rfl
set_option maxRecDepth 100000 in
set_option maxHeartbeats 4000000 in
theorem freeLine_any {p bm clk : Nat} {es : Array MapEntry} {ln : MapEntry → Nat} (c8 : w.cell? ⟨p, 8, none⟩ = some (.map (some bm))) (lp : p < w.heap.size) (hm : w.heap[bm]? = some (.map es clk)) (bo : ∀ x ∈ es.toList, x.born < clk) (nd : (es.toList.map (·.born)).Nodup)
    (hv : ∀ x ∈ es.toList, ∃ q, x.val = .pointer (some ⟨q, 0, none⟩) ∧ w.cell? ⟨q, 2, none⟩ = some (.int .i64 (ln x : Nat)) ∧ ln x < 8 ∧ q < w.heap.size) (hs : es.size < 8) :
    Calls Tryz.prog 148 #[.pointer (some ⟨p, 0, none⟩)] w fun en w' => en = .returned (.int .i64 (lnF (es.toList.map ln))) ∧ Bl w w' := by
  have HM := hid hm
  have Hbo := hid bo
  have Hnd := hid nd
  have HV := hid hv
  have HS := hid hs
  have lm := (Array.getElem?_eq_some_iff.1 hm).1
  clear hm bo nd hv hs
  go_enter Tryz.func148, Tryz.ntmps148
  go_wp2_with (at_range; refine wpList_range_it _ rfl _ 98 rfl 3 163 Tryz.underlying98 bm es clk rfl ((heap_alloc_old w _ lm).trans HM.out) Hbo.out Hnd.out ?_; intro hI; generalize hr : (World.alloc w _).heap.size = r at hI ⊢; have hr' : r = w.heap.size + 1 := (by rw [← hr]; simp); clear hr; have HI := hid hI; have HR := hid hr'; clear hr' hI)
  go_frame
  go_loopw [] (fun wr => ∃ done : List MapEntry, Hid (Bl w wr) ∧ Hid (Sg wr w.heap.size (done.map ln)) ∧ Hid (It wr r bm es clk done)) (fun wr => es.size - (wr.iterSeen r).size)
  case atStart => exact ⟨[], ((Bl.refl w).alloc _).alloc _, (Sg.new w).of_heap (heap_alloc_old _ _ (by simp)), HI.out⟩
  case round =>
    obtain ⟨done, HB, HG, HJ⟩ := hrel
    go_wp2_with (at_next; refine wpList_next_it _ rfl _ rfl r bm clk es done rfl HJ.out ?_ ?_)
    · intro h0
      have HC := hid (index_any HG.out (by have := HJ.out.len; have := HS.out; simp; omega))
      have hL := lnF_perm (h0.map ln)
      rw [hL] at HC
      have hlt := HG.out.lt
      go_wp2_with fail
      refine HC.out.mono ?_
      rintro en w2 ⟨rfl, hb2⟩
      have HB2 := hid hb2
      clear hb2
      go_wp2
      go_ret
      exact ⟨rfl, HB.out.trans HB2.out⟩
    · intro e W he hJ2 hO hen
      obtain ⟨q, hq, cq, hl8, lq⟩ := HV.out e (by simpa using he)
      rw [hq] at hen ⊢
      have lq' := Nat.lt_of_lt_of_le lq HB.out.lt
      have cq' := (hO.cell (b := q) lq' (by have := HR.out; omega)).trans ((HB.out.cell lq).trans cq)
      have hG2 := HG.out.of_heap (hO.block _ HG.out.lt (by have := HR.out; omega))
      have hlt := hG2.lt
      have hfz := hG2.frozen (ln e)
      have hcl := hG2.cell (ln e) hl8
      have lqW := Nat.lt_of_lt_of_le lq' hO.size
      have HJ2 := hid hJ2
      have HO := hid hO
      have HG2 := hid hG2
      have hl0 : (0 : Int) ≤ (ln e : Int) := by omega
      have hl8' : (ln e : Int) < 8 := by omega
      clear hJ2 hO he hG2 cq
      go_wp2
      go_roundw
      case rel =>
        have hO3 : Only (fun k => k = w.heap.size) W (W.setCell ⟨w.heap.size, ln e, none⟩ (.bool true)) := (Only.refl (fun k => k = w.heap.size) W).setCell ⟨w.heap.size, ln e, none⟩ (.inl rfl) _
        refine ⟨e :: done, (HB.out.trans_only HO.out fun b hb => by have := HR.out; omega).trans_only hO3 fun b hb => by omega, ?_, HJ2.out.only hO3 (by have := HR.out; omega) (by omega)⟩
        rw [List.map_cons]
        exact HG2.out.set _ hl8
      case measure =>
        have e1 : W.iterSeen r = ((e :: done).map (·.born)).reverse.toArray := by unfold World.iterSeen; rw [HJ2.out.it]
        have e2 : wr.iterSeen r = (done.map (·.born)).reverse.toArray := by unfold World.iterSeen; rw [HJ.out.it]
        have := HJ2.out.len
        have e3 : (W.setCell ⟨w.heap.size, ln e, none⟩ (.bool true)).iterSeen r = W.iterSeen r := by
          unfold World.iterSeen
          rw [((Only.refl (fun k => k = w.heap.size) W).setCell ⟨w.heap.size, ln e, none⟩ (.inl rfl) (.bool true)).block r HJ2.out.lr (by have := HR.out; omega)]
        rw [e3, e1, e2]
        simp at this ⊢; omega
theorem freeLine_ex {p bm clk : Nat} {es : Array MapEntry} (c8 : w.cell? ⟨p, 8, none⟩ = some (.map (some bm))) (lp : p < w.heap.size) (hm : w.heap[bm]? = some (.map es clk)) (bo : ∀ x ∈ es.toList, x.born < clk) (nd : (es.toList.map (·.born)).Nodup)
    (hv : ∀ x ∈ es.toList, ∃ (q l : Nat), x.val = .pointer (some ⟨q, 0, none⟩) ∧ w.cell? ⟨q, 2, none⟩ = some (.int .i64 l) ∧ l < 8 ∧ q < w.heap.size) (hs : es.size < 8) :
    Calls Tryz.prog 148 #[.pointer (some ⟨p, 0, none⟩)] w fun en w' => (∃ l : Nat, l < 8 ∧ en = .returned (.int .i64 l)) ∧ Bl w w' := by
  have h1 : ∀ x : MapEntry, ∃ l : Nat, x ∈ es.toList → ∃ q, x.val = .pointer (some ⟨q, 0, none⟩) ∧ w.cell? ⟨q, 2, none⟩ = some (.int .i64 l) ∧ l < 8 ∧ q < w.heap.size := fun x => by
    by_cases hx : x ∈ es.toList
    · obtain ⟨q, l, h⟩ := hv x hx
      exact ⟨l, fun _ => ⟨q, h⟩⟩
    · exact ⟨0, fun h => absurd h hx⟩
  obtain ⟨ln, hln⟩ := Classical.axiomOfChoice h1
  refine (freeLine_any (ln := ln) c8 lp hm bo nd (fun x hx => hln x hx) hs).mono ?_
  rintro en w' ⟨rfl, hb⟩
  exact ⟨⟨_, (lnF_spec _ (by simpa using hs)).1, rfl⟩, hb⟩
end
end Go.Proofs.YtbghhbpacijmmaaGreat
