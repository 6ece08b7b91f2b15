-- Which appends want a token.
import Derived.Test.YtbghhbpacijmmaaGreatDApp
import Derived.Test.YtbghhbpacijmmaaGreatShelf
import Derived.Sort.OwnSortedInts
namespace Go.Proofs.YtbghhbpacijmmaaGreat
open Go.RowKit
open Go.ChangeMaps (setBlock)
attribute [local go_sem ↓] Go.wp_at_zero Go.wp_at_succ

set_option maxRecDepth 100000 in
set_option maxHeartbeats 1000000 in
theorem asks_no (q : Nat) (Q : Nat → Value) (w : World) (h : At 29 168 w q Q) (h24 : Q 26 = .slice none 0 0) :
    Calls Tryz.prog 155 #[.pointer (some ⟨q, 17, none⟩)] w fun e w' => e = .returned (.bool false) ∧ w' = w := by
  have e24 : w.cell? ⟨q, 26, none⟩ = some (.slice none 0 0) := by rw [h.cell 26 (by decide), h24]
  go_enter Tryz.func155, Tryz.ntmps155
  go_wp2
  go_ret
  exact ⟨rfl, rfl⟩

set_option maxRecDepth 100000 in
set_option maxHeartbeats 1000000 in
theorem wants_yes (q : Nat) (Q : Nat → Value) (w : World) (h : At 29 168 w q Q) (h0 : Q 0 = .int .i64 1) (h24 : Q 26 = .slice none 0 0) :
    Calls Tryz.prog 94 #[.pointer (some ⟨q, 0, none⟩)] w fun e w' => e = .returned (.bool true) ∧ w' = w := by
  have e0 : w.cell? ⟨q, 0, none⟩ = some (.int .i64 1) := by rw [h.cell 0 (by decide), h0]
  have HA := hid (asks_no q Q w h h24)
  go_enter Tryz.func94, Tryz.ntmps94
  go_wp2_with fail
  refine HA.out.mono ?_
  rintro e w' ⟨rfl, rfl⟩
  go_wp2
  go_ret
  exact ⟨rfl, rfl⟩

theorem sort_own (g cap : Nat) (zs : List Int) (w : World) (base : Nat) (ho : w.ownsRow base 3 1 (.slice (some ⟨g, 0, none⟩) zs.length cap) zs.length (zs.map (Value.int .i64))) (hn : zs.length ≤ 100) :
    Calls Tryz.prog 95 #[.slice (some ⟨g, 0, none⟩) zs.length cap] w fun e w' => e = .returned (.tuple #[]) ∧ Only (fun k => k = g) w w' := by
  rcases ho.2 with ⟨h0, _⟩ | ⟨g', cap', cur, hv, hg, hb, hc, hm, hs, ht⟩
  · simp at h0
  simp only [Value.slice.injEq, Option.some.injEq, Addr.mk.injEq, and_true, true_and] at hv
  obtain ⟨rfl, rfl⟩ := hv
  refine (Any.slices_Sort_int Tryz.lays189 g 0 cap zs w (holds_of_blockI hb (by simpa using ht)) (Array.getElem?_eq_some_iff.1 hb).1 (by omega)).mono ?_
  rintro e w' ⟨rfl, n, os, rfl⟩
  exact ⟨rfl, (Only.of_grown (grownBy_sortedI _)).mono fun k _ e => by simpa using e⟩

theorem setBlock_only (w : World) (r : Nat) (o : Obj) : Only (fun k => k = r) w (setBlock w r o) :=
  ⟨rfl, rfl, rfl, by simp [setBlock], fun k _ hs => by simp [setBlock, Ne.symm hs]⟩

section
variable {p bm : Nat} {a b c d id : Int} {rs : Value} {ps : List Nat} {K : Nat → Value}
set_option maxRecDepth 100000 in
set_option maxHeartbeats 4000000 in
theorem wants_in (w : World) (h : Cs w p bm a b c d id rs ps K) (hn : 0 < ps.length) (hn8 : ps.length ≤ 8) :
    Calls Tryz.prog 51 #[.pointer (some ⟨p, 0, none⟩)] w fun e w' => (∃ g cap, e = .returned (.slice (some ⟨g, 0, none⟩) ps.length cap)) ∧ Bl w w' := by
  obtain ⟨i3, ji, jz0, jz1, jz2⟩ := info_parts Tryz.info3
  have h8 := h.c8
  have H := hid h
  have hM := h.mp
  have hbl := h.blt
  clear h
  go_enter Tryz.func51, Tryz.ntmps51
  go_wp2_with (at_range; refine wpList_range_raw _ rfl _ 98 rfl 3 163 Tryz.underlying98 bm (ents ps) ps.length rfl hM ?_)
  go_frame
  go_loopw [3] (fun v wr => ∃ (zs : List Int) (seen : Array Nat), wr.ownsRow w.heap.size 3 1 v zs.length (zs.map (Value.int .i64)) ∧ Bl w wr ∧ wr.heap[w.heap.size]? = some (.mapIter (some bm) ps.length seen ps.length) ∧ (leftOf (ents ps) seen).size + zs.length = ps.length) (fun _ wr => (leftOf (ents ps) (wr.iterSeen w.heap.size)).size)
  case atStart => exact ⟨[], #[], World.ownsRow_nil _ _ _ _, (Bl.refl w).alloc _, heap_alloc_new w _, by rw [leftOf_start]; rfl⟩
  case round =>
    obtain ⟨zs, seen, hown, hB, hr, hc⟩ := hrel
    have hb : wr.heap[bm]? = some (.map (ents ps) ps.length) := (hB.heap hbl).trans hM
    have hrb : w.heap.size ≠ bm := by omega
    have hold : Hid (∀ x ∈ (ents ps).toList, x.born < ps.length) := fun x hx => by
      obtain ⟨i, hi, rfl⟩ := ents_mem hx
      exact hi
    have hrl : w.heap.size < wr.heap.size := (Array.getElem?_eq_some_iff.1 hr).1
    have Hown := hid hown
    have HB := hid hB
    have Hr := hid hr
    have Hb := hid hb
    have Hc := hid hc
    clear hown hB hr hb hc
    go_wp2_with (at_next; refine wpList_next_raw _ rfl _ rfl w.heap.size bm ps.length seen (ents ps) ps.length rfl Hr.out Hb.out hrb hold.out (Nat.le_refl _) (ents_born ps) ?_ ?_)
    · intro h0
      have hl : zs.length = ps.length := by have := Hc.out; have h0 : (leftOf (ents ps) seen).size = 0 := h0; omega
      obtain ⟨g, cap, rfl⟩ := own_shape Hown.out (by omega)
      have HS := hid (sort_own g cap zs wr w.heap.size Hown.out (by omega))
      have hgl := Hown.out.lt g rfl
      rw [hl] at HS ⊢
      clear Hown Hc
      go_wp2_with fail
      refine HS.out.mono ?_
      rintro e w2 ⟨rfl, hO⟩
      go_wp2
      go_ret
      exact ⟨⟨g, cap, rfl⟩, HB.out.trans_only hO fun k e => by omega⟩
    · intro e W he hW hen
      obtain ⟨i, hi, rfl⟩ := ents_mem (mem_left he).1
      have hsz := leftOf_push ps seen _ he
      simp only [ent] at hen hsz hW ⊢
      have HW : Only (fun k => k = w.heap.size) wr W := by
        obtain ⟨w1, e | e, rfl⟩ := hW
        · subst e; exact setBlock_only _ _ _
        · subst e; exact (Only.of_bl ((Bl.refl wr).drew)).trans (setBlock_only _ _ _)
      have hWr : W.heap[w.heap.size]? = some (.mapIter (some bm) ps.length (seen.push i) ps.length) := by
        obtain ⟨w1, e | e, rfl⟩ := hW <;> subst e <;> simp [setBlock, hrl]
      have hWo : W.ownsRow w.heap.size 3 1 u3 zs.length (zs.map (Value.int .i64)) := HW.owns Hown.out fun g e e' => by
        obtain ⟨cc, hcc⟩ := own_type Hown.out g e
        rw [e', Hr.out] at hcc; simp at hcc
      have hWB : Bl w W := HB.out.trans_only HW fun k e => by omega
      have hWC := H.out.bl hWB
      obtain ⟨Q, q1, q2, q3, q4⟩ := hWC.call i hi
      have HV := hid (wants_yes _ Q W q1 q2 q4.1)
      have hzl : zs.length + 1 ≤ 8 := by have := Hc.out; omega
      have hml : Hid (zs.length + 1 ≤ maxLen) := by unfold Hid maxLen; omega
      have hby : Hid ((zs.length + 1) * 8 ≤ 140737488355328) := by unfold Hid; omega
      have HWo := hid hWo
      have HWr := hid hWr
      have HWB := hid hWB
      have Hsz := hid hsz
      have hWl := hWB.lt
      have hne : Hid (u3.ownBlock ≠ some w.heap.size) := fun e => by
        obtain ⟨cc, hcc⟩ := own_type hWo _ e
        rw [hWr] at hcc; simp at hcc
      have hrW : Hid (w.heap.size < W.heap.size) := (Array.getElem?_eq_some_iff.1 hWr).1
      clear hWo hWr hWB hsz hWC q1 q2 q3 q4 HW hW he Hown Hb
      go_wp2_with fail
      refine HV.out.mono ?_
      rintro e w2 ⟨rfl, rfl⟩
      go_wp2_with (at_builtin; refine wpList_append_lies _ rfl _ _ 24 rfl w.heap.size 3 i3 (.int .i64 0) 1 8 Tryz.underlying24 ji jz0 jz1 jz2 rfl (by decide) u3 zs.length _ rfl (HWo.out.alloc _) ⟨w2.heap.size, 0, none⟩ 1 1 [.int .i64 i] rfl rfl (cell_one_new _ _ _) (by simp [Value.oneCell']) (by decide) hml.out hby.out (by simp; omega) (w2.heap.size + 1) (by simp) ?_)
      intro g' cap w3 hown' hgrow hat hlt'
      have O3 := Only.of_grown hgrow
      have b3 : Bl w w3 := (HWB.out.alloc _).trans_only O3 fun k e => (HWo.out.lt k e.symm).1
      have r3 : w3.heap[w.heap.size]? = some (.mapIter (some bm) ps.length (seen.push i) ps.length) := (O3.block _ (by simp; have := hrW.out; omega) fun e => hne.out e.symm).trans ((heap_alloc_old w2 _ hrW.out).trans HWr.out)
      have hown3 : Hid (w3.ownsRow w.heap.size 3 1 (.slice (some ⟨g', 0, none⟩) (zs.length + 1) cap) (zs ++ [(i : Int)]).length ((zs ++ [(i : Int)]).map (Value.int .i64))) := by unfold Hid; simpa using hown'
      have R3 := hid r3
      have B3 := hid b3
      clear hown' hgrow hat O3 b3 r3
      go_wp2
      go_roundw
      case rel => exact ⟨zs ++ [(i : Int)], seen.push i, hown3.out, B3.out, R3.out, by have := Hsz.out; have := Hc.out; simp; omega⟩
      case measure =>
        have e1 : w3.iterSeen w.heap.size = seen.push i := by unfold World.iterSeen; rw [R3.out]
        have e2 : wr.iterSeen w.heap.size = seen := by unfold World.iterSeen; rw [Hr.out]
        rw [e1, e2]
        have := Hsz.out
        omega
set_option maxRecDepth 100000 in
set_option maxHeartbeats 1000000 in
theorem wants_any (w : World) (h : Cs w p bm a b c d id rs ps K) (hn : 0 < ps.length) (hn8 : ps.length ≤ 8) :
    Calls Tryz.prog 24 #[.pointer (some ⟨p, 0, none⟩)] w fun e w' => (∃ g cap, e = .returned (.slice (some ⟨g, 0, none⟩) ps.length cap)) ∧ Bl w w' := by
  have HC := hid (wants_in w h hn hn8)
  clear h
  go_enter Tryz.func24, Tryz.ntmps24
  go_wp2_with fail
  refine HC.out.mono ?_
  rintro e w' ⟨⟨g, cap, rfl⟩, hb⟩
  go_wp2
  go_ret
  exact ⟨⟨g, cap, rfl⟩, hb⟩
end
end Go.Proofs.YtbghhbpacijmmaaGreat
