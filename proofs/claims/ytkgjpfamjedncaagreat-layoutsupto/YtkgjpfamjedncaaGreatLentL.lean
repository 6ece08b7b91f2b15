/-
  Layouts that are lent.
-/
import Derived.Test.YtkgjpfamjedncaaGreatBack
namespace Go.Proofs.YtkgjpfamjedncaaGreat
open Go.RowKit

/-- What lies at place i of a layout that is lent. -/
def Good (base : Nat) (w : World) (ls : List Value) (L : List (List Int)) (i : Nat) (m : Value) : Prop :=
  (∀ (h : i < L.length) (h' : i < ls.length), LentI base w m ls[i] L[i]) ∧ (L.length ≤ i → ∃ g, m = .slice (some ⟨g, 0, none⟩) 1 1 ∧ w.ownsRow base 3 1 m 1 [.int .i64 (-77)])

theorem Good.row {base : Nat} {w : World} {ls : List Value} {L : List (List Int)} {i : Nat} {m : Value} (h : Good base w ls L i m) (hl : ls.length = L.length) (b : Nat) (hb : m.ownBlock = some b) :
    ∃ n xs, w.ownsRow base 3 1 (.slice (some ⟨b, 0, none⟩) n n) n xs := by
  by_cases hi : i < L.length
  · rcases h.1 hi (by omega) with ⟨_, e, _⟩ | ⟨a, c, g, _, e, ho⟩
    · rw [e] at hb; simp [Value.ownBlock] at hb
    · rw [e] at hb; simp [Value.ownBlock] at hb
      subst hb; exact ⟨_, _, ho⟩
  · obtain ⟨g, e, ho⟩ := h.2 (by omega)
    subst e
    simp [Value.ownBlock] at hb
    subst hb; exact ⟨_, _, ho⟩
theorem Good.only {S : Nat → Prop} {base : Nat} {w w' : World} {ls : List Value} {L : List (List Int)} {i : Nat} {m : Value} (h : Good base w ls L i m) (ho : Only S w w') (hs : ∀ b, m.ownBlock = some b → ¬ S b) : Good base w' ls L i m := by
  refine ⟨fun h1 h2 => (h.1 h1 h2).only ho hs, fun h1 => ?_⟩
  obtain ⟨g, e, hw⟩ := h.2 h1
  exact ⟨g, e, ho.owns hw hs⟩
theorem Good.ne {base base' : Nat} {w : World} {ls : List Value} {L : List (List Int)} {i : Nat} {m : Value} (h : Good base w ls L i m) (hl : ls.length = L.length) {G n : Nat} {ms : List Value} (ho : w.ownsRow base' 24 1 (.slice (some ⟨G, 0, none⟩) n n) n ms) (b : Nat) (hb : m.ownBlock = some b) : ¬ b = G := by
  rintro rfl
  obtain ⟨n', xs, hr⟩ := h.row hl b hb
  exact ownsRow_type hr ho (by decide) b rfl rfl
theorem Good.lt {base : Nat} {w : World} {ls : List Value} {L : List (List Int)} {i : Nat} {m : Value} (h : Good base w ls L i m) (hl : ls.length = L.length) (b : Nat) (hb : m.ownBlock = some b) : base ≤ b ∧ b < w.heap.size := by
  obtain ⟨n', xs, hr⟩ := h.row hl b hb
  exact hr.lt b rfl

structure LentK (base : Nat) (w : World) (G : Nat) (ls : List Value) (L : List (List Int)) (k : Nat) (ms : List Value) : Prop where
  own : w.ownsRow base 24 1 (.slice (some ⟨G, 0, none⟩) (L.length + 8) (L.length + 8)) (L.length + 8) ms
  ll : ls.length = L.length
  row : ∀ i (h : i < ms.length), i < k → Good base w ls L i ms[i]
  apart : ∀ i j (hi : i < ms.length) (hj : j < ms.length) b, i < k → j < k → i ≠ j → ms[i].ownBlock = some b → ms[j].ownBlock ≠ some b

theorem LentK.step {base : Nat} {w w1 : World} {G : Nat} {ls : List Value} {L : List (List Int)} {k : Nat} {ms ms1 : List Value} (h : LentK base w G ls L k ms) (ho : Only (fun b => b = G) w w1) (hk : k < L.length + 8)
    (hown : w1.ownsRow base 24 1 (.slice (some ⟨G, 0, none⟩) (L.length + 8) (L.length + 8)) (L.length + 8) ms1) {m : Value} (hms : ms1.set k m = ms.set k m) (hg : Good base w1 ls L k m) (hnew : ∀ b, m.ownBlock = some b → w.heap.size ≤ b) :
    LentK base (w1.setCell ⟨G, k, none⟩ m) G ls L (k + 1) (ms.set k m) := by
  obtain ⟨hst, hgr⟩ := hown.stored k m
  have hgr' := Only.of_grown hgr
  rw [hms] at hst
  have hml := ownsRow_len h.own
  refine ⟨hst, h.ll, fun i hi hik => ?_, fun i j hi hj b hik hjk hij hb => ?_⟩
  · by_cases e : i = k
    · subst e
      rw [List.getElem_set_self]
      exact hg.only hgr' fun b hb e => hg.ne h.ll hown b hb (by simpa using e)
    · have hi2 : i < ms.length := by simpa using hi
      rw [List.getElem_set_ne (by omega)]
      have h1 := h.row i hi2 (by omega)
      have h2 := h1.only ho fun b hb => h1.ne h.ll h.own b hb
      exact h2.only hgr' fun b hb e => h2.ne h.ll hown b hb (by simpa using e)
  · have hi2 : i < ms.length := by simpa using hi
    have hj2 : j < ms.length := by simpa using hj
    by_cases e : i = k
    · subst e
      rw [List.getElem_set_self] at hb
      rw [List.getElem_set_ne (by omega)]
      intro hb'
      have := ((h.row j hj2 (by omega)).lt h.ll b hb').2
      have := hnew b hb
      omega
    · rw [List.getElem_set_ne (by omega)] at hb
      by_cases e' : j = k
      · subst e'
        rw [List.getElem_set_self]
        intro hb'
        have := ((h.row i hi2 (by omega)).lt h.ll b hb).2
        have := hnew b hb'
        omega
      · rw [List.getElem_set_ne (by omega)]
        exact h.apart i j hi2 hj2 b (by omega) (by omega) hij hb

theorem LentK.bl {base : Nat} {w w1 : World} {G : Nat} {ls : List Value} {L : List (List Int)} {k : Nat} {ms : List Value} (h : LentK base w G ls L k ms) (hb : Bl w w1) : LentK base w1 G ls L k ms :=
  have ho : Only (fun _ => False) w w1 := Only.of_bl hb
  ⟨ho.owns h.own fun _ _ e => e, h.ll, fun i hi hk => (h.row i hi hk).only ho fun _ _ e => e, h.apart⟩

theorem LentI.base {base base' : Nat} {w : World} {r v : Value} {zs : List Int} (h : LentI base w r v zs) (hb : base' ≤ base) : LentI base' w r v zs := by
  rcases h with h | ⟨a, c, g, rfl, rfl, h⟩
  · exact .inl h
  · exact .inr ⟨a, c, g, rfl, rfl, ownsRow_base h fun b hb' => Nat.le_trans hb (h.lt b hb').1⟩

set_option maxRecDepth 100000 in
set_option maxHeartbeats 1000000 in
theorem lentLayout_any (v : Value) (ls : List Value) (L : List (List Int)) (w : World) (hv : Sl w v ls) (hl : ls.length = L.length) (hr : ∀ i (h : i < ls.length) (h' : i < L.length), Sl w ls[i] (L[i].map (Value.int .i64))) (hn : L.length ≤ 4000000) (hs : ∀ c ∈ L, c.length ≤ 4000000) :
    Calls Tryz.prog 21 #[v] w fun e w' => ∃ G ms, e = .returned (.slice (some ⟨G, 0, none⟩) L.length (L.length + 8)) ∧ Bl w w' ∧ LentK w.heap.size w' G ls L (L.length + 8) ms := by
  obtain ⟨i24, hi, hz0, hz1, hz2⟩ := info_parts Tryz.info24
  have hby : Hid (i24.bytes * (L.length + 8) ≤ 281474976710656) := by rw [hz2]; unfold Hid; omega
  have hml : Hid (L.length + 8 ≤ maxLen) := by unfold Hid maxLen; omega
  obtain ⟨a0, c0, hv0⟩ := hv.len
  rw [hl] at hv0
  subst hv0
  have Hv := hid hv
  have Hr := hid hr
  have Hs := hid hs
  have Hl := hid hl
  clear hv hr hs hl
  go_enter Tryz.func21, Tryz.ntmps21
  go_wp2_with (first | (at_make; refine wpList_make_full _ rfl _ _ 39 rfl w.heap.size 24 i24 _ 1 Tryz.underlying39 hi hz0 hz1 _ _ _ _ (L.length + 8) rfl rfl (by omega) (by omega) hby.out hml.out (by simp) ?_))
  intro w1 hown hgrow
  have hbl := hid ((Only.of_grown hgrow).to_bl (by simp))
  have hK0 : Hid (LentK w.heap.size w1 w.heap.size ls L 0 _) := ⟨hown, Hl.out, fun i _ h => by omega, fun i j _ _ b h => by omega⟩
  clear hown hgrow
  go_wp2
  go_loopw [4] (fun i wr => ∃ (k : Nat) (ms : List Value), k ≤ L.length + 8 ∧ i = .int .i64 k ∧ Bl w wr ∧ LentK w.heap.size wr w.heap.size ls L k ms) (fun i _ => L.length + 8 - (intOf i).toNat)
  case atStart => exact ⟨0, _, by omega, rfl, hbl.out, hK0.out⟩
  case round =>
    clear hbl hK0
    obtain ⟨k, ms, hk, rfl, hbl, hK⟩ := hrel
    have HK := hid hK
    clear hK
    by_cases hlt : k < L.length + 8
    · obtain ⟨old, hcell0⟩ := own_cell HK.out.own k hlt
      have hfro0 := HK.out.own.frozenAt k
      have hB : w.heap.size < wr.heap.size := (HK.out.own.lt w.heap.size rfl).2
      have ba : Bl wr (wr.alloc (.cells #[.int .i64 (-77)] 3)) := (Bl.refl _).alloc _
      have hcell := (ba.cell hB).trans hcell0
      have hfro := (ba.frozen hB).trans hfro0
      have hK1 : LentK w.heap.size (wr.alloc (.cells #[.int .i64 (-77)] 3)) w.heap.size ls L k ms := HK.out.bl ba
      obtain ⟨hst, hgr⟩ := hK1.own.stored k (.slice (some ⟨wr.heap.size, 0, none⟩) 1 1)
      have hO1 : Hid (Only (fun b => b = w.heap.size) wr ((wr.alloc (.cells #[.int .i64 (-77)] 3)).setCell ⟨w.heap.size, k, none⟩ (.slice (some ⟨wr.heap.size, 0, none⟩) 1 1))) := Only.setCell (S := fun b => b = w.heap.size) (Only.of_bl ba) ⟨w.heap.size, k, none⟩ (.inl rfl) _
      have hbl1 : Hid (Bl w ((wr.alloc (.cells #[.int .i64 (-77)] 3)).setCell ⟨w.heap.size, k, none⟩ (.slice (some ⟨wr.heap.size, 0, none⟩) 1 1))) := hbl.trans_only hO1.out (fun n hn => by rw [hn]; exact Nat.le_refl _)
      rw [World.setCell_alloc_past (hn := hB)] at hO1 hbl1 hst
      by_cases hlL : k < L.length
      · have hcell2 := own_cell hst k hlt
        have hfro2 := hst.frozenAt k
        have Hst := hid hst
        have hlk : k < ls.length := by rw [Hl.out]; exact hlL
        have hsl := hid ((Hr.out k hlk hlL).bl hbl1.out)
        have hzl := Hs.out _ (List.getElem_mem hlL)
        rcases Hv.out with ⟨a9, c9, hv1, hv2⟩ | ⟨b1, o1, c1, hv1, hb1, hc1⟩
        · rw [hv2] at hlk; simp at hlk
        simp only [Value.slice.injEq] at hv1
        obtain ⟨rfl, hlx, rfl⟩ := hv1
        have hcv := (hbl1.out.cell hb1).trans (hc1 k hlk)
        obtain ⟨lk, hlk2⟩ : ∃ q, q = ls[k] := ⟨_, rfl⟩
        have Hlk := hid hlk2
        rw [← Hlk.out] at hcv hsl
        obtain ⟨zk, hzk⟩ : ∃ q, q = L[k] := ⟨_, rfl⟩
        have Hzk := hid hzk
        rw [← Hzk.out] at hsl hzl
        obtain ⟨al, cl, hll⟩ := hsl.out.len
        simp only [List.length_map] at hll
        clear hlx hc1 hst hgr hK1 hcell0 hfro0 hlk2 hzk
        subst hll
        go_wp2_with fail
        refine (lentInts_any _ zk _ hsl.out hzl).mono ?_
        rintro e w2 ⟨r, rfl, hb2, hI⟩
        have hown2 := hid ((Only.of_bl (S := fun _ => False) hb2).owns Hst.out fun _ _ e => e)
        obtain ⟨old3, hcell3⟩ := own_cell hown2.out k hlt
        have hfro3 := hown2.out.frozenAt k
        have hI2 : LentI w.heap.size w2 r ls[k] L[k] := by rw [← Hlk.out, ← Hzk.out]; exact hI.base (Nat.le_trans hbl1.out.lt (Nat.le_refl _))
        have hK3 := hid (HK.out.step (hO1.out.trans (Only.of_bl hb2)) hlt hown2.out (m := r) (List.set_set _) ⟨fun _ _ => hI2, fun h => by omega⟩ (fun b hb => by have := (hI.lt b hb).1; have := hO1.out.size; omega))
        have hbl3 := hid ((hbl1.out.trans hb2).trans_only (Only.setCell (S := fun b => b = w.heap.size) (Only.refl _ _) ⟨w.heap.size, k, none⟩ (.inl rfl) r) (fun n hn => by rw [hn]; exact Nat.le_refl _))
        obtain ⟨ar, cr, hre⟩ := hI.sl.len
        simp only [List.length_map] at hre
        subst hre
        clear hI hI2 hown2 hO1 hbl1 Hst hb2 hsl hcell2
        go_wp2
        go_roundw
        case rel => exact ⟨k + 1, _, by omega, by go_num, hbl3.out, hK3.out⟩
        case measure => simp [intOf]; omega
      · have hnew := World.ownsRow_lit (base := w.heap.size) (e := 3) (size := 1) wr #[.int .i64 (-77)] 1 (by omega) (by unfold maxLen; omega) rfl
        have hK2 := hid (HK.out.step (Only.of_bl ba) hlt hK1.own (m := .slice (some ⟨wr.heap.size, 0, none⟩) 1 1) rfl ⟨fun h => by omega, fun _ => ⟨_, rfl, hnew⟩⟩ (fun b hb => by simp [Value.ownBlock] at hb; omega))
        rw [World.setCell_alloc_past (hn := hB)] at hK2
        clear hst hgr hK1 hcell0 hfro0 hnew
        go_wp2
        go_roundw
        case rel => exact ⟨k + 1, _, by omega, by go_num, hbl1.out, hK2.out⟩
        case measure => simp [intOf]; omega
    · have hk8 : k = L.length + 8 := by omega
      subst hk8
      go_wp2
      go_ret
      exact ⟨_, _, rfl, hbl, HK.out⟩
end Go.Proofs.YtkgjpfamjedncaaGreat
