/-
  Bytes that are lent to the program, and come back.
-/
/-
  Bytes that come back from the program; an image that grows; two votes that are one.
-/
/-
  Lists of bytes that came out get their marks.
-/
/-
  The book of the lists of bytes that came out.
-/
import Derived.Test.YtkgjpfamjedncaaGreatVOpenVFurVCallsApartStrTailQ
import Derived.Lib.BufferWrite
namespace Go.Proofs.YtkgjpfamjedncaaGreat
open Go.RowKit

theorem Tryz.size5 : (Tryz.prog.info? 5).map (·.size) = some 1 := by kernel_rfl
def Byt (ys : List Int) : Prop := ∀ d ∈ ys, 0 ≤ d ∧ d ≤ 255
theorem byteCells_strOf (ys : List Int) (h : Byt ys) : Lib.byteCells (strOf ys).data.toList = ys.map B8 := by
  rw [strOf_list]
  unfold Lib.byteCells
  rw [List.map_map]
  refine List.map_congr_left fun d hd => ?_
  have := h d hd
  simp only [Function.comp, B8, UInt8.toNat_ofNat']
  congr 1
  omega

/-- Bytes that were lent: eight places behind them hold 77. -/
def LentB (base : Nat) (w : World) (r : Value) (ys : List Int) : Prop :=
  (r = .slice none 0 0 ∧ ys = []) ∨
  ∃ g, r = .slice (some ⟨g, 0, none⟩) ys.length (ys.length + 8) ∧ w.ownsRow base 5 1 (.slice (some ⟨g, 0, none⟩) (ys.length + 8) (ys.length + 8)) (ys.length + 8) (tailed (ys.map B8) (B8 77) (B8 0) 8 8)
theorem LentB.only {S : Nat → Prop} {base : Nat} {w w' : World} {r : Value} {ys : List Int} (h : LentB base w r ys) (ho : Only S w w') (hs : ∀ b, r.ownBlock = some b → ¬ S b) : LentB base w' r ys := by
  rcases h with h | ⟨g, rfl, h⟩
  · exact .inl h
  · exact .inr ⟨g, rfl, ho.owns h fun b hb => hs b hb⟩
theorem LentB.bl {base : Nat} {w w' : World} {r : Value} {ys : List Int} (h : LentB base w r ys) (ho : Bl w w') : LentB base w' r ys := h.only (Only.of_bl (S := fun _ => False) ho) fun _ _ e => e
theorem LentB.lt {base : Nat} {w : World} {r : Value} {ys : List Int} (h : LentB base w r ys) (b : Nat) (hb : r.ownBlock = some b) : base ≤ b ∧ b < w.heap.size := by
  rcases h with ⟨rfl, _⟩ | ⟨g, rfl, h⟩
  · simp [Value.ownBlock] at hb
  · exact h.lt b hb
theorem LentB.own {base : Nat} {w : World} {r : Value} {ys : List Int} (h : LentB base w r ys) : w.ownsRow base 5 1 r ys.length (ys.map B8) := by
  rcases h with ⟨rfl, rfl⟩ | ⟨g, rfl, h⟩
  · exact World.ownsRow_nil _ _ _ _
  · have := ownsRow_cut h ys.length (by omega)
    rwa [tailed, List.take_append_of_le_length (by simp), List.take_of_length_le (by simp)] at this

set_option maxRecDepth 100000 in
set_option maxHeartbeats 1000000 in
theorem lent_any (ys : List Int) (none' : Bool) (w : World) (hy : Byt ys) (hs : ys.length ≤ 30000000) :
    Calls Tryz.prog 30 #[.string (strOf ys), .bool none'] w fun e w' => ∃ r, e = .returned r ∧ Bl w w' ∧ LentB w.heap.size w' r ys := by
  have hsz := strOf_size ys
  by_cases hz : ys = [] ∧ none' = true
  · obtain ⟨rfl, rfl⟩ := hz
    have e2 : (strOf []).toList.isEmpty = true := by rw [Go.ByteArray.toList_eq, strOf_list]; rfl
    clear hsz
    go_enter Tryz.func30, Tryz.ntmps30
    go_wp2
    go_ret
    exact ⟨_, rfl, Bl.refl _, .inl ⟨rfl, rfl⟩⟩
  · obtain ⟨i5, ji, jz0, jz1, jz2⟩ := info_parts Tryz.info5
    have hby : Hid (i5.bytes * (ys.length + 8) ≤ 281474976710656) := by rw [jz2]; unfold Hid; omega
    have hml : Hid (ys.length + 8 ≤ maxLen) := by unfold Hid maxLen; omega
    have Hbc := hid (byteCells_strOf ys hy)
    have e2 : ((strOf ys).toList.isEmpty && none') = false := by
      rw [Go.ByteArray.toList_eq, strOf_list]
      cases ys with
      | nil => cases none' with
        | false => rfl
        | true => exact absurd ⟨rfl, rfl⟩ hz
      | cons a b => rfl
    have hcase : (strOf ys).toList.isEmpty = false ∨ ((strOf ys).toList.isEmpty = true ∧ none' = false) := by
      cases h1 : (strOf ys).toList.isEmpty with
      | false => exact .inl rfl
      | true => rw [h1] at e2; exact .inr ⟨rfl, by simpa using e2⟩
    have Hsz := hid hsz
    have hszI : ((strOf ys).size : Int) = ys.length := by rw [hsz]
    clear hz hy e2 hsz
    generalize strOf ys = st at *
    rcases hcase with e2 | ⟨e2, rfl⟩
    all_goals
      go_enter Tryz.func30, Tryz.ntmps30
      go_wp2_with (first | (at_make; refine wpList_make_full _ rfl _ _ 40 rfl w.heap.size 5 i5 _ 1 Tryz.underlying40 ji jz0 jz1 _ _ _ _ (ys.length + 8) rfl rfl (by omega) (by omega) hby.out hml.out (by simp) ?_))
      intro w1 hown hgrow
      have hbl := (Only.of_grown hgrow).to_bl (by simp)
      have hheap : w1.heap[w.heap.size]? = some (.cells (List.replicate (ys.length + 8) (Value.int .u8 0)).toArray 5 (0, 0)) := by
        have := ownsRow_full hown
        rwa [toList_madeCells_one] at this
      have hcp := Lib.run_copy_row_string (P := Tryz.prog) w1 40 9 3 5 w.heap.size 0 (ys.length + 8) (ys.length + 8) st _ 5 Tryz.underlying40 Tryz.size5 hheap (by rw [Hsz.out]; omega) (by rw [Hsz.out]; simp)
      have hrow : (w1.setRow w.heap.size ((List.replicate (ys.length + 8) (Value.int .u8 0)).toArray.toList.take 0 ++ Lib.byteCells st.data.toList ++ (List.replicate (ys.length + 8) (Value.int .u8 0)).toArray.toList.drop (0 + st.size)).toArray).ownsRow w.heap.size 5 1 (.slice (some ⟨w.heap.size, 0, none⟩) (ys.length + 8) (ys.length + 8)) (ys.length + 8) (tailed (ys.map B8) (B8 77) (B8 0) 0 8) := by
        refine ownsRow_heap ?_ (Nat.le_refl _) (by simp [tailed]) hml.out
        rw [setRow_heap w1 w.heap.size _ _ 5 (0, 0) hheap, Hbc.out, Hsz.out]
        simp [tailed, B8]
      have hbl2 : Bl w (w1.setRow w.heap.size ((List.replicate (ys.length + 8) (Value.int .u8 0)).toArray.toList.take 0 ++ Lib.byteCells st.data.toList ++ (List.replicate (ys.length + 8) (Value.int .u8 0)).toArray.toList.drop (0 + st.size)).toArray) := below_setRow hbl (Nat.le_refl _) _
      generalize w1.setRow w.heap.size ((List.replicate (ys.length + 8) (Value.int .u8 0)).toArray.toList.take 0 ++ Lib.byteCells st.data.toList ++ (List.replicate (ys.length + 8) (Value.int .u8 0)).toArray.toList.drop (0 + st.size)).toArray = w2 at *
      have Hrow := hid hrow
      have Hbl2 := hid hbl2
      clear hrow hbl2 hbl hown hgrow hheap
      go_wp2
      go_loopw [6] (fun i wr => ∃ k j : Nat, Hid (k = ys.length + j) ∧ j ≤ 8 ∧ i = .int .i64 k ∧ Bl w wr ∧ wr.ownsRow w.heap.size 5 1 (.slice (some ⟨w.heap.size, 0, none⟩) (ys.length + 8) (ys.length + 8)) (ys.length + 8) (tailed (ys.map B8) (B8 77) (B8 0) j 8)) (fun i _ => ys.length + 8 - (intOf i).toNat)
      case atStart => exact ⟨ys.length, 0, hid (by omega), by omega, rfl, Hbl2.out, Hrow.out⟩
      case round =>
        clear Hrow Hbl2
        obtain ⟨k, j, Hk, hj, rfl, hbl, hown⟩ := hrel
        have Hown := hid hown
        clear hown
        have hk1 : ys.length ≤ k := by have := Hk.out; omega
        by_cases hlt : j < 8
        · have hk2 : k < ys.length + 8 := by have := Hk.out; omega
          have hst := Hown.out.stored k (.int .u8 77)
          obtain ⟨old, hcell⟩ := own_cell Hown.out k hk2
          have hfro := Hown.out.frozenAt k
          have H1 := hid hst.1
          rw [show (tailed (ys.map B8) (B8 77) (B8 0) j 8).set k (.int .u8 77) = tailed (ys.map B8) (B8 77) (B8 0) (j + 1) 8 from by rw [Hk.out, ← tailed_set _ _ _ _ _ hlt]; simp [B8]] at H1
          have H2 := hid (hbl.trans_only (Only.of_grown hst.2) (fun n hn => by cases hn; exact Nat.le_refl _))
          clear hst Hown
          go_wp2
          go_roundw
          case rel => exact ⟨k + 1, j + 1, hid (by have := Hk.out; omega), by omega, by go_num, H2.out, H1.out⟩
          case measure => simp [intOf]; omega
        · have hj8 : j = 8 := by omega
          subst hj8
          have hk2 : ¬ k < ys.length + 8 := by have := Hk.out; omega
          go_wp2
          go_ret
          exact ⟨_, rfl, hbl, .inr ⟨_, rfl, Hown.out⟩⟩
end Go.Proofs.YtkgjpfamjedncaaGreat

namespace Go.Proofs.YtkgjpfamjedncaaGreat
open Go.RowKit
attribute [local go_sem ↓] Go.wp_at_zero Go.wp_at_succ

set_option maxRecDepth 100000 in
set_option maxHeartbeats 1000000 in
theorem back_any (base : Nat) (r : Value) (ys : List Int) (w : World) (hr : LentB base w r ys) (hs : ys.length ≤ 30000000) :
    Calls Tryz.prog 38 #[r, .string (strOf ys)] w fun e w' => e = .returned (.bool true) ∧ Only (fun k => r.ownBlock = some k) w w' := by
  have hnil := Tryz.nil40
  have hsz := strOf_size ys
  have kc := conv_any r ys w (ownsRow_sl hr.own)
  rcases hr with ⟨rfl, rfl⟩ | ⟨g, rfl, hown⟩
  · have e2 : (strOf []).toList.isEmpty = true := by rw [Go.ByteArray.toList_eq, strOf_list]; rfl
    clear kc hsz
    go_enter Tryz.func38, Tryz.ntmps38
    go_wp2
    go_ret
    exact ⟨rfl, Only.refl _ _⟩
  · have Hown := hid hown
    have hszI : ((strOf ys).size : Int) = ys.length := by rw [hsz]
    clear hown hsz
    generalize strOf ys = st at *
    generalize hT : tailed (ys.map B8) (B8 77) (B8 0) 8 8 = T at *
    have hTl : Hid (T.length = ys.length + 8) := by unfold Hid; rw [← hT, tailed_len _ _ _ _ _ (by omega)]; simp
    have hTg : Hid (∀ k, ys.length ≤ k → k < ys.length + 8 → T[k]? = some (.int .u8 77)) := by
      intro k h1 h2; rw [← hT]; exact tailed_get _ _ _ k (by simpa using h1) (by simpa using h2)
    have HT := hid hT
    clear hT HT
    go_enter Tryz.func38, Tryz.ntmps38
    go_wp2
    go_loopw [5, 7] (fun ok i wr => ∃ k : Nat, k ≤ ys.length + 8 ∧ i = .int .i64 k ∧ ok = .bool true ∧ Only (fun b => some g = some b) w wr ∧ wr.ownsRow base 5 1 (.slice (some ⟨g, 0, none⟩) (ys.length + 8) (ys.length + 8)) (ys.length + 8) (over T (.int .u8 78) k)) (fun _ i _ => ys.length + 8 - (intOf i).toNat)
    case atStart => exact ⟨0, by omega, rfl, rfl, Only.refl _ _, by simpa [over] using Hown.out⟩
    case round =>
      clear Hown
      obtain ⟨k, hk, rfl, rfl, ho, hown⟩ := hrel
      have Hown := hid hown
      have Ho := hid ho
      clear hown ho kc
      by_cases hlt : k < ys.length + 8
      · have hst := Hown.out.stored k (.int .u8 78)
        rw [over_set _ _ _ (by rw [hTl.out]; exact hlt)] at hst
        have H1 := hid hst.1
        have H2 := hid (Ho.out.setCell ⟨g, k, none⟩ (.inl rfl) (.int .u8 78))
        have hfro := Hown.out.frozenAt k
        have hcell := Hown.out.cellAt k (by omega)
        rw [over_get] at hcell
        clear hst
        by_cases hlz : k < ys.length
        · rw [List.getElem?_eq_getElem (by rw [hTl.out]; exact hlt)] at hcell
          generalize T[k]'(by rw [hTl.out]; exact hlt) = old at hcell
          clear Hown
          go_wp2
          go_roundw
          case rel => exact ⟨k + 1, by omega, by go_num, rfl, H2.out, H1.out⟩
          case measure => simp [intOf]; omega
        · rw [hTg.out k (by omega) hlt] at hcell
          clear Hown
          go_wp2
          go_roundw
          case rel => exact ⟨k + 1, by omega, by go_num, rfl, H2.out, H1.out⟩
          case measure => simp [intOf]; omega
      · go_wp2
        go_ret
        exact ⟨rfl, Ho.out⟩

theorem slice_cut {w : World} {base n c m : Nat} {a : Option Addr} {xs : List Value} (h : w.ownsRow base 5 1 (.slice a n c) n xs) (hm : m ≤ n) : Sl w (.slice a m c) (xs.take m) := by
  have hl := ownsRow_len h
  rcases h.2 with ⟨h', hz⟩ | ⟨g, cap, cur, h', hb, hg, hc, hmm, hs, ht⟩
  · simp only [Value.slice.injEq] at h'
    obtain ⟨rfl, rfl, rfl⟩ := h'
    obtain rfl : m = 0 := by omega
    exact .inl ⟨_, _, rfl, by simp⟩
  · simp only [Value.slice.injEq] at h'
    obtain ⟨rfl, _, rfl⟩ := h'
    by_cases h0 : m = 0
    · subst h0; exact .inl ⟨_, _, rfl, by simp⟩
    · refine .inr ⟨g, 0, c, by rw [List.length_take]; congr 1; omega, (h.lt g rfl).2, fun j hj => ?_⟩
      rw [List.length_take] at hj
      rw [Nat.zero_add, h.cellAt j (by omega), List.getElem_take, List.getElem?_eq_getElem]

set_option maxRecDepth 100000 in
set_option maxHeartbeats 1000000 in
/-- The image goes on. -/
theorem grows_any (ba bb : Nat) (a b : Value) (xs ys : List Int) (w : World) (ha : w.ownsRow ba 5 1 a xs.length (xs.map B8)) (hb : w.ownsRow bb 5 1 b (xs.length + ys.length) ((xs ++ ys).map B8)) (hl : xs.length + ys.length ≤ 40000000) :
    Calls Tryz.prog 49 #[a, b] w fun e w' => e = .returned (.bool true) ∧ Bl w w' := by
  obtain ⟨aa, ac, rfl⟩ := owned_slice' ha
  obtain ⟨ab, bc, rfl⟩ := owned_slice' hb
  have k1 := fun W (hW : Bl w W) => conv_any _ xs W ((ownsRow_sl ha).bl hW)
  have hcut := slice_cut hb (m := xs.length) (by omega)
  rw [List.map_append, List.take_append_of_le_length (by simp), List.take_of_length_le (by simp)] at hcut
  have k2 := fun W (hW : Bl w W) => conv_any _ xs W (hcut.bl hW)
  have K1 := fun m => k1 (w.drewN m) ((Bl.refl w).drewN m)
  have K2 := fun m => k2 (w.drewN m) ((Bl.refl w).drewN m)
  have hbc : xs.length + ys.length ≤ bc ∧ (bc : Int) ≤ 9223372036854775807 ∧ (bc = 0 → xs.length = 0) := by
    rcases hb.2 with ⟨h', hz⟩ | ⟨g, cap, cur, h', _, _, hc, hm, _⟩
    · simp only [Value.slice.injEq] at h'
      obtain ⟨_, h1, rfl⟩ := h'
      exact ⟨by omega, by omega, fun _ => by omega⟩
    · simp only [Value.slice.injEq] at h'
      obtain ⟨_, _, rfl⟩ := h'
      unfold maxLen at hm
      exact ⟨hc, by omega, fun h => by omega⟩
  obtain ⟨b1, b2, b3⟩ := hbc
  clear k1 k2 hcut ha hb
  generalize strOf xs = st at *
  by_cases hc0 : bc = 0
  · subst hc0
    have hx0 := b3 rfl
    have hy0 : ys.length = 0 := by omega
    rw [hx0] at K1 K2
    rw [hx0, hy0]
    clear b1 b2 b3 hl hx0 hy0
    go_enter Tryz.func49, Tryz.ntmps49
    go_wp2_with fail
    go_quiet (fail)
    go_wp2
    go_ret
    exact ⟨rfl, (Bl.refl _).drewN _⟩
  · have hlI : (xs.length : Int) ≤ bc := by omega
    have hge : decide ((xs.length : Int) ≤ (xs.length : Int) + (ys.length : Int)) = true := by simp only [decide_eq_true_eq]; omega
    clear b3
    go_enter Tryz.func49, Tryz.ntmps49
    go_wp2_with fail
    go_quiet (fail)
    go_wp2
    go_ret
    exact ⟨rfl, (Bl.refl _).drewN _⟩

set_option maxRecDepth 100000 in
set_option maxHeartbeats 1000000 in
theorem sameVote_any (wh pr ba : Int) (u v : Value) (ys : List Int) (w : World) (hu : Sl w u (ys.map B8)) (hv : Sl w v (ys.map B8)) :
    Calls Tryz.prog 56 #[voteR wh pr ba u, voteR wh pr ba v] w fun e w' => e = .returned (.bool true) ∧ Bl w w' := by
  obtain ⟨a, c, e⟩ := hu.len
  obtain ⟨a', c', e'⟩ := hv.len
  have bA := ((Bl.refl w).alloc (.cells #[.int .i64 wh, .int .i64 pr, .int .i64 ba, u] 105)).alloc (.cells #[.int .i64 wh, .int .i64 pr, .int .i64 ba, v] 105)
  have k1 := conv_any u ys _ (hu.bl bA)
  have k2 := conv_any v ys _ (hv.bl bA)
  have HB := hid bA
  subst e e'
  simp only [List.length_map] at k1 k2 HB ⊢
  clear hu hv bA
  generalize strOf ys = st at *
  unfold voteR
  go_enter Tryz.func56, Tryz.ntmps56
  go_wp2
  go_ret
  exact ⟨rfl, HB.out⟩
end Go.Proofs.YtkgjpfamjedncaaGreat

namespace Go.Proofs.YtkgjpfamjedncaaGreat
open Go.RowKit

theorem own_ne_type {w : World} {base : Nat} {e e' : TypeId} {v : Value} {n : Nat} {xs : List Value} (h : w.ownsRow base e 1 v n xs) {R : Nat} {c : Array Value} {f : Nat × Nat} (hR : w.heap[R]? = some (.cells c e' f)) (hne : e ≠ e') : v.ownBlock ≠ some R := by
  intro hb
  rcases h.2 with ⟨rfl, _⟩ | ⟨g, cap, cur, rfl, _, hg, _⟩
  · simp [Value.ownBlock] at hb
  · simp [Value.ownBlock] at hb
    subst hb
    rw [hR] at hg
    simp at hg
    exact hne hg.2.1.symm

set_option maxRecDepth 100000 in
set_option maxHeartbeats 2000000 in
theorem ownBytes_any (base : Nat) (v : Value) (n : Nat) (xs : List Value) (mk : Nat) (w : World) (hown : w.ownsRow base 5 1 v n xs) (hb : base ≤ w.heap.size) (hn : n ≤ 40000000) (hmk : mk ≤ 4000000) :
    Calls Tryz.prog 70 #[v, .int .i64 mk] w fun e w' => ∃ o1 o2 o3, e = .returned (.agg #[v, o1, o2, o3, .int .i64 mk]) ∧ Only (fun b => v.ownBlock = some b) w w' ∧ MarkI w' base n 5 (.int .u8 (mk % 251 : Nat)) v o1 o2 o3 ∧
      (∀ b, (o1.ownBlock = some b ∨ o2.ownBlock = some b ∨ o3.ownBlock = some b) → v.ownBlock = some b ∨ w.heap.size ≤ b) ∧ (∃ a1 c1 a2 c2 a3 c3, o1 = .slice (some a1) (n + 1) c1 ∧ o2 = .slice (some a2) (n + 2) c2 ∧ o3 = .slice (some a3) (n + 3) c3) := by
  obtain ⟨i3, ji, jz0, jz1, jz2⟩ := info_parts Tryz.info5
  obtain ⟨a0, c0, hv0⟩ : ∃ a c, v = .slice a n c := by
    obtain ⟨a, c, h⟩ := (ownsRow_sl hown).len
    exact ⟨a, c, by rw [ownsRow_len hown] at h; exact h⟩
  subst hv0
  have hxl := hid (ownsRow_len hown)
  have Hown := hid hown
  have h63 : Hid (n + 3 ≤ maxLen) := by unfold Hid maxLen; omega
  obtain ⟨x, hx⟩ : ∃ x, x = mk % 251 := ⟨_, rfl⟩
  rw [← hx]
  have hx1 : x < 251 := by omega
  have hx2 : Int.tmod (mk : Int) 251 = (x : Int) := by rw [Int.tmod_eq_emod_of_nonneg (by omega)]; omega
  have hx3 : IntKind.u8.wrap (x : Int) = (x : Int) := by simp [IntKind.wrap, IntKind.bits, IntKind.signed]; omega
  clear hown hx
  go_enter Tryz.func70, Tryz.ntmps70
  go_wp2
  go_loopw [6] (fun i wr => ∃ k : Nat, k ≤ n ∧ i = .int .i64 k ∧ Only (fun b => (Value.slice a0 n c0).ownBlock = some b) w wr ∧ w.heap.size < wr.heap.size ∧ wr.heap[w.heap.size]? = some (.cells #[.slice none 0 0, .slice none 0 0, .slice none 0 0, .slice none 0 0, .int .i64 0] 54 (0, 0)) ∧ wr.ownsRow base 5 1 (.slice a0 n c0) n (over xs (.int .u8 x) k)) (fun i _ => n - (intOf i).toNat)
  case atStart =>
    refine ⟨0, Nat.zero_le _, rfl, (Only.refl _ _).alloc _, by simp, heap_alloc_new _ _, ?_⟩
    have := Hown.out.alloc (.cells #[.slice none 0 0, .slice none 0 0, .slice none 0 0, .slice none 0 0, .int .i64 0] 54)
    simpa [over] using this
  case round =>
    obtain ⟨k, hk, rfl, ho, hsz, hblk, hown⟩ := hrel
    have Hbd := hid (fun b hb => (Hown.out.lt b hb).2)
    have Ho := hid ho
    have Hblk := hid hblk
    have Hown1 := hid hown
    clear ho hblk hown
    by_cases hlt : k < n
    · obtain ⟨g, cap, hsh⟩ := own_shape Hown1.out (by omega)
      simp only [Value.slice.injEq] at hsh
      obtain ⟨rfl, _, rfl⟩ := hsh
      obtain ⟨old, hcell⟩ := own_cell Hown1.out k hlt
      have hfro := Hown1.out.frozenAt k
      have hgw := Hbd.out g rfl
      obtain ⟨hst, hgr⟩ := Hown1.out.stored k (.int .u8 x)
      rw [over_set _ _ _ (by rw [hxl.out]; exact hlt)] at hst
      have H1 := hid hst
      have H2 := hid (Ho.out.setCell ⟨g, k, none⟩ (.inl rfl) (.int .u8 x))
      have H3 := hid ((hgr.block w.heap.size hsz (by simp; omega)).trans Hblk.out)
      have H4 := hid (Nat.lt_of_lt_of_le hsz hgr.size)
      clear hst hgr Hown1 Hblk Ho
      go_wp2
      go_roundw
      case rel => exact ⟨k + 1, by omega, by go_num, H2.out, H4.out, H3.out, H1.out⟩
      case measure => simp [intOf]; omega
    · have hkn : k = n := by omega
      subst hkn
      have Hown2 : Hid (wr.ownsRow base 5 1 (.slice a0 k c0) k (List.replicate k (.int .u8 x))) := by
        have := Hown1.out
        rw [over, List.drop_of_length_le (by rw [hxl.out]; exact Nat.le_refl _), List.append_nil] at this
        exact this
      have hbw : base ≤ wr.heap.size := by omega
      have hb1 : Hid ((k + 1) * 1 ≤ 140737488355328) := by unfold Hid; omega
      have hb2 : Hid ((k + 2) * 1 ≤ 140737488355328) := by unfold Hid; omega
      have hb3 : Hid ((k + 3) * 1 ≤ 140737488355328) := by unfold Hid; omega
      have h631 : Hid (k + 1 ≤ maxLen) := by unfold Hid maxLen; omega
      have h632 : Hid (k + 2 ≤ maxLen) := by unfold Hid maxLen; omega
      clear Hown1
      go_wp2_with (first | (at_builtin; refine wpList_append_mark _ rfl (.tmp 23) (.tmp 25) 40 rfl base 5 i3 (.int .u8 0) 1 Tryz.underlying40 ji jz0 jz1 jz2 rfl _ k (.int .u8 x) rfl (Hown2.out.alloc _) ⟨wr.heap.size, 0, none⟩ 1 1 rfl (cells_new _ _ _ 1 _ rfl) rfl (by omega) h631.out hb1.out (by simp; omega) ?_))
      intro g1 cap1 w1 hr1 hk1 ho1 hg1
      have R1 := hid hr1
      have V1 := hid (hk1 _ k (by omega) (Hown2.out.alloc _))
      have O1 := hid (((Ho.out.alloc (.cells #[.int .u8 x] 5))).trans ho1)
      have s1 : wr.heap.size < w1.heap.size := by have := ho1.size; simp at this; omega
      have G1 := hid hg1
      have E1 := hid ((ho1.block w.heap.size (by simp; omega) (fun e => by have := Hbd.out _ e; omega)).trans ((Below.heap_alloc wr _ _ hsz).trans Hblk.out))
      clear hr1 hk1 ho1 hg1 Hblk Ho
      go_wp2_with (first | (at_builtin; refine wpList_append_mark _ rfl (.tmp 27) (.tmp 30) 40 rfl base 5 i3 (.int .u8 0) 1 Tryz.underlying40 ji jz0 jz1 jz2 rfl _ k (.int .u8 x) rfl (V1.out.alloc _) ⟨w1.heap.size, 0, none⟩ 2 2 rfl (cells_new _ _ _ 2 _ rfl) rfl (by omega) h632.out hb2.out (by simp; omega) ?_))
      intro g2 cap2 w2 hr2 hk2 ho2 hg2
      have R2 := hid hr2
      have V2 := hid (hk2 _ k (by omega) (V1.out.alloc _))
      have R12 := hid (hk2 _ (k + 1) (by omega) (R1.out.alloc _))
      have O2 := hid (((O1.out.alloc (.cells #[.int .u8 x, .int .u8 x] 5))).trans ho2)
      have s2 : w1.heap.size < w2.heap.size := by have := ho2.size; simp at this; omega
      have G2 := hid hg2
      have E2 := hid ((ho2.block w.heap.size (by simp; omega) (fun e => by have := Hbd.out _ e; omega)).trans ((Below.heap_alloc w1 _ _ (by omega)).trans E1.out))
      clear hr2 hk2 ho2 hg2 E1 O1 R1 V1
      go_wp2_with (first | (at_builtin; refine wpList_append_mark _ rfl (.tmp 32) (.tmp 36) 40 rfl base 5 i3 (.int .u8 0) 1 Tryz.underlying40 ji jz0 jz1 jz2 rfl _ k (.int .u8 x) rfl (V2.out.alloc _) ⟨w2.heap.size, 0, none⟩ 3 3 rfl (cells_new _ _ _ 3 _ rfl) rfl (by omega) h63.out hb3.out (by simp; omega) ?_))
      intro g3 cap3 w3 hr3 hk3 ho3 hg3
      have V3 := hid (hk3 _ k (by omega) (V2.out.alloc _))
      have R13 := hid (hk3 _ (k + 1) (by omega) (R12.out.alloc _))
      have R23 := hid (hk3 _ (k + 2) (by omega) (R2.out.alloc _))
      have R3 := hid hr3
      have O3 := hid (((O2.out.alloc (.cells #[.int .u8 x, .int .u8 x, .int .u8 x] 5))).trans ho3)
      have s3 : w2.heap.size < w3.heap.size := by have := ho3.size; simp at this; omega
      have G3 := hid hg3
      have E3 := hid ((ho3.block w.heap.size (by simp; omega) (fun e => by have := Hbd.out _ e; omega)).trans ((Below.heap_alloc w2 _ _ (by omega)).trans E2.out))
      have q0 := cell_of_row w3 w.heap.size 0 _ 54 (0, 0) E3.out
      have q1 := cell_of_row w3 w.heap.size 1 _ 54 (0, 0) E3.out
      have q2 := cell_of_row w3 w.heap.size 2 _ 54 (0, 0) E3.out
      have q3 := cell_of_row w3 w.heap.size 3 _ 54 (0, 0) E3.out
      have q4 := cell_of_row w3 w.heap.size 4 _ 54 (0, 0) E3.out
      have f0 := frozen_of_row w3 w.heap.size 0 _ 54 E3.out
      have f1 := frozen_of_row w3 w.heap.size 1 _ 54 E3.out
      have f2 := frozen_of_row w3 w.heap.size 2 _ 54 E3.out
      have f3 := frozen_of_row w3 w.heap.size 3 _ 54 E3.out
      have f4 := frozen_of_row w3 w.heap.size 4 _ 54 E3.out
      simp at q0 q1 q2 q3 q4
      clear hr3 hk3 ho3 hg3 E2 O2 R2 V2 R12
      go_wp2
      have ne : ∀ v n xs, w3.ownsRow base 5 1 v n xs → ∀ b, v.ownBlock = some b → ¬ b = w.heap.size := fun v n xs h b hb e => own_ne_type h E3.out (by decide) (by rw [hb, e])
      have F : Only (fun b => b = w.heap.size) w3 _ := (((((Only.refl (fun b => b = w.heap.size) w3).setCell ⟨w.heap.size, 0, none⟩ (.inl rfl) (.slice a0 k c0)).setCell ⟨w.heap.size, 1, none⟩ (.inl rfl) (.slice (some ⟨g1, 0, none⟩) (k + 1) cap1)).setCell ⟨w.heap.size, 2, none⟩ (.inl rfl) (.slice (some ⟨g2, 0, none⟩) (k + 2) cap2)).setCell ⟨w.heap.size, 3, none⟩ (.inl rfl) (.slice (some ⟨g3, 0, none⟩) (k + 3) cap3)).setCell ⟨w.heap.size, 4, none⟩ (.inl rfl) (.int .i64 mk)
      refine bodyPost_ret (v := .agg #[.slice a0 k c0, .slice (some ⟨g1, 0, none⟩) (k + 1) cap1, .slice (some ⟨g2, 0, none⟩) (k + 2) cap2, .slice (some ⟨g3, 0, none⟩) (k + 3) cap3, .int .i64 mk]) (by simp [results, Tryz.results70, go_sem, q0, q1, q2, q3, q4]) rfl ⟨_, _, _, rfl, ?_, ?_, ?_, ?_⟩
      · exact ((((O3.out.setCell _ (.inr (Nat.le_refl _)) _).setCell _ (.inr (Nat.le_refl _)) _).setCell _ (.inr (Nat.le_refl _)) _).setCell _ (.inr (Nat.le_refl _)) _).setCell _ (.inr (Nat.le_refl _)) _
      · exact ⟨F.owns V3.out (ne _ _ _ V3.out), F.owns R13.out (ne _ _ _ R13.out), F.owns R23.out (ne _ _ _ R23.out), F.owns R3.out (ne _ _ _ R3.out)⟩
      · intro b hb
        rcases hb with hb | hb | hb <;> (simp only [Value.ownBlock, Option.some.injEq] at hb; subst hb)
        · exact G1.out.imp id fun h => by omega
        · exact G2.out.imp id fun h => by omega
        · exact G3.out.imp id fun h => by omega
      · exact ⟨_, _, _, _, _, _, rfl, rfl, rfl⟩
end Go.Proofs.YtkgjpfamjedncaaGreat

namespace Go.Proofs.YtkgjpfamjedncaaGreat
open Go.RowKit
attribute [local go_sem ↓] Go.wp_at_zero Go.wp_at_succ
theorem Tryz.info54 : (Tryz.prog.info? 54).map (fun i => (i.zero, i.size, i.bytes)) = some (some (.agg #[.slice none 0 0, .slice none 0 0, .slice none 0 0, .slice none 0 0, .int .i64 0]), 5, 104) := by kernel_rfl

/-- Place k of the list of marked lists of bytes. -/
def EntB (w : World) (k : Nat) (xb : List Value) : Prop :=
  ∃ n v o1 o2 o3, n ≤ 40000000 ∧ xb[k * 5]? = some v ∧ xb[k * 5 + 1]? = some o1 ∧ xb[k * 5 + 2]? = some o2 ∧ xb[k * 5 + 3]? = some o3 ∧ xb[k * 5 + 4]? = some (.int .i64 k) ∧ MarkI w 0 n 5 (.int .u8 (k % 251 : Nat)) v o1 o2 o3
/-- The book of bytes, in the world's block bw. -/
structure BookB (B0 : Nat) (w : World) (bw : Nat) (kl vl bl il cl : Value) (nb : Nat) (xb : List Value) : Prop where
  b0 : B0 ≤ bw
  blk : w.heap[bw]? = some (.cells #[kl, vl, bl, il, cl] 35 (0, 0))
  ob : w.ownsRow B0 54 5 bl nb xb
  eb : ∀ k, k < nb → EntB w k xb
theorem MarkI.only {S : Nat → Prop} {w w' : World} {base n : Nat} {e : TypeId} {x v o1 o2 o3 : Value} (h : MarkI w base n e x v o1 o2 o3) (ho : Only S w w') (hs : ∀ u ∈ [v, o1, o2, o3], ∀ b, u.ownBlock = some b → ¬ S b) : MarkI w' base n e x v o1 o2 o3 :=
  ⟨ho.owns h.h0 (hs v (by simp)), ho.owns h.h1 (hs o1 (by simp)), ho.owns h.h2 (hs o2 (by simp)), ho.owns h.h3 (hs o3 (by simp))⟩
theorem MarkI.base {w : World} {base base' n : Nat} {e : TypeId} {x v o1 o2 o3 : Value} (h : MarkI w base n e x v o1 o2 o3) (hb : base' ≤ base) : MarkI w base' n e x v o1 o2 o3 :=
  ⟨ownsRow_base h.h0 fun b hb' => Nat.le_trans hb (h.h0.lt b hb').1, ownsRow_base h.h1 fun b hb' => Nat.le_trans hb (h.h1.lt b hb').1, ownsRow_base h.h2 fun b hb' => Nat.le_trans hb (h.h2.lt b hb').1, ownsRow_base h.h3 fun b hb' => Nat.le_trans hb (h.h3.lt b hb').1⟩
theorem mem_of_get {xs : List Value} {k : Nat} {v : Value} (h : xs[k]? = some v) : v ∈ xs := by
  obtain ⟨hk, rfl⟩ := List.getElem?_eq_some_iff.1 h
  exact List.getElem_mem hk
theorem EntB.only {S : Nat → Prop} {w w' : World} {k : Nat} {xb : List Value} (h : EntB w k xb) (ho : Only S w w') (hs : ∀ u ∈ xb, ∀ b, u.ownBlock = some b → ¬ S b) : EntB w' k xb := by
  obtain ⟨n, v, o1, o2, o3, hn, e0, e1, e2, e3, e4, hm⟩ := h
  refine ⟨n, v, o1, o2, o3, hn, e0, e1, e2, e3, e4, hm.only ho fun u hu => ?_⟩
  simp at hu
  rcases hu with rfl | rfl | rfl | rfl
  · exact hs _ (mem_of_get e0)
  · exact hs _ (mem_of_get e1)
  · exact hs _ (mem_of_get e2)
  · exact hs _ (mem_of_get e3)
theorem get_app {xs ys : List Value} {i : Nat} {v : Value} (h : xs[i]? = some v) : (xs ++ ys)[i]? = some v := by
  rw [List.getElem?_append_left (List.getElem?_eq_some_iff.1 h).1]; exact h
theorem EntB.app {w : World} {k : Nat} {xb ys : List Value} (h : EntB w k xb) : EntB w k (xb ++ ys) := by
  obtain ⟨n, v, o1, o2, o3, hn, e0, e1, e2, e3, e4, hm⟩ := h
  exact ⟨n, v, o1, o2, o3, hn, get_app e0, get_app e1, get_app e2, get_app e3, get_app e4, hm⟩
theorem BookB.lt {B0 : Nat} {w : World} {bw : Nat} {kl vl bl il cl : Value} {nb : Nat} {xb : List Value} (h : BookB B0 w bw kl vl bl il cl nb xb) : bw < w.heap.size := (Array.getElem?_eq_some_iff.1 h.blk).1
theorem BookB.only {S : Nat → Prop} {B0 : Nat} {w w' : World} {bw : Nat} {kl vl bl il cl : Value} {nb : Nat} {xb : List Value} (h : BookB B0 w bw kl vl bl il cl nb xb) (ho : Only S w w') (hbw : ¬ S bw) (hbl : ∀ b, bl.ownBlock = some b → ¬ S b) (hs : ∀ u ∈ xb, ∀ b, u.ownBlock = some b → ¬ S b) : BookB B0 w' bw kl vl bl il cl nb xb :=
  ⟨h.b0, by rw [ho.block bw h.lt hbw]; exact h.blk, ho.owns h.ob hbl, fun k hk => (h.eb k hk).only ho hs⟩
theorem BookB.bl {B0 : Nat} {w w' : World} {bw : Nat} {kl vl bl il cl : Value} {nb : Nat} {xb : List Value} (h : BookB B0 w bw kl vl bl il cl nb xb) (ho : Bl w w') : BookB B0 w' bw kl vl bl il cl nb xb :=
  h.only (Only.of_bl (S := fun _ => False) ho) (fun e => e) (fun _ _ e => e) (fun _ _ _ _ e => e)
/-- What a mark owns is of bytes. -/
theorem EntB.type {w : World} {k : Nat} {xb : List Value} (h : EntB w k xb) {S : Nat → Prop} {w' : World} (hS : ∀ x, S x → ∃ c t f, w.heap[x]? = some (.cells c t f) ∧ t ≠ 5) (ho : Only S w w') : EntB w' k xb := by
  obtain ⟨n, v, o1, o2, o3, hn, e0, e1, e2, e3, e4, hm⟩ := h
  have key : ∀ v n xs, w.ownsRow 0 5 1 v n xs → ∀ b, v.ownBlock = some b → ¬ S b := by
    intro v n xs hv b hb hs
    obtain ⟨c, t, f, h1, h2⟩ := hS b hs
    exact own_ne_block hv h1 (Ne.symm h2) hb
  exact ⟨n, v, o1, o2, o3, hn, e0, e1, e2, e3, e4, ⟨ho.owns hm.h0 (key _ _ _ hm.h0), ho.owns hm.h1 (key _ _ _ hm.h1), ho.owns hm.h2 (key _ _ _ hm.h2), ho.owns hm.h3 (key _ _ _ hm.h3)⟩⟩
theorem BookB.push {B0 : Nat} {W W' w3 : World} {bw : Nat} {kl vl bl il cl : Value} {nb : Nat} {xb : List Value} (h : BookB B0 W bw kl vl bl il cl nb xb) {base n : Nat} {v o1 o2 o3 : Value} (hm : MarkI W base n 5 (.int .u8 (nb % 251 : Nat)) v o1 o2 o3) (hn : n ≤ 40000000) (hb : Bl W W') (hg : W'.grownBy w3 bl.ownBlock) {gg cap : Nat}
    (ho : w3.ownsRow B0 54 5 (.slice (some ⟨gg, 0, none⟩) (nb + 1) cap) (nb + 1) (xb ++ [v, o1, o2, o3, .int .i64 nb])) :
    BookB B0 (w3.setCell ⟨bw, 2, none⟩ (.slice (some ⟨gg, 0, none⟩) (nb + 1) cap)) bw kl vl (.slice (some ⟨gg, 0, none⟩) (nb + 1) cap) il cl (nb + 1) (xb ++ [v, o1, o2, o3, .int .i64 nb]) ∧
    Only (fun b => b = bw ∨ bl.ownBlock = some b) W (w3.setCell ⟨bw, 2, none⟩ (.slice (some ⟨gg, 0, none⟩) (nb + 1) cap)) := by
  have nvi := own_ne_block h.ob h.blk (by decide)
  have o1' : Only (fun b => b = bw ∨ bl.ownBlock = some b) W w3 := (Only.of_bl hb).trans ((Only.of_grown hg).mono fun k _ e => .inr e.symm)
  have O := o1'.setCell ⟨bw, 2, none⟩ (.inl (.inl rfl)) (.slice (some ⟨gg, 0, none⟩) (nb + 1) cap)
  have hbw3 : w3.heap[bw]? = some (.cells #[kl, vl, bl, il, cl] 35 (0, 0)) := by
    have h1 := hg.block bw (Nat.lt_of_lt_of_le h.lt hb.lt) (fun e => nvi e.symm)
    rw [h1, hb.heap h.lt]; exact h.blk
  have hS : ∀ x, (x = bw ∨ bl.ownBlock = some x) → ∃ c t f, W.heap[x]? = some (.cells c t f) ∧ t ≠ 5 := by
    rintro b (rfl | hb')
    · exact ⟨_, _, _, h.blk, by decide⟩
    · obtain ⟨c, hc⟩ := own_type h.ob b hb'
      exact ⟨_, _, _, hc, by decide⟩
  have hxl : xb.length = nb * 5 := h.ob.1
  have key : ∀ v n xs, W.ownsRow base 5 1 v n xs → ∀ b, v.ownBlock = some b → ¬ (b = bw ∨ bl.ownBlock = some b) := by
    intro v n xs hv b hb hs
    obtain ⟨c, t, f, h1, h2⟩ := hS b hs
    exact own_ne_block hv h1 (Ne.symm h2) hb
  refine ⟨⟨h.b0, ?_, ?_, fun k hk => ?_⟩, O⟩
  · exact heap_setCell_same w3 bw 2 _ 35 _ hbw3
  · exact ownsRow_of ho fun b hb' => Below.heap_setCell _ _ _ _ (fun e => own_ne_block ho hbw3 (by decide) (by rw [hb', e]))
  · by_cases e : k < nb
    · exact ((h.eb k e).type hS O).app
    · have : k = nb := by omega
      subst this
      have hm' : MarkI (w3.setCell ⟨bw, 2, none⟩ (.slice (some ⟨gg, 0, none⟩) (k + 1) cap)) base n 5 (.int .u8 (k % 251 : Nat)) v o1 o2 o3 := ⟨O.owns hm.h0 (key _ _ _ hm.h0), O.owns hm.h1 (key _ _ _ hm.h1), O.owns hm.h2 (key _ _ _ hm.h2), O.owns hm.h3 (key _ _ _ hm.h3)⟩
      refine ⟨n, v, o1, o2, o3, hn, ?_, ?_, ?_, ?_, ?_, hm'.base (Nat.zero_le _)⟩ <;> (rw [List.getElem?_append_right (by omega)]; simp [hxl])

set_option maxRecDepth 100000 in
set_option maxHeartbeats 2000000 in
theorem bookByte_any (B0 bw : Nat) (kl vl bl il cl : Value) (nb : Nat) (xb : List Value) (base : Nat) (v : Value) (n : Nat) (xs : List Value) (w : World) (hB : BookB B0 w bw kl vl bl il cl nb xb) (hown : w.ownsRow base 5 1 v n xs) (hb : base ≤ w.heap.size) (hn : n ≤ 40000000) (hni : nb < 4000000) (hfree : ∀ u ∈ xb, ∀ b, v.ownBlock = some b → u.ownBlock ≠ some b) :
    Calls Tryz.prog 36 #[.pointer (some ⟨bw, 2, none⟩), v] w fun e w' => ∃ bl' o1 o2 o3, e = .returned (.tuple #[]) ∧ BookB B0 w' bw kl vl bl' il cl (nb + 1) (xb ++ [v, o1, o2, o3, .int .i64 nb]) ∧ (∀ b, bl'.ownBlock = some b → bl.ownBlock = some b ∨ w.heap.size ≤ b) ∧
      Only (fun b => b = bw ∨ bl.ownBlock = some b ∨ v.ownBlock = some b) w w' ∧ (∀ u ∈ [o1, o2, o3], ∀ b, u.ownBlock = some b → v.ownBlock = some b ∨ w.heap.size ≤ b) := by
  obtain ⟨i56, hi, hz0, hz1, hz2⟩ := info_parts Tryz.info54
  obtain ⟨ai, ci, hbl0⟩ : ∃ a c, bl = .slice a nb c := by
    rcases hB.ob.2 with ⟨e, e'⟩ | ⟨g, cap, cur, e, _⟩
    · exact ⟨_, _, by rw [e, e']⟩
    · exact ⟨_, _, e⟩
  subst hbl0
  obtain ⟨a0, c0, hv0⟩ : ∃ a c, v = .slice a n c := by
    obtain ⟨a, c, h⟩ := (ownsRow_sl hown).len
    exact ⟨a, c, by rw [ownsRow_len hown] at h; exact h⟩
  subst hv0
  have c3 := cell_of_row w bw 2 _ 35 (0, 0) hB.blk
  simp at c3
  have HB := hid hB
  clear hB
  go_enter Tryz.func36, Tryz.ntmps36
  go_wp2_with fail
  refine (ownBytes_any base _ n xs nb _ hown hb hn (by omega)).mono ?_
  rintro e w1 ⟨o1, o2, o3, rfl, ho1, hm1, hbl1, a1, c1, a2, c2, a3, c3', rfl, rfl, rfl⟩
  have hBn : ∀ b, (Value.slice a0 n c0).ownBlock = some b → ¬ b = bw := fun b hb e => own_ne_block hown HB.out.blk (by decide) (by rw [hb, e])
  have hB1 : BookB B0 w1 bw kl vl _ il cl nb xb := HB.out.only ho1 (fun e => hBn bw e rfl) (fun b hb e => ownsRow_type hown HB.out.ob (by decide) b e hb) (fun u hu b hb e => hfree u hu b e hb)
  have hB2 := hB1.bl ((Bl.refl _).alloc (.cells #[.slice a0 n c0, .slice (some a1) (n + 1) c1, .slice (some a2) (n + 2) c2, .slice (some a3) (n + 3) c3', .int .i64 nb] 54))
  have hX := heap_alloc_new w1 (.cells #[.slice a0 n c0, .slice (some a1) (n + 1) c1, .slice (some a2) (n + 2) c2, .slice (some a3) (n + 3) c3', .int .i64 nb] 54)
  have hO2 := ho1.alloc (.cells #[.slice a0 n c0, .slice (some a1) (n + 1) c1, .slice (some a2) (n + 2) c2, .slice (some a3) (n + 3) c3', .int .i64 nb] 54)
  have hM2 := hm1.only (Only.of_bl (S := fun _ => False) ((Bl.refl _).alloc (.cells #[.slice a0 n c0, .slice (some a1) (n + 1) c1, .slice (some a2) (n + 2) c2, .slice (some a3) (n + 3) c3', .int .i64 nb] 54))) (fun _ _ _ _ e => e)
  have hs2 : w1.heap.size < (w1.alloc (.cells #[.slice a0 n c0, .slice (some a1) (n + 1) c1, .slice (some a2) (n + 2) c2, .slice (some a3) (n + 3) c3', .int .i64 nb] 54)).heap.size := by simp
  have H0 := hid hO2
  have H1 := hid hM2
  have H2 := hid hB2
  have H3 := hid hbl1
  have H4 := hid ho1.size
  have nxb := hid (fun (e : (Value.slice ai nb ci).ownBlock = some w1.heap.size) => Nat.lt_irrefl _ (hB1.ob.lt _ e).2)
  clear hB1 hO2 hM2 hbl1 hm1 ho1 c3 hBn
  go_wp2
  generalize w1.alloc (.cells #[.slice a0 n c0, .slice (some a1) (n + 1) c1, .slice (some a2) (n + 2) c2, .slice (some a3) (n + 3) c3', .int .i64 nb] 54) = W at *
  generalize w1.heap.size = bk9 at *
  have p0 := cell_of_row W bk9 0 _ 54 (0, 0) hX
  have p1 := cell_of_row W bk9 1 _ 54 (0, 0) hX
  have p2 := cell_of_row W bk9 2 _ 54 (0, 0) hX
  have p3 := cell_of_row W bk9 3 _ 54 (0, 0) hX
  have p4 := cell_of_row W bk9 4 _ 54 (0, 0) hX
  have pb := cell_of_row W bw 2 _ 35 (0, 0) hB2.blk
  have pf := frozen_of_row W bw 2 _ 35 hB2.blk
  simp at p0 p1 p2 p3 p4 pb
  have hoi := hid hB2.ob
  have lbw := hB2.lt
  have lb0 := hB2.b0
  have nbw := hid (own_ne_block hB2.ob hB2.blk (by decide))
  have hby : Hid ((nb + 1) * 104 ≤ 140737488355328) := by unfold Hid; omega
  have hml : Hid (nb + 1 ≤ maxLen) := by unfold Hid maxLen; omega
  clear hB2 hX
  go_region_law
    ((refine step_append_lies _ (by rfl) _ _ _ (by rfl) B0 54 i56 _ 5 104 Tryz.underlying29 hi hz0 hz1 hz2 rfl (by omega) _ nb xb (by rfl) ((hoi.out.alloc _).drew)
        ⟨W.heap.size, 0, none⟩ 1 1 [.slice a0 n c0, .slice (some a1) (n + 1) c1, .slice (some a2) (n + 2) c2, .slice (some a3) (n + 3) c3', .int .i64 nb] (by rfl) (by rfl) (World.news_of_block (cs := #[.slice a0 n c0, .slice (some a1) (n + 1) c1, .slice (some a2) (n + 2) c2, .slice (some a3) (n + 3) c3', .int .i64 nb]) (t := 54) (fr := (0, 0)) (heap_alloc_new W _)) (by simp [Value.oneCell'])
        (by omega) hml.out hby.out (by simp; omega) (W.heap.size + 1) (by simp) ?_; intro gg cap w3 hown3 hgrow hat hlt; have kc := (far (((Bl.refl W).alloc _).drew) hgrow (o := 2) lbw nbw.out).1.trans pb; have kf := (far (((Bl.refl W).alloc _).drew) hgrow (o := 2) lbw nbw.out).2.trans pf; have k0 := (far (((Bl.refl W).alloc _).drew) hgrow (o := 0) hs2 nxb.out).1.trans p0; have k1 := (far (((Bl.refl W).alloc _).drew) hgrow (o := 1) hs2 nxb.out).1.trans p1; have k2 := (far (((Bl.refl W).alloc _).drew) hgrow (o := 2) hs2 nxb.out).1.trans p2; have k3 := (far (((Bl.refl W).alloc _).drew) hgrow (o := 3) hs2 nxb.out).1.trans p3; have k4 := (far (((Bl.refl W).alloc _).drew) hgrow (o := 4) hs2 nxb.out).1.trans p4))
  all_goals
    go_end0
    obtain ⟨B1, B2⟩ := H2.out.push H1.out hn (((Bl.refl W).alloc _).drew) hgrow hown3
    refine ⟨_, _, _, _, rfl, B1, ?_, ?_, ?_⟩
    · intro b hb'
      simp [Value.ownBlock] at hb'
      subst hb'
      rcases hat with h | h
      · exact .inl h
      · exact .inr (by have := H4.out; omega)
    · exact (H0.out.mono fun k _ e => .inr (.inr e)).trans (B2.mono fun k _ e => e.imp id .inl)
    · intro u hu b hb'
      refine H3.out b ?_
      simp at hu
      rcases hu with rfl | rfl | rfl
      · exact .inl hb'
      · exact .inr (.inl hb')
      · exact .inr (.inr hb')
end Go.Proofs.YtkgjpfamjedncaaGreat
