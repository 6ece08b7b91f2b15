/-
  Bytes that come back from the program; an image that grows; two votes that are one.
-/
import Derived.Test.YtkgjpfamjedncaaGreatLentB
import Derived.Test.YtkgjpfamjedncaaGreatVFurVCalls
namespace Go.Proofs.YtkgjpfamjedncaaGreat
open Go.RowKit
attribute [local go_sem ↓] Go.wp_at_zero Go.wp_at_succ

set_option maxRecDepth 100000 in
set_option maxHeartbeats 1000000 in
theorem back_any (base : Nat) (r : Value) (ys : List Int) (w : World) (hr : LentB base w r ys) (hs : ys.length ≤ 30000000) :
    Calls Tryz.prog 38 #[r, .string (strOf ys)] w fun e w' => e = .returned (.bool true) ∧ Only (fun k => r.ownBlock = some k) w w' := by
  have hnil := Tryz.nil40
  have hsz := strOf_size ys
  have kc := conv_any r ys w (ownsRow_sl hr.own)
  rcases hr with ⟨rfl, rfl⟩ | ⟨g, rfl, hown⟩
  · have e2 : (strOf []).toList.isEmpty = true := by rw [Go.ByteArray.toList_eq, strOf_list]; rfl
    clear kc hsz
    go_enter Tryz.func38, Tryz.ntmps38
    go_wp2
    go_ret
    exact ⟨rfl, Only.refl _ _⟩
  · have Hown := hid hown
    have hszI : ((strOf ys).size : Int) = ys.length := by rw [hsz]
    clear hown hsz
    generalize strOf ys = st at *
    generalize hT : tailed (ys.map B8) (B8 77) (B8 0) 8 8 = T at *
    have hTl : Hid (T.length = ys.length + 8) := by unfold Hid; rw [← hT, tailed_len _ _ _ _ _ (by omega)]; simp
    have hTg : Hid (∀ k, ys.length ≤ k → k < ys.length + 8 → T[k]? = some (.int .u8 77)) := by
      intro k h1 h2; rw [← hT]; exact tailed_get _ _ _ k (by simpa using h1) (by simpa using h2)
    have HT := hid hT
    clear hT HT
    go_enter Tryz.func38, Tryz.ntmps38
    go_wp2
    go_loopw [5, 7] (fun ok i wr => ∃ k : Nat, k ≤ ys.length + 8 ∧ i = .int .i64 k ∧ ok = .bool true ∧ Only (fun b => some g = some b) w wr ∧ wr.ownsRow base 5 1 (.slice (some ⟨g, 0, none⟩) (ys.length + 8) (ys.length + 8)) (ys.length + 8) (over T (.int .u8 78) k)) (fun _ i _ => ys.length + 8 - (intOf i).toNat)
    case atStart => exact ⟨0, by omega, rfl, rfl, Only.refl _ _, by simpa [over] using Hown.out⟩
    case round =>
      clear Hown
      obtain ⟨k, hk, rfl, rfl, ho, hown⟩ := hrel
      have Hown := hid hown
      have Ho := hid ho
      clear hown ho kc
      by_cases hlt : k < ys.length + 8
      · have hst := Hown.out.stored k (.int .u8 78)
        rw [over_set _ _ _ (by rw [hTl.out]; exact hlt)] at hst
        have H1 := hid hst.1
        have H2 := hid (Ho.out.setCell ⟨g, k, none⟩ (.inl rfl) (.int .u8 78))
        have hfro := Hown.out.frozenAt k
        have hcell := Hown.out.cellAt k (by omega)
        rw [over_get] at hcell
        clear hst
        by_cases hlz : k < ys.length
        · rw [List.getElem?_eq_getElem (by rw [hTl.out]; exact hlt)] at hcell
          generalize T[k]'(by rw [hTl.out]; exact hlt) = old at hcell
          clear Hown
          go_wp2
          go_roundw
          case rel => exact ⟨k + 1, by omega, by go_num, rfl, H2.out, H1.out⟩
          case measure => simp [intOf]; omega
        · rw [hTg.out k (by omega) hlt] at hcell
          clear Hown
          go_wp2
          go_roundw
          case rel => exact ⟨k + 1, by omega, by go_num, rfl, H2.out, H1.out⟩
          case measure => simp [intOf]; omega
      · go_wp2
        go_ret
        exact ⟨rfl, Ho.out⟩

theorem slice_cut {w : World} {base n c m : Nat} {a : Option Addr} {xs : List Value} (h : w.ownsRow base 5 1 (.slice a n c) n xs) (hm : m ≤ n) : Sl w (.slice a m c) (xs.take m) := by
  have hl := ownsRow_len h
  rcases h.2 with ⟨h', hz⟩ | ⟨g, cap, cur, h', hb, hg, hc, hmm, hs, ht⟩
  · simp only [Value.slice.injEq] at h'
    obtain ⟨rfl, rfl, rfl⟩ := h'
    obtain rfl : m = 0 := by omega
    exact .inl ⟨_, _, rfl, by simp⟩
  · simp only [Value.slice.injEq] at h'
    obtain ⟨rfl, _, rfl⟩ := h'
    by_cases h0 : m = 0
    · subst h0; exact .inl ⟨_, _, rfl, by simp⟩
    · refine .inr ⟨g, 0, c, by rw [List.length_take]; congr 1; omega, (h.lt g rfl).2, fun j hj => ?_⟩
      rw [List.length_take] at hj
      rw [Nat.zero_add, h.cellAt j (by omega), List.getElem_take, List.getElem?_eq_getElem]

set_option maxRecDepth 100000 in
set_option maxHeartbeats 1000000 in
/-- The image goes on. -/
theorem grows_any (ba bb : Nat) (a b : Value) (xs ys : List Int) (w : World) (ha : w.ownsRow ba 5 1 a xs.length (xs.map B8)) (hb : w.ownsRow bb 5 1 b (xs.length + ys.length) ((xs ++ ys).map B8)) (hl : xs.length + ys.length ≤ 40000000) :
    Calls Tryz.prog 49 #[a, b] w fun e w' => e = .returned (.bool true) ∧ Bl w w' := by
  obtain ⟨aa, ac, rfl⟩ := owned_slice' ha
  obtain ⟨ab, bc, rfl⟩ := owned_slice' hb
  have k1 := fun W (hW : Bl w W) => conv_any _ xs W ((ownsRow_sl ha).bl hW)
  have hcut := slice_cut hb (m := xs.length) (by omega)
  rw [List.map_append, List.take_append_of_le_length (by simp), List.take_of_length_le (by simp)] at hcut
  have k2 := fun W (hW : Bl w W) => conv_any _ xs W (hcut.bl hW)
  have K1 := fun m => k1 (w.drewN m) ((Bl.refl w).drewN m)
  have K2 := fun m => k2 (w.drewN m) ((Bl.refl w).drewN m)
  have hbc : xs.length + ys.length ≤ bc ∧ (bc : Int) ≤ 9223372036854775807 ∧ (bc = 0 → xs.length = 0) := by
    rcases hb.2 with ⟨h', hz⟩ | ⟨g, cap, cur, h', _, _, hc, hm, _⟩
    · simp only [Value.slice.injEq] at h'
      obtain ⟨_, h1, rfl⟩ := h'
      exact ⟨by omega, by omega, fun _ => by omega⟩
    · simp only [Value.slice.injEq] at h'
      obtain ⟨_, _, rfl⟩ := h'
      unfold maxLen at hm
      exact ⟨hc, by omega, fun h => by omega⟩
  obtain ⟨b1, b2, b3⟩ := hbc
  clear k1 k2 hcut ha hb
  generalize strOf xs = st at *
  by_cases hc0 : bc = 0
  · subst hc0
    have hx0 := b3 rfl
    have hy0 : ys.length = 0 := by omega
    rw [hx0] at K1 K2
    rw [hx0, hy0]
    clear b1 b2 b3 hl hx0 hy0
    go_enter Tryz.func49, Tryz.ntmps49
    go_wp2_with fail
    go_quiet (fail)
    go_wp2
    go_ret
    exact ⟨rfl, (Bl.refl _).drewN _⟩
  · have hlI : (xs.length : Int) ≤ bc := by omega
    have hge : decide ((xs.length : Int) ≤ (xs.length : Int) + (ys.length : Int)) = true := by simp only [decide_eq_true_eq]; omega
    clear b3
    go_enter Tryz.func49, Tryz.ntmps49
    go_wp2_with fail
    go_quiet (fail)
    go_wp2
    go_ret
    exact ⟨rfl, (Bl.refl _).drewN _⟩

set_option maxRecDepth 100000 in
set_option maxHeartbeats 1000000 in
theorem sameVote_any (wh pr ba : Int) (u v : Value) (ys : List Int) (w : World) (hu : Sl w u (ys.map B8)) (hv : Sl w v (ys.map B8)) :
    Calls Tryz.prog 56 #[voteR wh pr ba u, voteR wh pr ba v] w fun e w' => e = .returned (.bool true) ∧ Bl w w' := by
  obtain ⟨a, c, e⟩ := hu.len
  obtain ⟨a', c', e'⟩ := hv.len
  have bA := ((Bl.refl w).alloc (.cells #[.int .i64 wh, .int .i64 pr, .int .i64 ba, u] 105)).alloc (.cells #[.int .i64 wh, .int .i64 pr, .int .i64 ba, v] 105)
  have k1 := conv_any u ys _ (hu.bl bA)
  have k2 := conv_any v ys _ (hv.bl bA)
  have HB := hid bA
  subst e e'
  simp only [List.length_map] at k1 k2 HB ⊢
  clear hu hv bA
  generalize strOf ys = st at *
  unfold voteR
  go_enter Tryz.func56, Tryz.ntmps56
  go_wp2
  go_ret
  exact ⟨rfl, HB.out⟩
end Go.Proofs.YtkgjpfamjedncaaGreat
