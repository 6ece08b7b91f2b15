/-
  The lists that came out get their marks.
-/
import Derived.Test.YtkgjpfamjedncaaGreatMark
namespace Go.Proofs.YtkgjpfamjedncaaGreat
open Go.RowKit

theorem own_ne_type {w : World} {base : Nat} {e e' : TypeId} {v : Value} {n : Nat} {xs : List Value} (h : w.ownsRow base e 1 v n xs) {R : Nat} {c : Array Value} {f : Nat × Nat} (hR : w.heap[R]? = some (.cells c e' f)) (hne : e ≠ e') : v.ownBlock ≠ some R := by
  intro hb
  rcases h.2 with ⟨rfl, _⟩ | ⟨g, cap, cur, rfl, _, hg, _⟩
  · simp [Value.ownBlock] at hb
  · simp [Value.ownBlock] at hb
    subst hb
    rw [hR] at hg
    simp at hg
    exact hne hg.2.1.symm

/-- Four lists of one number again and again. -/
structure MarkI (w : World) (base n : Nat) (e : TypeId) (x v o1 o2 o3 : Value) : Prop where
  h0 : w.ownsRow base e 1 v n (List.replicate n x)
  h1 : w.ownsRow base e 1 o1 (n + 1) (List.replicate (n + 1) x)
  h2 : w.ownsRow base e 1 o2 (n + 2) (List.replicate (n + 2) x)
  h3 : w.ownsRow base e 1 o3 (n + 3) (List.replicate (n + 3) x)

set_option maxRecDepth 100000 in
set_option maxHeartbeats 2000000 in
theorem ownInts_any (base : Nat) (v : Value) (n : Nat) (xs : List Value) (mk : Nat) (w : World) (hown : w.ownsRow base 3 1 v n xs) (hb : base ≤ w.heap.size) (hn : n ≤ 4000000) (hmk : mk ≤ 4000000) :
    Calls Tryz.prog 87 #[v, .int .i64 mk] w fun e w' => ∃ o1 o2 o3, e = .returned (.agg #[v, o1, o2, o3, .int .i64 mk]) ∧ Only (fun b => v.ownBlock = some b) w w' ∧ MarkI w' base n 3 (.int .i64 (-1000 - mk)) v o1 o2 o3 ∧
      (∀ b, (o1.ownBlock = some b ∨ o2.ownBlock = some b ∨ o3.ownBlock = some b) → v.ownBlock = some b ∨ w.heap.size ≤ b) ∧ (∃ a1 c1 a2 c2 a3 c3, o1 = .slice (some a1) (n + 1) c1 ∧ o2 = .slice (some a2) (n + 2) c2 ∧ o3 = .slice (some a3) (n + 3) c3) := by
  obtain ⟨i3, ji, jz0, jz1, jz2⟩ := info_parts Tryz.info3
  obtain ⟨a0, c0, hv0⟩ : ∃ a c, v = .slice a n c := by
    obtain ⟨a, c, h⟩ := (ownsRow_sl hown).len
    exact ⟨a, c, by rw [ownsRow_len hown] at h; exact h⟩
  subst hv0
  have hxl := hid (ownsRow_len hown)
  have Hown := hid hown
  have h63 : Hid (n + 3 ≤ maxLen) := by unfold Hid maxLen; omega
  clear hown
  go_enter Tryz.func87, Tryz.ntmps87
  go_wp2
  go_loopw [6] (fun i wr => ∃ k : Nat, k ≤ n ∧ i = .int .i64 k ∧ Only (fun b => (Value.slice a0 n c0).ownBlock = some b) w wr ∧ w.heap.size < wr.heap.size ∧ wr.heap[w.heap.size]? = some (.cells #[.slice none 0 0, .slice none 0 0, .slice none 0 0, .slice none 0 0, .int .i64 0] 56 (0, 0)) ∧ wr.ownsRow base 3 1 (.slice a0 n c0) n (over xs (.int .i64 (-1000 - mk)) k)) (fun i _ => n - (intOf i).toNat)
  case atStart =>
    refine ⟨0, Nat.zero_le _, rfl, (Only.refl _ _).alloc _, by simp, heap_alloc_new _ _, ?_⟩
    have := Hown.out.alloc (.cells #[.slice none 0 0, .slice none 0 0, .slice none 0 0, .slice none 0 0, .int .i64 0] 56)
    simpa [over] using this
  case round =>
    obtain ⟨k, hk, rfl, ho, hsz, hblk, hown⟩ := hrel
    have Hbd := hid (fun b hb => (Hown.out.lt b hb).2)
    have Ho := hid ho
    have Hblk := hid hblk
    have Hown1 := hid hown
    clear ho hblk hown
    by_cases hlt : k < n
    · obtain ⟨g, cap, hsh⟩ := own_shape Hown1.out (by omega)
      simp only [Value.slice.injEq] at hsh
      obtain ⟨rfl, _, rfl⟩ := hsh
      obtain ⟨old, hcell⟩ := own_cell Hown1.out k hlt
      have hfro := Hown1.out.frozenAt k
      have hgw := Hbd.out g rfl
      obtain ⟨hst, hgr⟩ := Hown1.out.stored k (.int .i64 (-1000 - mk))
      rw [over_set _ _ _ (by rw [hxl.out]; exact hlt)] at hst
      have H1 := hid hst
      have H2 := hid (Ho.out.setCell ⟨g, k, none⟩ (.inl rfl) (.int .i64 (-1000 - mk)))
      have H3 := hid ((hgr.block w.heap.size hsz (by simp; omega)).trans Hblk.out)
      have H4 := hid (Nat.lt_of_lt_of_le hsz hgr.size)
      clear hst hgr Hown1 Hblk Ho
      go_wp2
      go_roundw
      case rel => exact ⟨k + 1, by omega, by go_num, H2.out, H4.out, H3.out, H1.out⟩
      case measure => simp [intOf]; omega
    · have hkn : k = n := by omega
      subst hkn
      have Hown2 : Hid (wr.ownsRow base 3 1 (.slice a0 k c0) k (List.replicate k (.int .i64 (-1000 - mk)))) := by
        have := Hown1.out
        rw [over, List.drop_of_length_le (by rw [hxl.out]; exact Nat.le_refl _), List.append_nil] at this
        exact this
      have hbw : base ≤ wr.heap.size := by omega
      have hb1 : Hid ((k + 1) * 8 ≤ 140737488355328) := by unfold Hid; omega
      have hb2 : Hid ((k + 2) * 8 ≤ 140737488355328) := by unfold Hid; omega
      have hb3 : Hid ((k + 3) * 8 ≤ 140737488355328) := by unfold Hid; omega
      have h631 : Hid (k + 1 ≤ maxLen) := by unfold Hid maxLen; omega
      have h632 : Hid (k + 2 ≤ maxLen) := by unfold Hid maxLen; omega
      clear Hown1
      go_wp2_with (first | (at_builtin; refine wpList_append_mark _ rfl (.tmp 22) (.tmp 24) 24 rfl base 3 i3 (.int .i64 0) 8 Tryz.underlying24 ji jz0 jz1 jz2 rfl _ k (.int .i64 (-1000 - mk)) rfl (Hown2.out.alloc _) ⟨wr.heap.size, 0, none⟩ 1 1 rfl (cells_new _ _ _ 1 _ rfl) rfl (by omega) h631.out hb1.out (by simp; omega) ?_))
      intro g1 cap1 w1 hr1 hk1 ho1 hg1
      have R1 := hid hr1
      have V1 := hid (hk1 _ k (by omega) (Hown2.out.alloc _))
      have O1 := hid (((Ho.out.alloc (.cells #[.int .i64 (-1000 - mk)] 3))).trans ho1)
      have s1 : wr.heap.size < w1.heap.size := by have := ho1.size; simp at this; omega
      have G1 := hid hg1
      have E1 := hid ((ho1.block w.heap.size (by simp; omega) (fun e => by have := Hbd.out _ e; omega)).trans ((Below.heap_alloc wr _ _ hsz).trans Hblk.out))
      clear hr1 hk1 ho1 hg1 Hblk Ho
      go_wp2_with (first | (at_builtin; refine wpList_append_mark _ rfl (.tmp 26) (.tmp 29) 24 rfl base 3 i3 (.int .i64 0) 8 Tryz.underlying24 ji jz0 jz1 jz2 rfl _ k (.int .i64 (-1000 - mk)) rfl (V1.out.alloc _) ⟨w1.heap.size, 0, none⟩ 2 2 rfl (cells_new _ _ _ 2 _ rfl) rfl (by omega) h632.out hb2.out (by simp; omega) ?_))
      intro g2 cap2 w2 hr2 hk2 ho2 hg2
      have R2 := hid hr2
      have V2 := hid (hk2 _ k (by omega) (V1.out.alloc _))
      have R12 := hid (hk2 _ (k + 1) (by omega) (R1.out.alloc _))
      have O2 := hid (((O1.out.alloc (.cells #[.int .i64 (-1000 - mk), .int .i64 (-1000 - mk)] 3))).trans ho2)
      have s2 : w1.heap.size < w2.heap.size := by have := ho2.size; simp at this; omega
      have G2 := hid hg2
      have E2 := hid ((ho2.block w.heap.size (by simp; omega) (fun e => by have := Hbd.out _ e; omega)).trans ((Below.heap_alloc w1 _ _ (by omega)).trans E1.out))
      clear hr2 hk2 ho2 hg2 E1 O1 R1 V1
      go_wp2_with (first | (at_builtin; refine wpList_append_mark _ rfl (.tmp 31) (.tmp 35) 24 rfl base 3 i3 (.int .i64 0) 8 Tryz.underlying24 ji jz0 jz1 jz2 rfl _ k (.int .i64 (-1000 - mk)) rfl (V2.out.alloc _) ⟨w2.heap.size, 0, none⟩ 3 3 rfl (cells_new _ _ _ 3 _ rfl) rfl (by omega) h63.out hb3.out (by simp; omega) ?_))
      intro g3 cap3 w3 hr3 hk3 ho3 hg3
      have V3 := hid (hk3 _ k (by omega) (V2.out.alloc _))
      have R13 := hid (hk3 _ (k + 1) (by omega) (R12.out.alloc _))
      have R23 := hid (hk3 _ (k + 2) (by omega) (R2.out.alloc _))
      have R3 := hid hr3
      have O3 := hid (((O2.out.alloc (.cells #[.int .i64 (-1000 - mk), .int .i64 (-1000 - mk), .int .i64 (-1000 - mk)] 3))).trans ho3)
      have s3 : w2.heap.size < w3.heap.size := by have := ho3.size; simp at this; omega
      have G3 := hid hg3
      have E3 := hid ((ho3.block w.heap.size (by simp; omega) (fun e => by have := Hbd.out _ e; omega)).trans ((Below.heap_alloc w2 _ _ (by omega)).trans E2.out))
      have q0 := cell_of_row w3 w.heap.size 0 _ 56 (0, 0) E3.out
      have q1 := cell_of_row w3 w.heap.size 1 _ 56 (0, 0) E3.out
      have q2 := cell_of_row w3 w.heap.size 2 _ 56 (0, 0) E3.out
      have q3 := cell_of_row w3 w.heap.size 3 _ 56 (0, 0) E3.out
      have q4 := cell_of_row w3 w.heap.size 4 _ 56 (0, 0) E3.out
      have f0 := frozen_of_row w3 w.heap.size 0 _ 56 E3.out
      have f1 := frozen_of_row w3 w.heap.size 1 _ 56 E3.out
      have f2 := frozen_of_row w3 w.heap.size 2 _ 56 E3.out
      have f3 := frozen_of_row w3 w.heap.size 3 _ 56 E3.out
      have f4 := frozen_of_row w3 w.heap.size 4 _ 56 E3.out
      simp at q0 q1 q2 q3 q4
      clear hr3 hk3 ho3 hg3 E2 O2 R2 V2 R12
      go_wp2
      have ne : ∀ v n xs, w3.ownsRow base 3 1 v n xs → ∀ b, v.ownBlock = some b → ¬ b = w.heap.size := fun v n xs h b hb e => own_ne_type h E3.out (by decide) (by rw [hb, e])
      have F : Only (fun b => b = w.heap.size) w3 _ := (((((Only.refl (fun b => b = w.heap.size) w3).setCell ⟨w.heap.size, 0, none⟩ (.inl rfl) (.slice a0 k c0)).setCell ⟨w.heap.size, 1, none⟩ (.inl rfl) (.slice (some ⟨g1, 0, none⟩) (k + 1) cap1)).setCell ⟨w.heap.size, 2, none⟩ (.inl rfl) (.slice (some ⟨g2, 0, none⟩) (k + 2) cap2)).setCell ⟨w.heap.size, 3, none⟩ (.inl rfl) (.slice (some ⟨g3, 0, none⟩) (k + 3) cap3)).setCell ⟨w.heap.size, 4, none⟩ (.inl rfl) (.int .i64 mk)
      refine bodyPost_ret (v := .agg #[.slice a0 k c0, .slice (some ⟨g1, 0, none⟩) (k + 1) cap1, .slice (some ⟨g2, 0, none⟩) (k + 2) cap2, .slice (some ⟨g3, 0, none⟩) (k + 3) cap3, .int .i64 mk]) (by simp [results, Tryz.results87, go_sem, q0, q1, q2, q3, q4]) rfl ⟨_, _, _, rfl, ?_, ?_, ?_, ?_⟩
      · exact ((((O3.out.setCell _ (.inr (Nat.le_refl _)) _).setCell _ (.inr (Nat.le_refl _)) _).setCell _ (.inr (Nat.le_refl _)) _).setCell _ (.inr (Nat.le_refl _)) _).setCell _ (.inr (Nat.le_refl _)) _
      · exact ⟨F.owns V3.out (ne _ _ _ V3.out), F.owns R13.out (ne _ _ _ R13.out), F.owns R23.out (ne _ _ _ R23.out), F.owns R3.out (ne _ _ _ R3.out)⟩
      · intro b hb
        rcases hb with hb | hb | hb <;> (simp only [Value.ownBlock, Option.some.injEq] at hb; subst hb)
        · exact G1.out.imp id fun h => by omega
        · exact G2.out.imp id fun h => by omega
        · exact G3.out.imp id fun h => by omega
      · exact ⟨_, _, _, _, _, _, rfl, rfl, rfl⟩
theorem heap_alloc_at (w : World) (o : Obj) (k : Nat) (h : k = w.heap.size) : (w.alloc o).heap[k]? = some o := by subst h; exact heap_alloc_new _ _

set_option maxRecDepth 100000 in
set_option maxHeartbeats 2000000 in
theorem ownChains_any (base : Nat) (v : Value) (n : Nat) (xs : List Value) (mk : Nat) (w : World) (hown : w.ownsRow base 24 1 v n xs) (hb : base ≤ w.heap.size) (hn : n ≤ 4000000) (hmk : mk ≤ 4000000) :
    Calls Tryz.prog 66 #[v, .int .i64 mk] w fun e w' => ∃ o1 o2 o3, e = .returned (.agg #[v, o1, o2, o3, (.slice (some ⟨w.heap.size + 1, 0, none⟩) 2 2)]) ∧ Only (fun b => v.ownBlock = some b) w w' ∧ MarkI w' base n 24 (.slice (some ⟨w.heap.size + 1, 0, none⟩) 2 2) v o1 o2 o3 ∧
      (∀ b, (o1.ownBlock = some b ∨ o2.ownBlock = some b ∨ o3.ownBlock = some b) → v.ownBlock = some b ∨ w.heap.size ≤ b) ∧ (∃ a1 c1 a2 c2 a3 c3, o1 = .slice (some a1) (n + 1) c1 ∧ o2 = .slice (some a2) (n + 2) c2 ∧ o3 = .slice (some a3) (n + 3) c3) ∧
      w'.heap[w.heap.size + 1]? = some (.cells #[.int .i64 (-1000 - mk), .int .i64 99] 3 (0, 0)) := by
  obtain ⟨i3, ji, jz0, jz1, jz2⟩ := info_parts Tryz.info24
  obtain ⟨a0, c0, hv0⟩ : ∃ a c, v = .slice a n c := by
    obtain ⟨a, c, h⟩ := (ownsRow_sl hown).len
    exact ⟨a, c, by rw [ownsRow_len hown] at h; exact h⟩
  subst hv0
  have hxl := hid (ownsRow_len hown)
  have Hown := hid hown
  have h63 : Hid (n + 3 ≤ maxLen) := by unfold Hid maxLen; omega
  clear hown
  go_enter Tryz.func66, Tryz.ntmps66
  go_wp2
  go_loopw [6] (fun i wr => ∃ k : Nat, k ≤ n ∧ i = .int .i64 k ∧ Only (fun b => (Value.slice a0 n c0).ownBlock = some b) w wr ∧ w.heap.size + 1 < wr.heap.size ∧ wr.heap[w.heap.size + 1]? = some (.cells #[.int .i64 (-1000 - mk), .int .i64 99] 3 (0, 0)) ∧ wr.heap[w.heap.size]? = some (.cells #[.slice none 0 0, .slice none 0 0, .slice none 0 0, .slice none 0 0, .slice none 0 0] 58 (0, 0)) ∧ wr.ownsRow base 24 1 (.slice a0 n c0) n (over xs (.slice (some ⟨w.heap.size + 1, 0, none⟩) 2 2) k)) (fun i _ => n - (intOf i).toNat)
  case atStart =>
    refine ⟨0, Nat.zero_le _, rfl, ((Only.refl _ _).alloc _).alloc _, by simp, heap_alloc_at _ _ _ (by simp), (Below.heap_alloc _ _ _ (by simp)).trans (heap_alloc_new _ _), ?_⟩
    have := (Hown.out.alloc (.cells #[.slice none 0 0, .slice none 0 0, .slice none 0 0, .slice none 0 0, .slice none 0 0] 58)).alloc (.cells #[.int .i64 (-1000 - mk), .int .i64 99] 3)
    simpa [over] using this
  case round =>
    obtain ⟨k, hk, rfl, ho, hsz, hmb, hblk, hown⟩ := hrel
    have Hmb := hid hmb
    have Hbd := hid (fun b hb => (Hown.out.lt b hb).2)
    have Ho := hid ho
    have Hblk := hid hblk
    have Hown1 := hid hown
    clear ho hblk hown hmb
    by_cases hlt : k < n
    · obtain ⟨g, cap, hsh⟩ := own_shape Hown1.out (by omega)
      simp only [Value.slice.injEq] at hsh
      obtain ⟨rfl, _, rfl⟩ := hsh
      obtain ⟨old, hcell⟩ := own_cell Hown1.out k hlt
      have hfro := Hown1.out.frozenAt k
      have hgw := Hbd.out g rfl
      obtain ⟨hst, hgr⟩ := Hown1.out.stored k (.slice (some ⟨w.heap.size + 1, 0, none⟩) 2 2)
      rw [over_set _ _ _ (by rw [hxl.out]; exact hlt)] at hst
      have H1 := hid hst
      have H2 := hid (Ho.out.setCell ⟨g, k, none⟩ (.inl rfl) (.slice (some ⟨w.heap.size + 1, 0, none⟩) 2 2))
      have H3 := hid ((hgr.block w.heap.size (by omega) (by simp; omega)).trans Hblk.out)
      have H4 := hid (Nat.lt_of_lt_of_le hsz hgr.size)
      have H5 := hid ((hgr.block (w.heap.size + 1) hsz (by simp; omega)).trans Hmb.out)
      clear hst hgr Hown1 Hblk Ho Hmb
      go_wp2
      go_roundw
      case rel => exact ⟨k + 1, by omega, by go_num, H2.out, H4.out, H5.out, H3.out, H1.out⟩
      case measure => simp [intOf]; omega
    · have hkn : k = n := by omega
      subst hkn
      have Hown2 : Hid (wr.ownsRow base 24 1 (.slice a0 k c0) k (List.replicate k (.slice (some ⟨w.heap.size + 1, 0, none⟩) 2 2))) := by
        have := Hown1.out
        rw [over, List.drop_of_length_le (by rw [hxl.out]; exact Nat.le_refl _), List.append_nil] at this
        exact this
      have hbw : base ≤ wr.heap.size := by omega
      have hb1 : Hid ((k + 1) * 24 ≤ 140737488355328) := by unfold Hid; omega
      have hb2 : Hid ((k + 2) * 24 ≤ 140737488355328) := by unfold Hid; omega
      have hb3 : Hid ((k + 3) * 24 ≤ 140737488355328) := by unfold Hid; omega
      have h631 : Hid (k + 1 ≤ maxLen) := by unfold Hid maxLen; omega
      have h632 : Hid (k + 2 ≤ maxLen) := by unfold Hid maxLen; omega
      clear Hown1
      go_wp2_with (first | (at_builtin; refine wpList_append_mark _ rfl (.tmp 23) (.tmp 25) 39 rfl base 24 i3 (.slice none 0 0) 24 Tryz.underlying39 ji jz0 jz1 jz2 rfl _ k (.slice (some ⟨w.heap.size + 1, 0, none⟩) 2 2) rfl (Hown2.out.alloc _) ⟨wr.heap.size, 0, none⟩ 1 1 rfl (cells_new _ _ _ 1 _ rfl) rfl (by omega) h631.out hb1.out (by simp; omega) ?_))
      intro g1 cap1 w1 hr1 hk1 ho1 hg1
      have R1 := hid hr1
      have V1 := hid (hk1 _ k (by omega) (Hown2.out.alloc _))
      have O1 := hid (((Ho.out.alloc (.cells #[(.slice (some ⟨w.heap.size + 1, 0, none⟩) 2 2)] 24))).trans ho1)
      have s1 : wr.heap.size < w1.heap.size := by have := ho1.size; simp at this; omega
      have G1 := hid hg1
      have M1 := hid ((ho1.block (w.heap.size + 1) (by simp; omega) (fun e => by have := Hbd.out _ e; omega)).trans ((Below.heap_alloc wr _ _ (by omega)).trans Hmb.out))
      have E1 := hid ((ho1.block w.heap.size (by simp; omega) (fun e => by have := Hbd.out _ e; omega)).trans ((Below.heap_alloc wr _ _ (by omega)).trans Hblk.out))
      clear hr1 hk1 ho1 hg1 Hblk Ho
      go_wp2_with (first | (at_builtin; refine wpList_append_mark _ rfl (.tmp 27) (.tmp 30) 39 rfl base 24 i3 (.slice none 0 0) 24 Tryz.underlying39 ji jz0 jz1 jz2 rfl _ k (.slice (some ⟨w.heap.size + 1, 0, none⟩) 2 2) rfl (V1.out.alloc _) ⟨w1.heap.size, 0, none⟩ 2 2 rfl (cells_new _ _ _ 2 _ rfl) rfl (by omega) h632.out hb2.out (by simp; omega) ?_))
      intro g2 cap2 w2 hr2 hk2 ho2 hg2
      have R2 := hid hr2
      have V2 := hid (hk2 _ k (by omega) (V1.out.alloc _))
      have R12 := hid (hk2 _ (k + 1) (by omega) (R1.out.alloc _))
      have O2 := hid (((O1.out.alloc (.cells #[(.slice (some ⟨w.heap.size + 1, 0, none⟩) 2 2), (.slice (some ⟨w.heap.size + 1, 0, none⟩) 2 2)] 24))).trans ho2)
      have s2 : w1.heap.size < w2.heap.size := by have := ho2.size; simp at this; omega
      have G2 := hid hg2
      have M2 := hid ((ho2.block (w.heap.size + 1) (by simp; omega) (fun e => by have := Hbd.out _ e; omega)).trans ((Below.heap_alloc w1 _ _ (by omega)).trans M1.out))
      have E2 := hid ((ho2.block w.heap.size (by simp; omega) (fun e => by have := Hbd.out _ e; omega)).trans ((Below.heap_alloc w1 _ _ (by omega)).trans E1.out))
      clear hr2 hk2 ho2 hg2 E1 O1 R1 V1
      go_wp2_with (first | (at_builtin; refine wpList_append_mark _ rfl (.tmp 32) (.tmp 36) 39 rfl base 24 i3 (.slice none 0 0) 24 Tryz.underlying39 ji jz0 jz1 jz2 rfl _ k (.slice (some ⟨w.heap.size + 1, 0, none⟩) 2 2) rfl (V2.out.alloc _) ⟨w2.heap.size, 0, none⟩ 3 3 rfl (cells_new _ _ _ 3 _ rfl) rfl (by omega) h63.out hb3.out (by simp; omega) ?_))
      intro g3 cap3 w3 hr3 hk3 ho3 hg3
      have V3 := hid (hk3 _ k (by omega) (V2.out.alloc _))
      have R13 := hid (hk3 _ (k + 1) (by omega) (R12.out.alloc _))
      have R23 := hid (hk3 _ (k + 2) (by omega) (R2.out.alloc _))
      have R3 := hid hr3
      have O3 := hid (((O2.out.alloc (.cells #[(.slice (some ⟨w.heap.size + 1, 0, none⟩) 2 2), (.slice (some ⟨w.heap.size + 1, 0, none⟩) 2 2), (.slice (some ⟨w.heap.size + 1, 0, none⟩) 2 2)] 24))).trans ho3)
      have s3 : w2.heap.size < w3.heap.size := by have := ho3.size; simp at this; omega
      have G3 := hid hg3
      have M3 := hid ((ho3.block (w.heap.size + 1) (by simp; omega) (fun e => by have := Hbd.out _ e; omega)).trans ((Below.heap_alloc w2 _ _ (by omega)).trans M2.out))
      have E3 := hid ((ho3.block w.heap.size (by simp; omega) (fun e => by have := Hbd.out _ e; omega)).trans ((Below.heap_alloc w2 _ _ (by omega)).trans E2.out))
      have q0 := cell_of_row w3 w.heap.size 0 _ 58 (0, 0) E3.out
      have q1 := cell_of_row w3 w.heap.size 1 _ 58 (0, 0) E3.out
      have q2 := cell_of_row w3 w.heap.size 2 _ 58 (0, 0) E3.out
      have q3 := cell_of_row w3 w.heap.size 3 _ 58 (0, 0) E3.out
      have q4 := cell_of_row w3 w.heap.size 4 _ 58 (0, 0) E3.out
      have f0 := frozen_of_row w3 w.heap.size 0 _ 58 E3.out
      have f1 := frozen_of_row w3 w.heap.size 1 _ 58 E3.out
      have f2 := frozen_of_row w3 w.heap.size 2 _ 58 E3.out
      have f3 := frozen_of_row w3 w.heap.size 3 _ 58 E3.out
      have f4 := frozen_of_row w3 w.heap.size 4 _ 58 E3.out
      simp at q0 q1 q2 q3 q4
      clear hr3 hk3 ho3 hg3 E2 O2 R2 V2 R12
      go_wp2
      have ne : ∀ v n xs, w3.ownsRow base 24 1 v n xs → ∀ b, v.ownBlock = some b → ¬ b = w.heap.size := fun v n xs h b hb e => own_ne_type h E3.out (by decide) (by rw [hb, e])
      have F : Only (fun b => b = w.heap.size) w3 _ := (((((Only.refl (fun b => b = w.heap.size) w3).setCell ⟨w.heap.size, 0, none⟩ (.inl rfl) (.slice a0 k c0)).setCell ⟨w.heap.size, 1, none⟩ (.inl rfl) (.slice (some ⟨g1, 0, none⟩) (k + 1) cap1)).setCell ⟨w.heap.size, 2, none⟩ (.inl rfl) (.slice (some ⟨g2, 0, none⟩) (k + 2) cap2)).setCell ⟨w.heap.size, 3, none⟩ (.inl rfl) (.slice (some ⟨g3, 0, none⟩) (k + 3) cap3)).setCell ⟨w.heap.size, 4, none⟩ (.inl rfl) (.slice (some ⟨w.heap.size + 1, 0, none⟩) 2 2)
      refine bodyPost_ret (v := .agg #[.slice a0 k c0, .slice (some ⟨g1, 0, none⟩) (k + 1) cap1, .slice (some ⟨g2, 0, none⟩) (k + 2) cap2, .slice (some ⟨g3, 0, none⟩) (k + 3) cap3, (.slice (some ⟨w.heap.size + 1, 0, none⟩) 2 2)]) (by simp [results, Tryz.results66, go_sem, q0, q1, q2, q3, q4]) rfl ⟨_, _, _, rfl, ?_, ?_, ?_, ?_, ?_⟩
      · exact ((((O3.out.setCell _ (.inr (Nat.le_refl _)) _).setCell _ (.inr (Nat.le_refl _)) _).setCell _ (.inr (Nat.le_refl _)) _).setCell _ (.inr (Nat.le_refl _)) _).setCell _ (.inr (Nat.le_refl _)) _
      · exact ⟨F.owns V3.out (ne _ _ _ V3.out), F.owns R13.out (ne _ _ _ R13.out), F.owns R23.out (ne _ _ _ R23.out), F.owns R3.out (ne _ _ _ R3.out)⟩
      · intro b hb
        rcases hb with hb | hb | hb <;> (simp only [Value.ownBlock, Option.some.injEq] at hb; subst hb)
        · exact G1.out.imp id fun h => by omega
        · exact G2.out.imp id fun h => by omega
        · exact G3.out.imp id fun h => by omega
      · exact ⟨_, _, _, _, _, _, rfl, rfl, rfl⟩
      · exact (F.block (w.heap.size + 1) (by omega) (by omega)).trans M3.out
end Go.Proofs.YtkgjpfamjedncaaGreat
