/-
  Lists that are lent to the program.
-/
import Derived.Test.YtkgjpfamjedncaaGreatRefNext
import Derived.Laws.CopyOwn
namespace Go.Proofs.YtkgjpfamjedncaaGreat
open Go.RowKit

theorem Tryz.size3 : (Tryz.prog.info? 3).map (·.size) = some 1 := by kernel_rfl
theorem Tryz.nil24 (w : World) (a : Option Addr) (n c n' c' : Nat) : (binOp .eql 24 (.slice a n c) (.slice none n' c')).run Tryz.prog w = .ok (.bool a.isNone) w := Lib.run_eql_slice_nil w _ _ a n c n' c' Tryz.underlying24

theorem ownsRow_full {w : World} {base : Nat} {e : TypeId} {g n : Nat} {xs : List Value} (h : w.ownsRow base e 1 (.slice (some ⟨g, 0, none⟩) n n) n xs) : w.heap[g]? = some (.cells xs.toArray e (0, 0)) := by
  rcases h.2 with ⟨h', _⟩ | ⟨g', cap', cur, h', _, hg, _, _, hs, htake⟩
  · simp at h'
  · simp only [Value.slice.injEq, Option.some.injEq, Addr.mk.injEq, and_true, true_and] at h'
    obtain ⟨rfl, rfl⟩ := h'
    rw [List.take_of_length_le (by simp; omega)] at htake
    rw [hg, ← htake]
theorem ownsRow_heap {w : World} {base : Nat} {e : TypeId} {g n : Nat} {xs : List Value} (h : w.heap[g]? = some (.cells xs.toArray e (0, 0))) (hb : base ≤ g) (hl : xs.length = n) (hm : n ≤ maxLen) : w.ownsRow base e 1 (.slice (some ⟨g, 0, none⟩) n n) n xs :=
  ⟨by omega, .inr ⟨g, n, xs.toArray, rfl, hb, h, Nat.le_refl _, hm, by simpa using hl, by simp; exact List.take_of_length_le (by omega)⟩⟩
/-- A row that is owned whole is owned to any shorter length. -/
theorem ownsRow_cut {w : World} {base : Nat} {e : TypeId} {g n : Nat} {xs : List Value} (h : w.ownsRow base e 1 (.slice (some ⟨g, 0, none⟩) n n) n xs) (k : Nat) (hk : k ≤ n) : w.ownsRow base e 1 (.slice (some ⟨g, 0, none⟩) k n) k (xs.take k) := by
  rcases h.2 with ⟨h', _⟩ | ⟨g', cap', cur, h', hb, hg, _, hm, hs, htake⟩
  · simp at h'
  · simp only [Value.slice.injEq, Option.some.injEq, Addr.mk.injEq, and_true, true_and] at h'
    obtain ⟨rfl, rfl⟩ := h'
    have := ownsRow_len h
    refine ⟨by simp; omega, .inr ⟨g, n, cur, rfl, hb, hg, hk, hm, hs, ?_⟩⟩
    rw [← htake, List.take_take]
    congr 1
    omega

theorem add_eq (b o j : Nat) : (⟨b, o, none⟩ : Addr).add j = ⟨b, o + j, none⟩ := by
  unfold Addr.add; split <;> simp_all

theorem own_cell {w : World} {base : Nat} {e : TypeId} {g n c : Nat} {xs : List Value} (h : w.ownsRow base e 1 (.slice (some ⟨g, 0, none⟩) n c) n xs) (j : Nat) (hj : j < n) : ∃ old, w.cell? ⟨g, j, none⟩ = some old := by
  have := ownsRow_len h
  exact ⟨xs[j], by rw [h.cellAt j (by omega), List.getElem?_eq_getElem]⟩

/-- A row behind j places of its end: those are x, the others are z. -/
def tailed (A : List Value) (x z : Value) (j m : Nat) : List Value := A ++ (List.replicate j x ++ List.replicate (m - j) z)
theorem tailed_set (A : List Value) (x z : Value) (j m : Nat) (h : j < m) : (tailed A x z j m).set (A.length + j) x = tailed A x z (j + 1) m := by
  unfold tailed
  apply List.ext_getElem
  · simp; omega
  · intro i h1 h2
    rw [List.getElem_set]
    simp only [List.getElem_append, List.getElem_replicate, List.length_replicate]
    split
    · rename_i e
      subst e
      rw [dif_neg (by omega), dif_pos (by omega)]
    · rename_i e
      by_cases hA : i < A.length
      · rw [dif_pos hA, dif_pos hA]
      · rw [dif_neg hA, dif_neg hA]
        by_cases hj : i - A.length < j
        · rw [dif_pos hj, dif_pos (by omega)]
        · rw [dif_neg hj, dif_neg (by omega)]
theorem tailed_len (A : List Value) (x z : Value) (j m : Nat) (h : j ≤ m) : (tailed A x z j m).length = A.length + m := by simp [tailed]; omega

/-- Numbers that were lent: r is lent for v; eight places behind it hold -77. -/
def LentI (base : Nat) (w : World) (r v : Value) (zs : List Int) : Prop :=
  ((∃ c, v = .slice none 0 c) ∧ r = .slice none 0 0 ∧ zs = []) ∨
  ∃ a c g, v = .slice (some a) zs.length c ∧ r = .slice (some ⟨g, 0, none⟩) zs.length (zs.length + 8) ∧ w.ownsRow base 3 1 (.slice (some ⟨g, 0, none⟩) (zs.length + 8) (zs.length + 8)) (zs.length + 8) (tailed (zs.map (Value.int .i64)) (.int .i64 (-77)) (.int .i64 0) 8 8)

theorem LentI.only {S : Nat → Prop} {base : Nat} {w w' : World} {r v : Value} {zs : List Int} (h : LentI base w r v zs) (ho : Only S w w') (hs : ∀ b, r.ownBlock = some b → ¬ S b) : LentI base w' r v zs := by
  rcases h with h | ⟨a, c, g, rfl, rfl, h⟩
  · exact .inl h
  · exact .inr ⟨a, c, g, rfl, rfl, ho.owns h fun b hb => hs b hb⟩
theorem LentI.bl {base : Nat} {w w' : World} {r v : Value} {zs : List Int} (h : LentI base w r v zs) (ho : Bl w w') : LentI base w' r v zs := h.only (Only.of_bl (S := fun _ => False) ho) fun _ _ e => e
theorem LentI.lt {base : Nat} {w : World} {r v : Value} {zs : List Int} (h : LentI base w r v zs) (b : Nat) (hb : r.ownBlock = some b) : base ≤ b ∧ b < w.heap.size := by
  rcases h with ⟨_, rfl, _⟩ | ⟨a, c, g, rfl, rfl, h⟩
  · simp [Value.ownBlock] at hb
  · exact h.lt b hb
theorem LentI.sl {base : Nat} {w : World} {r v : Value} {zs : List Int} (h : LentI base w r v zs) : Sl w r (zs.map (Value.int .i64)) := by
  rcases h with ⟨_, rfl, rfl⟩ | ⟨a, c, g, rfl, rfl, h⟩
  · exact .inl ⟨_, _, rfl, rfl⟩
  · have := ownsRow_sl (ownsRow_cut h zs.length (by omega))
    rwa [tailed, List.take_append_of_le_length (by simp), List.take_of_length_le (by simp)] at this

set_option maxRecDepth 100000 in
set_option maxHeartbeats 1000000 in
theorem lentInts_any (v : Value) (zs : List Int) (w : World) (hv : Sl w v (zs.map (Value.int .i64))) (hs : zs.length ≤ 4000000) :
    Calls Tryz.prog 22 #[v] w fun e w' => ∃ r, e = .returned r ∧ Bl w w' ∧ LentI w.heap.size w' r v zs := by
  have hnil := Tryz.nil24
  have hsh : (∃ c, v = .slice none 0 c ∧ zs = []) ∨ ∃ ad c, v = .slice (some ad) zs.length c ∧ ∀ j u, (zs.map (Value.int .i64))[j]? = some u → w.cell? (ad.add j) = some u := by
    rcases hv with ⟨a, c, rfl, hz⟩ | ⟨b, o, c, rfl, hb, hc⟩
    · simp at hz
      subst hz
      cases a with
      | none => exact .inl ⟨c, rfl, rfl⟩
      | some ad => exact .inr ⟨ad, c, rfl, fun j u hj => by simp at hj⟩
    · refine .inr ⟨⟨b, o, none⟩, c, by simp, fun j u hj => ?_⟩
      obtain ⟨hjl, rfl⟩ := List.getElem?_eq_some_iff.1 hj
      rw [add_eq]
      exact hc j hjl
  clear hv
  rcases hsh with ⟨c, rfl, rfl⟩ | ⟨ad, c, rfl, hc⟩
  · go_enter Tryz.func22, Tryz.ntmps22
    go_wp2
    go_ret
    exact ⟨_, rfl, Bl.refl _, .inl ⟨⟨_, rfl⟩, rfl, rfl⟩⟩
  · obtain ⟨i3, ji, jz0, jz1, jz2⟩ := info_parts Tryz.info3
    have hby : Hid (i3.bytes * (zs.length + 8) ≤ 281474976710656) := by rw [jz2]; unfold Hid; omega
    have hml : Hid (zs.length + 8 ≤ maxLen) := by unfold Hid maxLen; omega
    have Hc := hid hc
    clear hc
    go_enter Tryz.func22, Tryz.ntmps22
    go_wp2_with (first | (at_make; refine wpList_make_full _ rfl _ _ 24 rfl w.heap.size 3 i3 _ 1 Tryz.underlying24 ji jz0 jz1 _ _ _ _ (zs.length + 8) rfl rfl (by omega) (by omega) hby.out hml.out (by simp) ?_))
    intro w1 hown hgrow
    have hbl := (Only.of_grown hgrow).to_bl (by simp)
    have hheap : Hid (w1.heap[w.heap.size]? = some (.cells (List.replicate (zs.length + 8) (Value.int .i64 0)).toArray 3 (0, 0))) := by
      have := ownsRow_full hown
      rwa [toList_madeCells_one] at this
    have hsrc : Hid (∀ j u, (zs.map (Value.int .i64))[j]? = some u → w1.cell? (ad.add j) = some u) := by
      intro j u hj
      have h1 := Hc.out j u hj
      rw [Below.cell hbl (World.block_lt_of_cell? w _ h1)]
      exact h1
    have hmin : Hid ((zs.map (Value.int .i64)).length = Nat.min zs.length (zs.length + 8)) := by unfold Hid; simp
    have hone : Hid (∀ u ∈ zs.map (Value.int .i64), u.oneCell' = true) := by
      intro u hu; obtain ⟨z, _, rfl⟩ := List.mem_map.1 hu; rfl
    have hfit : Hid (0 + (zs.map (Value.int .i64)).length ≤ (List.replicate (zs.length + 8) (Value.int .i64 0)).length) := by unfold Hid; simp
    clear hown hgrow
    go_wp2_with (refine wpList_copy_splice rfl (.tmp 11) (.tmp 12) 24 24 rfl 3 Tryz.underlying24 Tryz.size3 _ _ _ _ _ _ rfl rfl w.heap.size 0 _ 3 hheap.out _ hmin.out (fun _ => ⟨rfl, _, rfl, hsrc.out⟩) hfit.out hone.out w.heap.size w hbl (Nat.le_refl _) ?_)
    intro w2 hheap2 hbl2
    have hrow : w2.ownsRow w.heap.size 3 1 (.slice (some ⟨w.heap.size, 0, none⟩) (zs.length + 8) (zs.length + 8)) (zs.length + 8) (tailed (zs.map (Value.int .i64)) (.int .i64 (-77)) (.int .i64 0) 0 8) := by
      refine ownsRow_heap ?_ (Nat.le_refl _) (by simp [tailed]) hml.out
      rw [hheap2.out]
      simp [splice, tailed]
    have Hrow := hid hrow
    have Hbl2 := hid hbl2
    clear hrow hheap2 hbl2 hbl hheap hsrc hmin hone hfit hby
    go_wp2
    go_loopw [4] (fun i wr => ∃ k j : Nat, Hid (k = zs.length + j) ∧ j ≤ 8 ∧ i = .int .i64 k ∧ Bl w wr ∧ wr.ownsRow w.heap.size 3 1 (.slice (some ⟨w.heap.size, 0, none⟩) (zs.length + 8) (zs.length + 8)) (zs.length + 8) (tailed (zs.map (Value.int .i64)) (.int .i64 (-77)) (.int .i64 0) j 8)) (fun i _ => zs.length + 8 - (intOf i).toNat)
    case atStart => exact ⟨zs.length, 0, hid (by omega), by omega, rfl, Hbl2.out, Hrow.out⟩
    case round =>
      clear Hrow Hbl2
      obtain ⟨k, j, Hk, hj, rfl, hbl, hown⟩ := hrel
      have Hown := hid hown
      clear hown
      have hk1 : zs.length ≤ k := by have := Hk.out; omega
      by_cases hlt : j < 8
      · have hk2 : k < zs.length + 8 := by have := Hk.out; omega
        have hst := Hown.out.stored k (.int .i64 (-77))
        obtain ⟨old, hcell⟩ := own_cell Hown.out k hk2
        have hfro := Hown.out.frozenAt k
        have H1 := hid hst.1
        rw [show (tailed (zs.map (Value.int .i64)) (.int .i64 (-77)) (.int .i64 0) j 8).set k (.int .i64 (-77)) = tailed (zs.map (Value.int .i64)) (.int .i64 (-77)) (.int .i64 0) (j + 1) 8 from by rw [Hk.out, ← tailed_set _ _ _ _ _ hlt]; simp] at H1
        have H2 := hid (hbl.trans_only (Only.of_grown hst.2) (fun n hn => by cases hn; exact Nat.le_refl _))
        clear hst Hown
        go_wp2
        go_roundw
        case rel => exact ⟨k + 1, j + 1, hid (by have := Hk.out; omega), by omega, by go_num, H2.out, H1.out⟩
        case measure => simp [intOf]; omega
      · have hj8 : j = 8 := by omega
        subst hj8
        have hk2 : ¬ k < zs.length + 8 := by have := Hk.out; omega
        go_wp2
        go_ret
        exact ⟨_, rfl, hbl, .inr ⟨_, _, _, rfl, rfl, Hown.out⟩⟩
end Go.Proofs.YtkgjpfamjedncaaGreat
