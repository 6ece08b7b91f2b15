/-
  Bytes that are lent to the program, and come back.
-/
import Derived.Test.YtkgjpfamjedncaaGreatTail
import Derived.Lib.BufferWrite
namespace Go.Proofs.YtkgjpfamjedncaaGreat
open Go.RowKit

theorem Tryz.size5 : (Tryz.prog.info? 5).map (·.size) = some 1 := by kernel_rfl
def Byt (ys : List Int) : Prop := ∀ d ∈ ys, 0 ≤ d ∧ d ≤ 255
theorem byteCells_strOf (ys : List Int) (h : Byt ys) : Lib.byteCells (strOf ys).data.toList = ys.map B8 := by
  rw [strOf_list]
  unfold Lib.byteCells
  rw [List.map_map]
  refine List.map_congr_left fun d hd => ?_
  have := h d hd
  simp only [Function.comp, B8, UInt8.toNat_ofNat']
  congr 1
  omega

/-- Bytes that were lent: eight places behind them hold 77. -/
def LentB (base : Nat) (w : World) (r : Value) (ys : List Int) : Prop :=
  (r = .slice none 0 0 ∧ ys = []) ∨
  ∃ g, r = .slice (some ⟨g, 0, none⟩) ys.length (ys.length + 8) ∧ w.ownsRow base 5 1 (.slice (some ⟨g, 0, none⟩) (ys.length + 8) (ys.length + 8)) (ys.length + 8) (tailed (ys.map B8) (B8 77) (B8 0) 8 8)
theorem LentB.only {S : Nat → Prop} {base : Nat} {w w' : World} {r : Value} {ys : List Int} (h : LentB base w r ys) (ho : Only S w w') (hs : ∀ b, r.ownBlock = some b → ¬ S b) : LentB base w' r ys := by
  rcases h with h | ⟨g, rfl, h⟩
  · exact .inl h
  · exact .inr ⟨g, rfl, ho.owns h fun b hb => hs b hb⟩
theorem LentB.bl {base : Nat} {w w' : World} {r : Value} {ys : List Int} (h : LentB base w r ys) (ho : Bl w w') : LentB base w' r ys := h.only (Only.of_bl (S := fun _ => False) ho) fun _ _ e => e
theorem LentB.lt {base : Nat} {w : World} {r : Value} {ys : List Int} (h : LentB base w r ys) (b : Nat) (hb : r.ownBlock = some b) : base ≤ b ∧ b < w.heap.size := by
  rcases h with ⟨rfl, _⟩ | ⟨g, rfl, h⟩
  · simp [Value.ownBlock] at hb
  · exact h.lt b hb
theorem LentB.own {base : Nat} {w : World} {r : Value} {ys : List Int} (h : LentB base w r ys) : w.ownsRow base 5 1 r ys.length (ys.map B8) := by
  rcases h with ⟨rfl, rfl⟩ | ⟨g, rfl, h⟩
  · exact World.ownsRow_nil _ _ _ _
  · have := ownsRow_cut h ys.length (by omega)
    rwa [tailed, List.take_append_of_le_length (by simp), List.take_of_length_le (by simp)] at this

set_option maxRecDepth 100000 in
set_option maxHeartbeats 1000000 in
theorem lent_any (ys : List Int) (none' : Bool) (w : World) (hy : Byt ys) (hs : ys.length ≤ 30000000) :
    Calls Tryz.prog 30 #[.string (strOf ys), .bool none'] w fun e w' => ∃ r, e = .returned r ∧ Bl w w' ∧ LentB w.heap.size w' r ys := by
  have hsz := strOf_size ys
  by_cases hz : ys = [] ∧ none' = true
  · obtain ⟨rfl, rfl⟩ := hz
    have e2 : (strOf []).toList.isEmpty = true := by rw [Go.ByteArray.toList_eq, strOf_list]; rfl
    clear hsz
    go_enter Tryz.func30, Tryz.ntmps30
    go_wp2
    go_ret
    exact ⟨_, rfl, Bl.refl _, .inl ⟨rfl, rfl⟩⟩
  · obtain ⟨i5, ji, jz0, jz1, jz2⟩ := info_parts Tryz.info5
    have hby : Hid (i5.bytes * (ys.length + 8) ≤ 281474976710656) := by rw [jz2]; unfold Hid; omega
    have hml : Hid (ys.length + 8 ≤ maxLen) := by unfold Hid maxLen; omega
    have Hbc := hid (byteCells_strOf ys hy)
    have e2 : ((strOf ys).toList.isEmpty && none') = false := by
      rw [Go.ByteArray.toList_eq, strOf_list]
      cases ys with
      | nil => cases none' with
        | false => rfl
        | true => exact absurd ⟨rfl, rfl⟩ hz
      | cons a b => rfl
    have hcase : (strOf ys).toList.isEmpty = false ∨ ((strOf ys).toList.isEmpty = true ∧ none' = false) := by
      cases h1 : (strOf ys).toList.isEmpty with
      | false => exact .inl rfl
      | true => rw [h1] at e2; exact .inr ⟨rfl, by simpa using e2⟩
    have Hsz := hid hsz
    have hszI : ((strOf ys).size : Int) = ys.length := by rw [hsz]
    clear hz hy e2 hsz
    generalize strOf ys = st at *
    rcases hcase with e2 | ⟨e2, rfl⟩
    all_goals
      go_enter Tryz.func30, Tryz.ntmps30
      go_wp2_with (first | (at_make; refine wpList_make_full _ rfl _ _ 40 rfl w.heap.size 5 i5 _ 1 Tryz.underlying40 ji jz0 jz1 _ _ _ _ (ys.length + 8) rfl rfl (by omega) (by omega) hby.out hml.out (by simp) ?_))
      intro w1 hown hgrow
      have hbl := (Only.of_grown hgrow).to_bl (by simp)
      have hheap : w1.heap[w.heap.size]? = some (.cells (List.replicate (ys.length + 8) (Value.int .u8 0)).toArray 5 (0, 0)) := by
        have := ownsRow_full hown
        rwa [toList_madeCells_one] at this
      have hcp := Lib.run_copy_row_string (P := Tryz.prog) w1 40 9 3 5 w.heap.size 0 (ys.length + 8) (ys.length + 8) st _ 5 Tryz.underlying40 Tryz.size5 hheap (by rw [Hsz.out]; omega) (by rw [Hsz.out]; simp)
      have hrow : (w1.setRow w.heap.size ((List.replicate (ys.length + 8) (Value.int .u8 0)).toArray.toList.take 0 ++ Lib.byteCells st.data.toList ++ (List.replicate (ys.length + 8) (Value.int .u8 0)).toArray.toList.drop (0 + st.size)).toArray).ownsRow w.heap.size 5 1 (.slice (some ⟨w.heap.size, 0, none⟩) (ys.length + 8) (ys.length + 8)) (ys.length + 8) (tailed (ys.map B8) (B8 77) (B8 0) 0 8) := by
        refine ownsRow_heap ?_ (Nat.le_refl _) (by simp [tailed]) hml.out
        rw [setRow_heap w1 w.heap.size _ _ 5 (0, 0) hheap, Hbc.out, Hsz.out]
        simp [tailed, B8]
      have hbl2 : Bl w (w1.setRow w.heap.size ((List.replicate (ys.length + 8) (Value.int .u8 0)).toArray.toList.take 0 ++ Lib.byteCells st.data.toList ++ (List.replicate (ys.length + 8) (Value.int .u8 0)).toArray.toList.drop (0 + st.size)).toArray) := below_setRow hbl (Nat.le_refl _) _
      generalize w1.setRow w.heap.size ((List.replicate (ys.length + 8) (Value.int .u8 0)).toArray.toList.take 0 ++ Lib.byteCells st.data.toList ++ (List.replicate (ys.length + 8) (Value.int .u8 0)).toArray.toList.drop (0 + st.size)).toArray = w2 at *
      have Hrow := hid hrow
      have Hbl2 := hid hbl2
      clear hrow hbl2 hbl hown hgrow hheap
      go_wp2
      go_loopw [6] (fun i wr => ∃ k j : Nat, Hid (k = ys.length + j) ∧ j ≤ 8 ∧ i = .int .i64 k ∧ Bl w wr ∧ wr.ownsRow w.heap.size 5 1 (.slice (some ⟨w.heap.size, 0, none⟩) (ys.length + 8) (ys.length + 8)) (ys.length + 8) (tailed (ys.map B8) (B8 77) (B8 0) j 8)) (fun i _ => ys.length + 8 - (intOf i).toNat)
      case atStart => exact ⟨ys.length, 0, hid (by omega), by omega, rfl, Hbl2.out, Hrow.out⟩
      case round =>
        clear Hrow Hbl2
        obtain ⟨k, j, Hk, hj, rfl, hbl, hown⟩ := hrel
        have Hown := hid hown
        clear hown
        have hk1 : ys.length ≤ k := by have := Hk.out; omega
        by_cases hlt : j < 8
        · have hk2 : k < ys.length + 8 := by have := Hk.out; omega
          have hst := Hown.out.stored k (.int .u8 77)
          obtain ⟨old, hcell⟩ := own_cell Hown.out k hk2
          have hfro := Hown.out.frozenAt k
          have H1 := hid hst.1
          rw [show (tailed (ys.map B8) (B8 77) (B8 0) j 8).set k (.int .u8 77) = tailed (ys.map B8) (B8 77) (B8 0) (j + 1) 8 from by rw [Hk.out, ← tailed_set _ _ _ _ _ hlt]; simp [B8]] at H1
          have H2 := hid (hbl.trans_only (Only.of_grown hst.2) (fun n hn => by cases hn; exact Nat.le_refl _))
          clear hst Hown
          go_wp2
          go_roundw
          case rel => exact ⟨k + 1, j + 1, hid (by have := Hk.out; omega), by omega, by go_num, H2.out, H1.out⟩
          case measure => simp [intOf]; omega
        · have hj8 : j = 8 := by omega
          subst hj8
          have hk2 : ¬ k < ys.length + 8 := by have := Hk.out; omega
          go_wp2
          go_ret
          exact ⟨_, rfl, hbl, .inr ⟨_, rfl, Hown.out⟩⟩
end Go.Proofs.YtkgjpfamjedncaaGreat
