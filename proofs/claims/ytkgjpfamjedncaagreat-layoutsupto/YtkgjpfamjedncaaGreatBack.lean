/-
  Lists that come back from the program.
-/
import Derived.Test.YtkgjpfamjedncaaGreatLent
namespace Go.Proofs.YtkgjpfamjedncaaGreat
open Go.RowKit

/-- A row of which the first k places have been written over. -/
def over (A : List Value) (y : Value) (k : Nat) : List Value := List.replicate k y ++ A.drop k
theorem over_len (A : List Value) (y : Value) (k : Nat) (h : k ≤ A.length) : (over A y k).length = A.length := by simp [over]; omega
theorem over_get (A : List Value) (y : Value) (k : Nat) : (over A y k)[k]? = A[k]? := by
  unfold over
  rw [List.getElem?_append_right (by simp)]
  simp
theorem over_set (A : List Value) (y : Value) (k : Nat) (h : k < A.length) : (over A y k).set k y = over A y (k + 1) := by
  unfold over
  apply List.ext_getElem?
  intro i
  by_cases e : i = k
  · subst e
    rw [List.getElem?_set_self (by simp; omega), List.getElem?_append_left (by simp)]
    simp
  · rw [List.getElem?_set_ne (by omega)]
    by_cases l : i < k
    · rw [List.getElem?_append_left (by simpa using l), List.getElem?_append_left (by simp; omega)]
      rw [List.getElem?_replicate, List.getElem?_replicate, if_pos l, if_pos (by omega)]
    · rw [List.getElem?_append_right (by simp; omega), List.getElem?_append_right (by simp; omega)]
      simp
      congr 1
      omega
theorem tailed_get (A : List Value) (x z : Value) (k : Nat) (h : A.length ≤ k) (h' : k < A.length + 8) : (tailed A x z 8 8)[k]? = some x := by
  unfold tailed
  rw [List.getElem?_append_right h, List.getElem?_append_left (by simp; omega), List.getElem?_replicate, if_pos (by omega)]

set_option maxRecDepth 100000 in
set_option maxHeartbeats 1000000 in
theorem backInts_any (base : Nat) (r v : Value) (zs : List Int) (w : World) (hr : LentI base w r v zs) (hv : Sl w v (zs.map (Value.int .i64))) (hs : zs.length ≤ 4000000) :
    Calls Tryz.prog 25 #[r, v] w fun e w' => e = .returned (.bool true) ∧ Only (fun k => r.ownBlock = some k) w w' := by
  have hnil := Tryz.nil24
  have Hsl := hid hr.sl
  rcases hr with ⟨⟨c9, rfl⟩, rfl, rfl⟩ | ⟨a, c, g, rfl, rfl, hown⟩
  · go_enter Tryz.func25, Tryz.ntmps25
    go_wp2
    go_ret
    exact ⟨rfl, Only.refl _ _⟩
  · have Hv := hid hv
    have Hown := hid hown
    clear hv hown
    go_enter Tryz.func25, Tryz.ntmps25
    go_wp2_with fail
    refine (sameInts_any _ _ zs _ Hsl.out Hv.out hs).mono ?_
    rintro e w1 ⟨rfl, hbl⟩
    have Hown1 := hid ((Only.of_bl (S := fun _ => False) hbl).owns Hown.out fun _ _ e => e)
    have Hbl := hid hbl
    clear Hown hbl
    generalize hT : tailed (zs.map (Value.int .i64)) (.int .i64 (-77)) (.int .i64 0) 8 8 = T at *
    have HT := hid hT
    have hTl : Hid (T.length = zs.length + 8) := by unfold Hid; rw [← hT, tailed_len _ _ _ _ _ (by omega)]; simp
    have hTg : Hid (∀ k, zs.length ≤ k → k < zs.length + 8 → T[k]? = some (.int .i64 (-77))) := by
      intro k h1 h2; rw [← hT]; exact tailed_get _ _ _ k (by simpa using h1) (by simpa using h2)
    clear hT HT
    go_wp2
    go_loopw [5, 7] (fun ok i wr => ∃ k : Nat, k ≤ zs.length + 8 ∧ i = .int .i64 k ∧ ok = .bool true ∧ Only (fun b => some g = some b) w wr ∧ wr.ownsRow base 3 1 (.slice (some ⟨g, 0, none⟩) (zs.length + 8) (zs.length + 8)) (zs.length + 8) (over T (.int .i64 (-78)) k)) (fun _ i _ => zs.length + 8 - (intOf i).toNat)
    case atStart => exact ⟨0, by omega, rfl, rfl, Only.of_bl Hbl.out, by simpa [over] using Hown1.out⟩
    case round =>
      clear Hbl Hown1
      obtain ⟨k, hk, rfl, rfl, ho, hown⟩ := hrel
      have Hown := hid hown
      have Ho := hid ho
      clear hown ho
      by_cases hlt : k < zs.length + 8
      · have hst := Hown.out.stored k (.int .i64 (-78))
        rw [over_set _ _ _ (by rw [hTl.out]; exact hlt)] at hst
        have H1 := hid hst.1
        have H2 := hid (Ho.out.setCell ⟨g, k, none⟩ (.inl rfl) (.int .i64 (-78)))
        have hfro := Hown.out.frozenAt k
        have hcell := Hown.out.cellAt k (by omega)
        rw [over_get] at hcell
        clear hst
        by_cases hlz : k < zs.length
        · rw [List.getElem?_eq_getElem (by rw [hTl.out]; exact hlt)] at hcell
          generalize T[k]'(by rw [hTl.out]; exact hlt) = old at hcell
          clear Hown
          go_wp2
          go_roundw
          case rel => exact ⟨k + 1, by omega, by go_num, rfl, H2.out, H1.out⟩
          case measure => simp [intOf]; omega
        · rw [hTg.out k (by omega) hlt] at hcell
          clear Hown
          go_wp2
          go_roundw
          case rel => exact ⟨k + 1, by omega, by go_num, rfl, H2.out, H1.out⟩
          case measure => simp [intOf]; omega
      · go_wp2
        go_ret
        exact ⟨rfl, Ho.out⟩
end Go.Proofs.YtkgjpfamjedncaaGreat
