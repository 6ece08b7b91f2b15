/-
  Next of the program.
-/
import Derived.Test.YtkgjpfamjedncaaGreatSealed
namespace Go.Proofs.YtkgjpfamjedncaaGreat
open Go.RowKit

def sealedAll (L : List (List Int)) (zs : List Int) : Bool := L.all fun c => c.any fun u => decide (u ∈ zs)
/-- The error of Next, and its layout. -/
def nerr (L : List (List Int)) (x : Int) (zs : List Int) : Int :=
  if x ≠ -1 ∧ leaves L x ≠ 0 then leaves L x else if sealedAll (L.map (rm x)) zs = true then 0 else 5
def nres (L : List (List Int)) (x : Int) (zs : List Int) : List (List Int) := if nerr L x zs = 0 then L.map (rm x) else []

/-- A layout that came out, in memory of its own from 'base' on; or nil. -/
def Outl (base : Nat) (w : World) (r : Value) (R : List (List Int)) : Prop :=
  (r = .slice none 0 0 ∧ R = []) ∨ ∃ g n ms, r = .slice (some ⟨g, 0, none⟩) n n ∧ Rowy base w g n ms R

theorem leaves_vals (L : List (List Int)) (x : Int) : leaves L x = 3 ∨ leaves L x = 4 ∨ leaves L x = 0 := by
  unfold leaves; split; exact .inl rfl; split; exact .inr (.inl rfl); exact .inr (.inr rfl)

theorem rm_wf {c : List Int} (h : wfAll c) (x : Int) : wfAll (rm x c) := fun z hz => h z (List.mem_filter.1 hz).1
theorem rm_le (x : Int) (c : List Int) : (rm x c).length ≤ c.length := List.length_filter_le _ _

set_option maxHeartbeats 1000000 in
theorem next_any (v u : Value) (L : List (List Int)) (x : Int) (zs : List Int) (w : World) (hv : Sll w v L) (hu : Sl w u (zs.map (Value.int .i64))) (hn : L.length ≤ 4000000) (hs : ∀ c ∈ L, c.length ≤ 4000000 ∧ wfAll c) (hz : zs.length ≤ 4000000) (hw : wfAll zs) :
    Calls Tryz.prog 62 #[v, .int .i64 x, u] w fun e w' => ∃ r, e = .returned (.tuple #[r, .int .i64 (nerr L x zs)]) ∧ Bl w w' ∧ Outl w.heap.size w' r (nres L x zs) := by
  have hs1 : ∀ c ∈ L, c.length ≤ 4000000 := fun c hc => (hs c hc).1
  by_cases hA : x ≠ -1 ∧ leaves L x ≠ 0
  · have hx : (x != -1) = true := by simpa using hA.1
    have hne : nerr L x zs = leaves L x := by simp [nerr, hA]
    have hnr : nres L x zs = [] := by simp [nres, hne, hA.2]
    have hl : (leaves L x != 0) = true := by simpa using hA.2
    rw [hne, hnr]
    clear hA hne hnr
    generalize hq : leaves L x = q at *
    have Hq := (show Hid _ from hq)
    clear hq
    go_enter Tryz.func62, Tryz.ntmps62
    go_wp2_with fail
    refine (leavable_any v L x _ hv hn hs1).mono ?_
    rw [Hq.out]
    rintro e w' ⟨rfl, rfl⟩
    go_wp2
    go_ret2
    exact ⟨_, rfl, Bl.refl _, .inl ⟨rfl, rfl⟩⟩
  · have hne : nerr L x zs = if sealedAll (L.map (rm x)) zs = true then 0 else 5 := by simp only [nerr, if_neg hA]
    have hkey : ∀ w1, Bl w w1 → Calls Tryz.prog 85 #[v, .int .i64 x] w1 fun e w' => ∃ g ms, e = .returned (.slice (some ⟨g, 0, none⟩) L.length L.length) ∧ Bl w1 w' ∧ Rowy w1.heap.size w' g L.length ms (L.map (rm x)) := fun w1 hb => without_any v L x w1 (hv.bl hb) hn hs1
    have Hkey := (show Hid _ from hkey)
    have Hne := (show Hid _ from hne)
    clear hkey hne
    have hlen : (L.map (rm x)).length ≤ 4000000 := by simpa using hn
    have HsR : Hid (∀ c ∈ L.map (rm x), c.length ≤ 4000000 ∧ wfAll c) := by
      intro c hc
      obtain ⟨d, hd, rfl⟩ := List.mem_map.1 hc
      exact ⟨Nat.le_trans (rm_le x d) (hs d hd).1, rm_wf (hs d hd).2 x⟩
    by_cases hx1 : x = -1
    · have hx : (x != -1) = false := by simp [hx1]
      clear hx1
      cases hall : sealedAll (L.map (rm x)) zs
      · have Hall : Hid (((L.map (rm x)).all fun c => c.any fun u => decide (u ∈ zs)) = false) := hall
        have Hfin : Hid (nerr L x zs = 5 ∧ nres L x zs = []) := by
          have h5 : nerr L x zs = 5 := by rw [Hne.out, hall]; simp
          exact ⟨h5, by simp [nres, h5]⟩
        clear hall Hne hlen hA
        go_enter Tryz.func62, Tryz.ntmps62
        go_wp2_with fail
        refine (Hkey.out _ (Bl.refl _)).mono ?_
        rintro e w1 ⟨g, ms, rfl, hb1, R1⟩
        have HR := (show Hid _ from R1)
        clear R1
        go_wp2_with fail
        refine (eachHasOne_any _ u _ zs _ HR.out.sll (hu.bl hb1) (by simpa using hn) HsR.out hz hw).mono ?_
        rw [Hall.out]
        rintro e w2 ⟨rfl, hb2⟩
        go_wp2
        go_ret2
        exact ⟨_, by rw [Hfin.out.1]; rfl, hb1.trans hb2, by rw [Hfin.out.2]; exact .inl ⟨rfl, rfl⟩⟩
      · have Hall : Hid (((L.map (rm x)).all fun c => c.any fun u => decide (u ∈ zs)) = true) := hall
        have Hfin : Hid (nerr L x zs = 0 ∧ nres L x zs = L.map (rm x)) := by
          have h5 : nerr L x zs = 0 := by rw [Hne.out, hall]; simp
          exact ⟨h5, by simp [nres, h5]⟩
        clear hall Hne hlen hA
        go_enter Tryz.func62, Tryz.ntmps62
        go_wp2_with fail
        refine (Hkey.out _ (Bl.refl _)).mono ?_
        rintro e w1 ⟨g, ms, rfl, hb1, R1⟩
        have HR := (show Hid _ from R1)
        clear R1
        go_wp2_with fail
        refine (eachHasOne_any _ u _ zs _ HR.out.sll (hu.bl hb1) (by simpa using hn) HsR.out hz hw).mono ?_
        rw [Hall.out]
        rintro e w2 ⟨rfl, hb2⟩
        go_wp2
        go_ret2
        exact ⟨_, by rw [Hfin.out.1]; rfl, hb1.trans hb2, by rw [Hfin.out.2]; exact .inr ⟨_, _, _, rfl, HR.out.bl hb2⟩⟩
    · have hx : (x != -1) = true := by simp [hx1]
      have Hl : Hid (leaves L x = 0) := by unfold Hid; by_cases h : leaves L x = 0; exact h; exact absurd ⟨hx1, h⟩ hA
      clear hx1
      cases hall : sealedAll (L.map (rm x)) zs
      · have Hall : Hid (((L.map (rm x)).all fun c => c.any fun u => decide (u ∈ zs)) = false) := hall
        have Hfin : Hid (nerr L x zs = 5 ∧ nres L x zs = []) := by
          have h5 : nerr L x zs = 5 := by rw [Hne.out, hall]; simp
          exact ⟨h5, by simp [nres, h5]⟩
        clear hall Hne hlen hA
        go_enter Tryz.func62, Tryz.ntmps62
        go_wp2_with fail
        refine (leavable_any v L x _ hv hn hs1).mono ?_
        rw [Hl.out]
        rintro e w' ⟨rfl, rfl⟩
        go_wp2_with fail
        refine (Hkey.out _ (Bl.refl _)).mono ?_
        rintro e w1 ⟨g, ms, rfl, hb1, R1⟩
        have HR := (show Hid _ from R1)
        clear R1
        go_wp2_with fail
        refine (eachHasOne_any _ u _ zs _ HR.out.sll (hu.bl hb1) (by simpa using hn) HsR.out hz hw).mono ?_
        rw [Hall.out]
        rintro e w2 ⟨rfl, hb2⟩
        go_wp2
        go_ret2
        exact ⟨_, by rw [Hfin.out.1]; rfl, hb1.trans hb2, by rw [Hfin.out.2]; exact .inl ⟨rfl, rfl⟩⟩
      · have Hall : Hid (((L.map (rm x)).all fun c => c.any fun u => decide (u ∈ zs)) = true) := hall
        have Hfin : Hid (nerr L x zs = 0 ∧ nres L x zs = L.map (rm x)) := by
          have h5 : nerr L x zs = 0 := by rw [Hne.out, hall]; simp
          exact ⟨h5, by simp [nres, h5]⟩
        clear hall Hne hlen hA
        go_enter Tryz.func62, Tryz.ntmps62
        go_wp2_with fail
        refine (leavable_any v L x _ hv hn hs1).mono ?_
        rw [Hl.out]
        rintro e w' ⟨rfl, rfl⟩
        go_wp2_with fail
        refine (Hkey.out _ (Bl.refl _)).mono ?_
        rintro e w1 ⟨g, ms, rfl, hb1, R1⟩
        have HR := (show Hid _ from R1)
        clear R1
        go_wp2_with fail
        refine (eachHasOne_any _ u _ zs _ HR.out.sll (hu.bl hb1) (by simpa using hn) HsR.out hz hw).mono ?_
        rw [Hall.out]
        rintro e w2 ⟨rfl, hb2⟩
        go_wp2
        go_ret2
        exact ⟨_, by rw [Hfin.out.1]; rfl, hb1.trans hb2, by rw [Hfin.out.2]; exact .inr ⟨_, _, _, rfl, HR.out.bl hb2⟩⟩

set_option maxHeartbeats 400000 in
theorem Next_any (v u : Value) (L : List (List Int)) (x : Int) (zs : List Int) (w : World) (hv : Sll w v L) (hu : Sl w u (zs.map (Value.int .i64))) (hn : L.length ≤ 4000000) (hs : ∀ c ∈ L, c.length ≤ 4000000 ∧ wfAll c) (hz : zs.length ≤ 4000000) (hw : wfAll zs) :
    Calls Tryz.prog 23 #[v, .int .i64 x, u] w fun e w' => ∃ r, e = .returned (.tuple #[r, .int .i64 (nerr L x zs)]) ∧ Bl w w' ∧ Outl w.heap.size w' r (nres L x zs) := by
  go_enter Tryz.func23, Tryz.ntmps23
  go_wp2_with fail
  refine (next_any v u L x zs _ hv hu hn hs hz hw).mono ?_
  rintro e w' ⟨r, rfl, hb, ho⟩
  have Ho := (show Hid _ from ho)
  clear ho
  go_wp2
  go_ret2
  exact ⟨_, rfl, hb, Ho.out⟩

end Go.Proofs.YtkgjpfamjedncaaGreat
