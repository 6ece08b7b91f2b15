/-
  Locate, of the program and of the document: one answer.
-/
import Derived.Test.YtkgjpfamjedncaaGreatBase
namespace Go.Proofs.YtkgjpfamjedncaaGreat
open Go.RowKit


set_option maxHeartbeats 400000 in
theorem ok_yes (n m : Int) (w : World) (h1 : 1 ≤ n) (h2 : n ≤ m) :
    Calls Tryz.prog 107 #[.int .i64 n, .int .i64 m] w fun e w' => e = .returned (.bool true) ∧ w' = w := by
  go_enter Tryz.func107, Tryz.ntmps107
  go_wp2
  go_ret
  exact ⟨rfl, rfl⟩

set_option maxHeartbeats 400000 in
theorem ok_no (n m : Int) (w : World) (h : n < 1 ∨ m < n) :
    Calls Tryz.prog 107 #[.int .i64 n, .int .i64 m] w fun e w' => e = .returned (.bool false) ∧ w' = w := by
  by_cases h1 : 1 ≤ n
  · have h2 : decide (n ≤ m) = false := by simp; omega
    clear h
    go_enter Tryz.func107, Tryz.ntmps107
    go_wp2
    go_ret
    exact ⟨rfl, rfl⟩
  · clear h
    go_enter Tryz.func107, Tryz.ntmps107
    go_wp2
    go_ret
    exact ⟨rfl, rfl⟩

set_option maxHeartbeats 400000 in
theorem valid_yes (a b c d : Int) (w : World) (h1 : 1 ≤ a) (h2 : a ≤ 3) (h3 : 1 ≤ b) (h4 : b ≤ 3) (h5 : 1 ≤ c) (h6 : c ≤ 5) (h7 : c % 2 = 1) (h8 : 1 ≤ d) (h9 : d ≤ 16) :
    Calls Tryz.prog 83 #[.agg #[.int .i64 a, .int .i64 b, .int .i64 c, .int .i64 d]] w fun e w' => e = .returned (.bool true) ∧ Bl w w' := by
  go_enter Tryz.func83, Tryz.ntmps83
  go_wp2_with fail
  refine (ok_yes a 3 _ h1 h2).mono ?_; rintro e w' ⟨rfl, rfl⟩
  go_wp2_with fail
  refine (ok_yes b 3 _ h3 h4).mono ?_; rintro e w' ⟨rfl, rfl⟩
  go_wp2_with fail
  refine (ok_yes c 5 _ h5 h6).mono ?_; rintro e w' ⟨rfl, rfl⟩
  go_wp2_with fail
  refine (ok_yes d 16 _ h8 h9).mono ?_; rintro e w' ⟨rfl, rfl⟩
  go_wp2
  go_ret
  exact ⟨rfl, (Bl.refl _).alloc _⟩
set_option maxHeartbeats 400000 in
theorem valid_no0 (a b c d : Int) (w : World)  (h : a < 1 ∨ 3 < a) :
    Calls Tryz.prog 83 #[.agg #[.int .i64 a, .int .i64 b, .int .i64 c, .int .i64 d]] w fun e w' => e = .returned (.bool false) ∧ Bl w w' := by
  go_enter Tryz.func83, Tryz.ntmps83
  go_wp2_with fail
  refine (ok_no a 3 _ h).mono ?_; rintro e w' ⟨rfl, rfl⟩
  go_wp2
  go_ret
  exact ⟨rfl, (Bl.refl _).alloc _⟩

set_option maxHeartbeats 400000 in
theorem valid_no1 (a b c d : Int) (w : World) (h1 : 1 ≤ a) (h2 : a ≤ 3) (h : b < 1 ∨ 3 < b) :
    Calls Tryz.prog 83 #[.agg #[.int .i64 a, .int .i64 b, .int .i64 c, .int .i64 d]] w fun e w' => e = .returned (.bool false) ∧ Bl w w' := by
  go_enter Tryz.func83, Tryz.ntmps83
  go_wp2_with fail
  refine (ok_yes a 3 _ h1 h2).mono ?_; rintro e w' ⟨rfl, rfl⟩
  go_wp2_with fail
  refine (ok_no b 3 _ h).mono ?_; rintro e w' ⟨rfl, rfl⟩
  go_wp2
  go_ret
  exact ⟨rfl, (Bl.refl _).alloc _⟩

set_option maxHeartbeats 400000 in
theorem valid_no2 (a b c d : Int) (w : World) (h1 : 1 ≤ a) (h2 : a ≤ 3) (h3 : 1 ≤ b) (h4 : b ≤ 3) (h : c < 1 ∨ 5 < c) :
    Calls Tryz.prog 83 #[.agg #[.int .i64 a, .int .i64 b, .int .i64 c, .int .i64 d]] w fun e w' => e = .returned (.bool false) ∧ Bl w w' := by
  go_enter Tryz.func83, Tryz.ntmps83
  go_wp2_with fail
  refine (ok_yes a 3 _ h1 h2).mono ?_; rintro e w' ⟨rfl, rfl⟩
  go_wp2_with fail
  refine (ok_yes b 3 _ h3 h4).mono ?_; rintro e w' ⟨rfl, rfl⟩
  go_wp2_with fail
  refine (ok_no c 5 _ h).mono ?_; rintro e w' ⟨rfl, rfl⟩
  go_wp2
  go_ret
  exact ⟨rfl, (Bl.refl _).alloc _⟩

set_option maxHeartbeats 400000 in
theorem valid_no3 (a b c d : Int) (w : World) (h1 : 1 ≤ a) (h2 : a ≤ 3) (h3 : 1 ≤ b) (h4 : b ≤ 3) (h5 : 1 ≤ c) (h6 : c ≤ 5) (h : ¬ c % 2 = 1) :
    Calls Tryz.prog 83 #[.agg #[.int .i64 a, .int .i64 b, .int .i64 c, .int .i64 d]] w fun e w' => e = .returned (.bool false) ∧ Bl w w' := by
  have hz : (c % 2 == 1) = false := by simp; omega
  clear h
  go_enter Tryz.func83, Tryz.ntmps83
  go_wp2_with fail
  refine (ok_yes a 3 _ h1 h2).mono ?_; rintro e w' ⟨rfl, rfl⟩
  go_wp2_with fail
  refine (ok_yes b 3 _ h3 h4).mono ?_; rintro e w' ⟨rfl, rfl⟩
  go_wp2_with fail
  refine (ok_yes c 5 _ h5 h6).mono ?_; rintro e w' ⟨rfl, rfl⟩
  go_wp2
  go_ret
  exact ⟨rfl, (Bl.refl _).alloc _⟩

set_option maxHeartbeats 400000 in
theorem valid_no4 (a b c d : Int) (w : World) (h1 : 1 ≤ a) (h2 : a ≤ 3) (h3 : 1 ≤ b) (h4 : b ≤ 3) (h5 : 1 ≤ c) (h6 : c ≤ 5) (h7 : c % 2 = 1) (h : d < 1 ∨ 16 < d) :
    Calls Tryz.prog 83 #[.agg #[.int .i64 a, .int .i64 b, .int .i64 c, .int .i64 d]] w fun e w' => e = .returned (.bool false) ∧ Bl w w' := by
  go_enter Tryz.func83, Tryz.ntmps83
  go_wp2_with fail
  refine (ok_yes a 3 _ h1 h2).mono ?_; rintro e w' ⟨rfl, rfl⟩
  go_wp2_with fail
  refine (ok_yes b 3 _ h3 h4).mono ?_; rintro e w' ⟨rfl, rfl⟩
  go_wp2_with fail
  refine (ok_yes c 5 _ h5 h6).mono ?_; rintro e w' ⟨rfl, rfl⟩
  go_wp2_with fail
  refine (ok_no d 16 _ h).mono ?_; rintro e w' ⟨rfl, rfl⟩
  go_wp2
  go_ret
  exact ⟨rfl, (Bl.refl _).alloc _⟩

/-- The settings may be. -/
def fit (a b c d : Int) : Bool := decide ((1 ≤ a ∧ a ≤ 3) ∧ (1 ≤ b ∧ b ≤ 3) ∧ (1 ≤ c ∧ c ≤ 5) ∧ c % 2 = 1 ∧ (1 ≤ d ∧ d ≤ 16))

theorem valid_any (a b c d : Int) (w : World) :
    Calls Tryz.prog 83 #[.agg #[.int .i64 a, .int .i64 b, .int .i64 c, .int .i64 d]] w fun e w' => e = .returned (.bool (fit a b c d)) ∧ Bl w w' := by
  by_cases ha : 1 ≤ a ∧ a ≤ 3
  · by_cases hb : 1 ≤ b ∧ b ≤ 3
    · by_cases hc : 1 ≤ c ∧ c ≤ 5
      · by_cases hm : c % 2 = 1
        · by_cases hd : 1 ≤ d ∧ d ≤ 16
          · rw [show fit a b c d = true from by simp [fit, *]]
            exact valid_yes a b c d w ha.1 ha.2 hb.1 hb.2 hc.1 hc.2 hm hd.1 hd.2
          · rw [show fit a b c d = false from by simp [fit]; omega]
            exact valid_no4 a b c d w ha.1 ha.2 hb.1 hb.2 hc.1 hc.2 hm (by omega)
        · rw [show fit a b c d = false from by simp [fit]; omega]
          exact valid_no3 a b c d w ha.1 ha.2 hb.1 hb.2 hc.1 hc.2 hm
      · rw [show fit a b c d = false from by simp [fit]; omega]
        exact valid_no2 a b c d w ha.1 ha.2 hb.1 hb.2 (by omega)
    · rw [show fit a b c d = false from by simp [fit]; omega]
      exact valid_no1 a b c d w ha.1 ha.2 (by omega)
  · rw [show fit a b c d = false from by simp [fit]; omega]
    exact valid_no0 a b c d w (by omega)

/-- What Locate answers: chain, cell, error. -/
def loc (a b c d x : Int) : Int × Int × Int :=
  if fit a b c d = true then (if x < 0 ∨ a * d ≤ x then (0, 0, 2) else (x % a, x / a, 0)) else (0, 0, 1)

theorem fit_bd {a b c d : Int} (h : fit a b c d = true) : 1 ≤ a ∧ a ≤ 3 ∧ 1 ≤ d ∧ d ≤ 16 := by
  simp [fit] at h; omega

def tup (r : Int × Int × Int) : Ending := .returned (.tuple #[.int .i64 r.1, .int .i64 r.2.1, .int .i64 r.2.2])

theorem mul_bd {a d : Int} (h1 : 1 ≤ a) (h2 : a ≤ 3) (h3 : 1 ≤ d) (h4 : d ≤ 16) : 1 ≤ a * d ∧ a * d ≤ 48 := by
  have := Int.mul_le_mul h2 h4 (by omega) (by omega)
  have := Int.mul_le_mul h1 h3 (by omega) (by omega)
  omega

set_option maxHeartbeats 400000 in
theorem locate_any (a b c d x : Int) (w : World) :
    Calls Tryz.prog 60 #[.agg #[.int .i64 a, .int .i64 b, .int .i64 c, .int .i64 d], .int .i64 x] w fun e w' => e = tup (loc a b c d x) ∧ Bl w w' := by
  cases hf : fit a b c d
  · go_enter Tryz.func60, Tryz.ntmps60
    go_wp2_with fail
    refine (valid_any a b c d _).mono ?_; rintro e w' ⟨rfl, hb⟩
    go_wp2
    go_ret3
    exact ⟨by simp [tup, loc, hf], ((Bl.refl _).alloc _).trans hb⟩
  · obtain ⟨h1, h2, h3, h4⟩ := fit_bd hf
    have hm := mul_bd h1 h2 h3 h4
    by_cases hx : x < 0
    · have hl : Hid (loc a b c d x = (0, 0, 2)) := by simp [Hid, loc, hf, hx]
      go_enter Tryz.func60, Tryz.ntmps60
      go_wp2_with fail
      refine (valid_any a b c d _).mono ?_; rintro e w' ⟨rfl, hb⟩
      have hc0 := (hb.cell (b := w.heap.size) (o := 0) (by simp))
      have hc3 := (hb.cell (b := w.heap.size) (o := 3) (by simp))
      go_wp2
      go_ret3
      exact ⟨by rw [hl.out]; rfl, ((Bl.refl _).alloc _).trans hb⟩
    · by_cases hy : a * d ≤ x
      · have hl : Hid (loc a b c d x = (0, 0, 2)) := by simp [Hid, loc, hf, hy]
        go_enter Tryz.func60, Tryz.ntmps60
        go_wp2_with fail
        refine (valid_any a b c d _).mono ?_; rintro e w' ⟨rfl, hb⟩
        have hc0 := (hb.cell (b := w.heap.size) (o := 0) (by simp))
        have hc3 := (hb.cell (b := w.heap.size) (o := 3) (by simp))
        go_wp2
        go_ret3
        exact ⟨by rw [hl.out]; rfl, ((Bl.refl _).alloc _).trans hb⟩
      · have hl : Hid (loc a b c d x = (x % a, x / a, 0)) := by simp [Hid, loc, hf, hy, hx]
        have hx0 : 0 ≤ x := by omega
        have hx1 : x < 48 := by omega
        have hdec : decide (a * d ≤ x) = false := by simpa using hy
        have ha0 : (a == 0) = false := by simp; omega
        go_enter Tryz.func60, Tryz.ntmps60
        go_wp2_with fail
        refine (valid_any a b c d _).mono ?_; rintro e w' ⟨rfl, hb⟩
        have hc0 := (hb.cell (b := w.heap.size) (o := 0) (by simp))
        have hc3 := (hb.cell (b := w.heap.size) (o := 3) (by simp))
        go_wp2
        go_quiet (fail)
        go_wp2
        go_ret3
        exact ⟨by rw [hl.out]; rfl, (((Bl.refl _).alloc _).trans hb).drewN _⟩

set_option maxHeartbeats 400000 in
theorem Locate_any (a b c d x : Int) (w : World) :
    Calls Tryz.prog 19 #[.agg #[.int .i64 a, .int .i64 b, .int .i64 c, .int .i64 d], .int .i64 x] w fun e w' => e = tup (loc a b c d x) ∧ Bl w w' := by
  obtain ⟨r, hr⟩ : ∃ r, Hid (loc a b c d x = r) := ⟨_, rfl⟩
  rw [hr.out]
  go_enter Tryz.func19, Tryz.ntmps19
  go_wp2_with fail
  refine (locate_any a b c d x _).mono ?_; rw [hr.out]; rintro e w' ⟨rfl, hb⟩
  unfold tup
  go_wp2
  go_ret3
  exact ⟨rfl, ((Bl.refl _).alloc _).trans hb⟩

set_option maxHeartbeats 1000000 in
theorem fits_any (a b c d : Int) (w : World) :
    Calls Tryz.prog 61 #[.agg #[.int .i64 a, .int .i64 b, .int .i64 c, .int .i64 d]] w fun e w' => e = .returned (.bool (fit a b c d)) ∧ Bl w w' := by
  go_enter Tryz.func61, Tryz.ntmps61
  go_wp2
  all_goals
    go_ret
    refine ⟨ret_bool ?_, (Bl.refl _).alloc _⟩
    unfold fit
    first | exact decide_eq_decide.2 (by omega) | exact (decide_eq_false (by omega)).symm

set_option maxHeartbeats 400000 in
theorem locate_ref (a b c d x : Int) (w : World) :
    Calls Tryz.prog 20 #[.agg #[.int .i64 a, .int .i64 b, .int .i64 c, .int .i64 d], .int .i64 x] w fun e w' => e = tup (loc a b c d x) ∧ Bl w w' := by
  cases hf : fit a b c d
  · go_enter Tryz.func20, Tryz.ntmps20
    go_wp2_with fail
    refine (fits_any a b c d _).mono ?_; rintro e w' ⟨rfl, hb⟩
    go_wp2
    go_ret3
    exact ⟨by simp [tup, loc, hf], ((Bl.refl _).alloc _).trans hb⟩
  · obtain ⟨h1, h2, h3, h4⟩ := fit_bd hf
    have hm := mul_bd h1 h2 h3 h4
    by_cases hx : x < 0
    · have hl : Hid (loc a b c d x = (0, 0, 2)) := by simp [Hid, loc, hf, hx]
      go_enter Tryz.func20, Tryz.ntmps20
      go_wp2_with fail
      refine (fits_any a b c d _).mono ?_; rintro e w' ⟨rfl, hb⟩
      go_wp2
      go_ret3
      exact ⟨by rw [hl.out]; rfl, ((Bl.refl _).alloc _).trans hb⟩
    · by_cases hy : a * d ≤ x
      · have hl : Hid (loc a b c d x = (0, 0, 2)) := by simp [Hid, loc, hf, hy]
        go_enter Tryz.func20, Tryz.ntmps20
        go_wp2_with fail
        refine (fits_any a b c d _).mono ?_; rintro e w' ⟨rfl, hb⟩
        have hc0 := (hb.cell (b := w.heap.size) (o := 0) (by simp))
        have hc3 := (hb.cell (b := w.heap.size) (o := 3) (by simp))
        go_wp2
        go_ret3
        exact ⟨by rw [hl.out]; rfl, ((Bl.refl _).alloc _).trans hb⟩
      · have hl : Hid (loc a b c d x = (x % a, x / a, 0)) := by simp [Hid, loc, hf, hy, hx]
        have hx0 : 0 ≤ x := by omega
        have hx1 : x < 48 := by omega
        have hdec : decide (a * d ≤ x) = false := by simpa using hy
        have ha0 : (a == 0) = false := by simp; omega
        go_enter Tryz.func20, Tryz.ntmps20
        go_wp2_with fail
        refine (fits_any a b c d _).mono ?_; rintro e w' ⟨rfl, hb⟩
        have hc0 := (hb.cell (b := w.heap.size) (o := 0) (by simp))
        have hc3 := (hb.cell (b := w.heap.size) (o := 3) (by simp))
        go_wp2
        go_quiet (fail)
        go_wp2
        go_ret3
        exact ⟨by rw [hl.out]; rfl, (((Bl.refl _).alloc _).trans hb).drewN _⟩

end Go.Proofs.YtkgjpfamjedncaaGreat
