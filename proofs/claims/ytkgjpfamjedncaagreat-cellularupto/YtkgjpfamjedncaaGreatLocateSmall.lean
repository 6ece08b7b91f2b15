/-
  Which settings may be; Locate; Chain.
-/
-- The shapes of the records of cells, contents, copies of these.
import Derived.Test.YtkgjpfamjedncaaGreatBaseNum
import Derived.Test.YtkgjpfamjedncaaGreatSplitSplits
namespace Go.Proofs.YtkgjpfamjedncaaGreat
open Go.RowKit


set_option maxHeartbeats 400000 in
theorem ok_yes (n m : Int) (w : World) (h1 : 1 ≤ n) (h2 : n ≤ m) :
    Calls Tryz.prog 107 #[.int .i64 n, .int .i64 m] w fun e w' => e = .returned (.bool true) ∧ w' = w := by
  go_enter Tryz.func107, Tryz.ntmps107
  go_wp2
  go_ret
  exact ⟨rfl, rfl⟩

set_option maxHeartbeats 400000 in
theorem ok_no (n m : Int) (w : World) (h : n < 1 ∨ m < n) :
    Calls Tryz.prog 107 #[.int .i64 n, .int .i64 m] w fun e w' => e = .returned (.bool false) ∧ w' = w := by
  by_cases h1 : 1 ≤ n
  · have h2 : decide (n ≤ m) = false := by simp; omega
    clear h
    go_enter Tryz.func107, Tryz.ntmps107
    go_wp2
    go_ret
    exact ⟨rfl, rfl⟩
  · clear h
    go_enter Tryz.func107, Tryz.ntmps107
    go_wp2
    go_ret
    exact ⟨rfl, rfl⟩

set_option maxHeartbeats 400000 in
theorem valid_yes (a b c d : Int) (w : World) (h1 : 1 ≤ a) (h2 : a ≤ 3) (h3 : 1 ≤ b) (h4 : b ≤ 3) (h5 : 1 ≤ c) (h6 : c ≤ 5) (h7 : c % 2 = 1) (h8 : 1 ≤ d) (h9 : d ≤ 16) :
    Calls Tryz.prog 83 #[.agg #[.int .i64 a, .int .i64 b, .int .i64 c, .int .i64 d]] w fun e w' => e = .returned (.bool true) ∧ Bl w w' := by
  go_enter Tryz.func83, Tryz.ntmps83
  go_wp2_with fail
  refine (ok_yes a 3 _ h1 h2).mono ?_; rintro e w' ⟨rfl, rfl⟩
  go_wp2_with fail
  refine (ok_yes b 3 _ h3 h4).mono ?_; rintro e w' ⟨rfl, rfl⟩
  go_wp2_with fail
  refine (ok_yes c 5 _ h5 h6).mono ?_; rintro e w' ⟨rfl, rfl⟩
  go_wp2_with fail
  refine (ok_yes d 16 _ h8 h9).mono ?_; rintro e w' ⟨rfl, rfl⟩
  go_wp2
  go_ret
  exact ⟨rfl, (Bl.refl _).alloc _⟩
set_option maxHeartbeats 400000 in
theorem valid_no0 (a b c d : Int) (w : World)  (h : a < 1 ∨ 3 < a) :
    Calls Tryz.prog 83 #[.agg #[.int .i64 a, .int .i64 b, .int .i64 c, .int .i64 d]] w fun e w' => e = .returned (.bool false) ∧ Bl w w' := by
  go_enter Tryz.func83, Tryz.ntmps83
  go_wp2_with fail
  refine (ok_no a 3 _ h).mono ?_; rintro e w' ⟨rfl, rfl⟩
  go_wp2
  go_ret
  exact ⟨rfl, (Bl.refl _).alloc _⟩

set_option maxHeartbeats 400000 in
theorem valid_no1 (a b c d : Int) (w : World) (h1 : 1 ≤ a) (h2 : a ≤ 3) (h : b < 1 ∨ 3 < b) :
    Calls Tryz.prog 83 #[.agg #[.int .i64 a, .int .i64 b, .int .i64 c, .int .i64 d]] w fun e w' => e = .returned (.bool false) ∧ Bl w w' := by
  go_enter Tryz.func83, Tryz.ntmps83
  go_wp2_with fail
  refine (ok_yes a 3 _ h1 h2).mono ?_; rintro e w' ⟨rfl, rfl⟩
  go_wp2_with fail
  refine (ok_no b 3 _ h).mono ?_; rintro e w' ⟨rfl, rfl⟩
  go_wp2
  go_ret
  exact ⟨rfl, (Bl.refl _).alloc _⟩

set_option maxHeartbeats 400000 in
theorem valid_no2 (a b c d : Int) (w : World) (h1 : 1 ≤ a) (h2 : a ≤ 3) (h3 : 1 ≤ b) (h4 : b ≤ 3) (h : c < 1 ∨ 5 < c) :
    Calls Tryz.prog 83 #[.agg #[.int .i64 a, .int .i64 b, .int .i64 c, .int .i64 d]] w fun e w' => e = .returned (.bool false) ∧ Bl w w' := by
  go_enter Tryz.func83, Tryz.ntmps83
  go_wp2_with fail
  refine (ok_yes a 3 _ h1 h2).mono ?_; rintro e w' ⟨rfl, rfl⟩
  go_wp2_with fail
  refine (ok_yes b 3 _ h3 h4).mono ?_; rintro e w' ⟨rfl, rfl⟩
  go_wp2_with fail
  refine (ok_no c 5 _ h).mono ?_; rintro e w' ⟨rfl, rfl⟩
  go_wp2
  go_ret
  exact ⟨rfl, (Bl.refl _).alloc _⟩

set_option maxHeartbeats 400000 in
theorem valid_no3 (a b c d : Int) (w : World) (h1 : 1 ≤ a) (h2 : a ≤ 3) (h3 : 1 ≤ b) (h4 : b ≤ 3) (h5 : 1 ≤ c) (h6 : c ≤ 5) (h : ¬ c % 2 = 1) :
    Calls Tryz.prog 83 #[.agg #[.int .i64 a, .int .i64 b, .int .i64 c, .int .i64 d]] w fun e w' => e = .returned (.bool false) ∧ Bl w w' := by
  have hz : (c % 2 == 1) = false := by simp; omega
  clear h
  go_enter Tryz.func83, Tryz.ntmps83
  go_wp2_with fail
  refine (ok_yes a 3 _ h1 h2).mono ?_; rintro e w' ⟨rfl, rfl⟩
  go_wp2_with fail
  refine (ok_yes b 3 _ h3 h4).mono ?_; rintro e w' ⟨rfl, rfl⟩
  go_wp2_with fail
  refine (ok_yes c 5 _ h5 h6).mono ?_; rintro e w' ⟨rfl, rfl⟩
  go_wp2
  go_ret
  exact ⟨rfl, (Bl.refl _).alloc _⟩

set_option maxHeartbeats 400000 in
theorem valid_no4 (a b c d : Int) (w : World) (h1 : 1 ≤ a) (h2 : a ≤ 3) (h3 : 1 ≤ b) (h4 : b ≤ 3) (h5 : 1 ≤ c) (h6 : c ≤ 5) (h7 : c % 2 = 1) (h : d < 1 ∨ 16 < d) :
    Calls Tryz.prog 83 #[.agg #[.int .i64 a, .int .i64 b, .int .i64 c, .int .i64 d]] w fun e w' => e = .returned (.bool false) ∧ Bl w w' := by
  go_enter Tryz.func83, Tryz.ntmps83
  go_wp2_with fail
  refine (ok_yes a 3 _ h1 h2).mono ?_; rintro e w' ⟨rfl, rfl⟩
  go_wp2_with fail
  refine (ok_yes b 3 _ h3 h4).mono ?_; rintro e w' ⟨rfl, rfl⟩
  go_wp2_with fail
  refine (ok_yes c 5 _ h5 h6).mono ?_; rintro e w' ⟨rfl, rfl⟩
  go_wp2_with fail
  refine (ok_no d 16 _ h).mono ?_; rintro e w' ⟨rfl, rfl⟩
  go_wp2
  go_ret
  exact ⟨rfl, (Bl.refl _).alloc _⟩

/-- The settings may be. -/
def fit (a b c d : Int) : Bool := decide ((1 ≤ a ∧ a ≤ 3) ∧ (1 ≤ b ∧ b ≤ 3) ∧ (1 ≤ c ∧ c ≤ 5) ∧ c % 2 = 1 ∧ (1 ≤ d ∧ d ≤ 16))

theorem valid_any (a b c d : Int) (w : World) :
    Calls Tryz.prog 83 #[.agg #[.int .i64 a, .int .i64 b, .int .i64 c, .int .i64 d]] w fun e w' => e = .returned (.bool (fit a b c d)) ∧ Bl w w' := by
  by_cases ha : 1 ≤ a ∧ a ≤ 3
  · by_cases hb : 1 ≤ b ∧ b ≤ 3
    · by_cases hc : 1 ≤ c ∧ c ≤ 5
      · by_cases hm : c % 2 = 1
        · by_cases hd : 1 ≤ d ∧ d ≤ 16
          · rw [show fit a b c d = true from by simp [fit, *]]
            exact valid_yes a b c d w ha.1 ha.2 hb.1 hb.2 hc.1 hc.2 hm hd.1 hd.2
          · rw [show fit a b c d = false from by simp [fit]; omega]
            exact valid_no4 a b c d w ha.1 ha.2 hb.1 hb.2 hc.1 hc.2 hm (by omega)
        · rw [show fit a b c d = false from by simp [fit]; omega]
          exact valid_no3 a b c d w ha.1 ha.2 hb.1 hb.2 hc.1 hc.2 hm
      · rw [show fit a b c d = false from by simp [fit]; omega]
        exact valid_no2 a b c d w ha.1 ha.2 hb.1 hb.2 (by omega)
    · rw [show fit a b c d = false from by simp [fit]; omega]
      exact valid_no1 a b c d w ha.1 ha.2 (by omega)
  · rw [show fit a b c d = false from by simp [fit]; omega]
    exact valid_no0 a b c d w (by omega)

/-- What Locate answers: chain, cell, error. -/
def loc (a b c d x : Int) : Int × Int × Int :=
  if fit a b c d = true then (if x < 0 ∨ a * d ≤ x then (0, 0, 2) else (x % a, x / a, 0)) else (0, 0, 1)

theorem fit_bd {a b c d : Int} (h : fit a b c d = true) : 1 ≤ a ∧ a ≤ 3 ∧ 1 ≤ d ∧ d ≤ 16 := by
  simp [fit] at h; omega

def tup (r : Int × Int × Int) : Ending := .returned (.tuple #[.int .i64 r.1, .int .i64 r.2.1, .int .i64 r.2.2])

theorem mul_bd {a d : Int} (h1 : 1 ≤ a) (h2 : a ≤ 3) (h3 : 1 ≤ d) (h4 : d ≤ 16) : 1 ≤ a * d ∧ a * d ≤ 48 := by
  have := Int.mul_le_mul h2 h4 (by omega) (by omega)
  have := Int.mul_le_mul h1 h3 (by omega) (by omega)
  omega

set_option maxHeartbeats 400000 in
theorem locate_any (a b c d x : Int) (w : World) :
    Calls Tryz.prog 60 #[.agg #[.int .i64 a, .int .i64 b, .int .i64 c, .int .i64 d], .int .i64 x] w fun e w' => e = tup (loc a b c d x) ∧ Bl w w' := by
  cases hf : fit a b c d
  · go_enter Tryz.func60, Tryz.ntmps60
    go_wp2_with fail
    refine (valid_any a b c d _).mono ?_; rintro e w' ⟨rfl, hb⟩
    go_wp2
    go_ret3
    exact ⟨by simp [tup, loc, hf], ((Bl.refl _).alloc _).trans hb⟩
  · obtain ⟨h1, h2, h3, h4⟩ := fit_bd hf
    have hm := mul_bd h1 h2 h3 h4
    by_cases hx : x < 0
    · have hl : Hid (loc a b c d x = (0, 0, 2)) := by simp [Hid, loc, hf, hx]
      go_enter Tryz.func60, Tryz.ntmps60
      go_wp2_with fail
      refine (valid_any a b c d _).mono ?_; rintro e w' ⟨rfl, hb⟩
      have hc0 := (hb.cell (b := w.heap.size) (o := 0) (by simp))
      have hc3 := (hb.cell (b := w.heap.size) (o := 3) (by simp))
      go_wp2
      go_ret3
      exact ⟨by rw [hl.out]; rfl, ((Bl.refl _).alloc _).trans hb⟩
    · by_cases hy : a * d ≤ x
      · have hl : Hid (loc a b c d x = (0, 0, 2)) := by simp [Hid, loc, hf, hy]
        go_enter Tryz.func60, Tryz.ntmps60
        go_wp2_with fail
        refine (valid_any a b c d _).mono ?_; rintro e w' ⟨rfl, hb⟩
        have hc0 := (hb.cell (b := w.heap.size) (o := 0) (by simp))
        have hc3 := (hb.cell (b := w.heap.size) (o := 3) (by simp))
        go_wp2
        go_ret3
        exact ⟨by rw [hl.out]; rfl, ((Bl.refl _).alloc _).trans hb⟩
      · have hl : Hid (loc a b c d x = (x % a, x / a, 0)) := by simp [Hid, loc, hf, hy, hx]
        have hx0 : 0 ≤ x := by omega
        have hx1 : x < 48 := by omega
        have hdec : decide (a * d ≤ x) = false := by simpa using hy
        have ha0 : (a == 0) = false := by simp; omega
        go_enter Tryz.func60, Tryz.ntmps60
        go_wp2_with fail
        refine (valid_any a b c d _).mono ?_; rintro e w' ⟨rfl, hb⟩
        have hc0 := (hb.cell (b := w.heap.size) (o := 0) (by simp))
        have hc3 := (hb.cell (b := w.heap.size) (o := 3) (by simp))
        go_wp2
        go_quiet (fail)
        go_wp2
        go_ret3
        exact ⟨by rw [hl.out]; rfl, (((Bl.refl _).alloc _).trans hb).drewN _⟩

theorem fit_bd2 {a b c d : Int} (h : fit a b c d = true) : 1 ≤ b ∧ b ≤ 3 := by
  simp [fit] at h; omega

/-- Chain: the chain of a unit, and an error. -/
def cha (a b c d u : Int) : Int × Int :=
  if fit a b c d = true then (if u < 0 ∨ a * b ≤ u then (0, 1) else (u / b, 0)) else (0, 1)
def tup2 (r : Int × Int) : Ending := .returned (.tuple #[.int .i64 r.1, .int .i64 r.2])

set_option maxHeartbeats 400000 in
theorem chain_any (a b c d u : Int) (w : World) :
    Calls Tryz.prog 88 #[.agg #[.int .i64 a, .int .i64 b, .int .i64 c, .int .i64 d], .int .i64 u] w fun e w' => e = tup2 (cha a b c d u) ∧ Bl w w' := by
  cases hf : fit a b c d
  · go_enter Tryz.func88, Tryz.ntmps88
    go_wp2_with fail
    refine (valid_any a b c d _).mono ?_; rintro e w' ⟨rfl, hb⟩
    go_wp2
    go_ret2
    exact ⟨by simp [tup2, cha, hf], ((Bl.refl _).alloc _).trans hb⟩
  · obtain ⟨h1, h2, _, _⟩ := fit_bd hf
    obtain ⟨h3, h4⟩ := fit_bd2 hf
    have hm := mul_bd h1 h2 h3 (by omega)
    by_cases hx : u < 0
    · have hl : Hid (cha a b c d u = (0, 1)) := by simp [Hid, cha, hf, hx]
      go_enter Tryz.func88, Tryz.ntmps88
      go_wp2_with fail
      refine (valid_any a b c d _).mono ?_; rintro e w' ⟨rfl, hb⟩
      have hc0 := (hb.cell (b := w.heap.size) (o := 0) (by simp))
      have hc1 := (hb.cell (b := w.heap.size) (o := 1) (by simp))
      go_wp2
      go_ret2
      exact ⟨by rw [hl.out]; rfl, ((Bl.refl _).alloc _).trans hb⟩
    · by_cases hy : a * b ≤ u
      · have hl : Hid (cha a b c d u = (0, 1)) := by simp [Hid, cha, hf, hy]
        go_enter Tryz.func88, Tryz.ntmps88
        go_wp2_with fail
        refine (valid_any a b c d _).mono ?_; rintro e w' ⟨rfl, hb⟩
        have hc0 := (hb.cell (b := w.heap.size) (o := 0) (by simp))
        have hc1 := (hb.cell (b := w.heap.size) (o := 1) (by simp))
        go_wp2
        go_ret2
        exact ⟨by rw [hl.out]; rfl, ((Bl.refl _).alloc _).trans hb⟩
      · have hl : Hid (cha a b c d u = (u / b, 0)) := by simp [Hid, cha, hf, hy, hx]
        have hx0 : 0 ≤ u := by omega
        have hx1 : u < 48 := by omega
        have hdec : decide (a * b ≤ u) = false := by simpa using hy
        have ha0 : (b == 0) = false := by simp; omega
        go_enter Tryz.func88, Tryz.ntmps88
        go_wp2_with fail
        refine (valid_any a b c d _).mono ?_; rintro e w' ⟨rfl, hb⟩
        have hc0 := (hb.cell (b := w.heap.size) (o := 0) (by simp))
        have hc1 := (hb.cell (b := w.heap.size) (o := 1) (by simp))
        go_wp2
        go_ret2
        exact ⟨by rw [hl.out]; rfl, ((Bl.refl _).alloc _).trans hb⟩
end Go.Proofs.YtkgjpfamjedncaaGreat

namespace Go.Proofs.YtkgjpfamjedncaaGreat
open Go.RowKit
attribute [local go_sem ↓] Go.wp_at_zero Go.wp_at_succ

/-- The shapes of the records of cells. -/
def shs : List (Int × Int × Int) := [(1, 1, 0), (2, 2, 0), (3, 5, 8)]
set_option maxRecDepth 100000 in
set_option maxHeartbeats 400000 in
theorem shapes_any (w : World) : Calls Tryz.prog 90 #[] w fun e w' => e = .returned (.slice (some ⟨w.heap.size, 0, none⟩) 3 3) ∧ Shapes w' w.heap.size 0 shs ∧ Bl w w' := by
  go_enter Tryz.func90, Tryz.ntmps90
  go_wp2
  go_ret
  refine ⟨rfl, ⟨by simp, fun j h => ?_⟩, (Bl.refl _).alloc _⟩
  have hj : j = 0 ∨ j = 1 ∨ j = 2 := by simp [shs] at h; omega
  rcases hj with rfl | rfl | rfl <;> simp [shs, go_sem]

/-- May this be a content? -/
def isC (kd : Int) (n : Nat) : Bool := if kd = 8 then decide (1 ≤ n ∧ n ≤ 8) else if kd = 9 then decide (n = 0) else false
set_option maxRecDepth 100000 in
set_option maxHeartbeats 400000 in
theorem isContent_any (kd cl ca : Int) (a : Option Addr) (n c : Nat) (w : World) (hn : n ≤ 40000000) : Calls Tryz.prog 98 #[.agg #[.int .i64 kd, .int .i64 cl, .int .i64 ca, .slice a n c]] w fun e w' => e = .returned (.bool (isC kd n)) ∧ Bl w w' := by
  by_cases h8 : kd = 8
  · subst h8
    by_cases h1 : 1 ≤ n
    · by_cases h2 : n ≤ 8
      all_goals
        have F : Hid (isC 8 n = decide (n ≤ 8)) := by simp [Hid, isC]; omega
        go_enter Tryz.func98, Tryz.ntmps98
        go_wp2
        go_ret
        exact ⟨ret_bool (by rw [F.out]; simp; try omega), (Bl.refl _).alloc _⟩
    · have F : Hid (isC 8 n = false) := by simp [Hid, isC]; omega
      have hn0 : n = 0 := by omega
      subst hn0
      go_enter Tryz.func98, Tryz.ntmps98
      go_wp2
      go_ret
      exact ⟨ret_bool (by rw [F.out]), (Bl.refl _).alloc _⟩
  · by_cases h9 : kd = 9
    · subst h9
      clear h8
      by_cases hz : n = 0
      · subst hz
        go_enter Tryz.func98, Tryz.ntmps98
        go_wp2
        go_ret
        exact ⟨ret_bool rfl, (Bl.refl _).alloc _⟩
      · have F : Hid (isC 9 n = false) := by simp [Hid, isC, hz]
        have e0 : ((n : Int) == 0) = false := by simpa using hz
        go_enter Tryz.func98, Tryz.ntmps98
        go_wp2
        go_ret
        exact ⟨ret_bool (by rw [F.out]), (Bl.refl _).alloc _⟩
    · have F : Hid (isC kd n = false) := by simp [Hid, isC, h8, h9]
      have e8 : (kd == 8) = false := by simpa using h8
      have e9 : (kd == 9) = false := by simpa using h9
      clear h8 h9
      go_enter Tryz.func98, Tryz.ntmps98
      go_wp2
      go_ret
      exact ⟨ret_bool F.out.symm, (Bl.refl _).alloc _⟩

set_option maxRecDepth 100000 in
set_option maxHeartbeats 400000 in
theorem copied_any (kd cl ca : Int) (v : Value) (ys : List Int) (w : World) (hv : Bs w v (ys.map B8)) (hl : ys.length ≤ 40000000) :
    Calls Tryz.prog 114 #[.agg #[.int .i64 kd, .int .i64 cl, .int .i64 ca, v]] w fun e w' => ∃ v', e = .returned (.agg #[.int .i64 kd, .int .i64 cl, .int .i64 ca, v']) ∧ Bl w w' ∧ w'.ownsRow w.heap.size 5 1 v' ys.length (ys.map B8) := by
  obtain ⟨a, c, e⟩ := hv.len
  rw [List.length_map] at e
  subst e
  have Hv := hid hv
  clear hv
  go_enter Tryz.func114, Tryz.ntmps114
  have bW : Bl w ((w.alloc (.cells #[.int .i64 kd, .int .i64 cl, .int .i64 ca, .slice a ys.length c] 42)).alloc (.cells #[.int .i64 0, .int .i64 0, .int .i64 0, .slice none 0 0] 42)) := ((Bl.refl w).alloc _).alloc _
  have hA := (Below.heap_alloc (w.alloc (.cells #[.int .i64 kd, .int .i64 cl, .int .i64 ca, .slice a ys.length c] 42)) (.cells #[.int .i64 0, .int .i64 0, .int .i64 0, .slice none 0 0] 42) w.heap.size (by simp)).trans (heap_alloc_new w _)
  have hB : ((w.alloc (.cells #[.int .i64 kd, .int .i64 cl, .int .i64 ca, .slice a ys.length c] 42)).alloc (.cells #[.int .i64 0, .int .i64 0, .int .i64 0, .slice none 0 0] 42)).heap[w.heap.size + 1]? = some (.cells #[.int .i64 0, .int .i64 0, .int .i64 0, .slice none 0 0] 42 (0, 0)) := by
    have := heap_alloc_new (w.alloc (.cells #[.int .i64 kd, .int .i64 cl, .int .i64 ca, .slice a ys.length c] 42)) (.cells #[.int .i64 0, .int .i64 0, .int .i64 0, .slice none 0 0] 42)
    simpa using this
  have BW := hid bW
  have HA := hid hA
  have HB := hid hB
  clear bW hA hB
  go_wp2_with fail
  refine (clone_any _ ys _ (Hv.out.bl BW.out) hl).mono ?_
  rintro e w2 ⟨vv, rfl, b2, hv2⟩
  obtain ⟨va, vc, ev⟩ : ∃ a c, vv = .slice a ys.length c := by
    obtain ⟨a', c', e'⟩ := (ownsRow_sl hv2).len
    rw [ownsRow_len hv2] at e'
    exact ⟨a', c', e'⟩
  subst ev
  have lB := (Array.getElem?_eq_some_iff.1 HB.out).1
  have HA2 := hid ((b2.heap (Nat.lt_trans (Nat.lt_succ_self _) lB)).trans HA.out)
  have HB2 := hid ((b2.heap lB).trans HB.out)
  have Hv2 := hid hv2
  have Hbl2 := hid (BW.out.trans b2)
  have hsz := BW.out.lt
  have a0 := cell_of_row w2 w.heap.size 0 _ 42 (0, 0) HA2.out
  have a1 := cell_of_row w2 w.heap.size 1 _ 42 (0, 0) HA2.out
  have a2 := cell_of_row w2 w.heap.size 2 _ 42 (0, 0) HA2.out
  have a3 := cell_of_row w2 w.heap.size 3 _ 42 (0, 0) HA2.out
  have f3 := frozen_of_row w2 w.heap.size 3 _ 42 HA2.out
  have p0 := cell_of_row w2 (w.heap.size + 1) 0 _ 42 (0, 0) HB2.out
  have p1 := cell_of_row w2 (w.heap.size + 1) 1 _ 42 (0, 0) HB2.out
  have p2 := cell_of_row w2 (w.heap.size + 1) 2 _ 42 (0, 0) HB2.out
  have p3 := cell_of_row w2 (w.heap.size + 1) 3 _ 42 (0, 0) HB2.out
  have g0 := frozen_of_row w2 (w.heap.size + 1) 0 _ 42 HB2.out
  have g1 := frozen_of_row w2 (w.heap.size + 1) 1 _ 42 HB2.out
  have g2 := frozen_of_row w2 (w.heap.size + 1) 2 _ 42 HB2.out
  have g3 := frozen_of_row w2 (w.heap.size + 1) 3 _ 42 HB2.out
  simp at a0 a1 a2 a3 p0 p1 p2 p3
  clear hv2 b2 BW HA HB lB
  go_wp2
  have F : Only (fun b => b = w.heap.size ∨ b = w.heap.size + 1) w2 _ := (((((Only.refl (fun b => b = w.heap.size ∨ b = w.heap.size + 1) w2).setCell ⟨w.heap.size, 3, none⟩ (.inl (.inl rfl)) (.slice va ys.length vc)).setCell ⟨w.heap.size + 1, 0, none⟩ (.inl (.inr rfl)) (.int .i64 kd)).setCell ⟨w.heap.size + 1, 1, none⟩ (.inl (.inr rfl)) (.int .i64 cl)).setCell ⟨w.heap.size + 1, 2, none⟩ (.inl (.inr rfl)) (.int .i64 ca)).setCell ⟨w.heap.size + 1, 3, none⟩ (.inl (.inr rfl)) (.slice va ys.length vc)
  refine bodyPost_ret (v := .agg #[.int .i64 kd, .int .i64 cl, .int .i64 ca, .slice va ys.length vc]) (by simp [results, Tryz.results114, go_sem, p0, p1, p2, p3]) rfl ⟨_, rfl, ?_, ?_⟩
  · exact Hbl2.out.trans_only F (fun n hn => by rcases hn with h | h <;> omega)
  · have this := ownsRow_base (base' := w.heap.size) Hv2.out (fun b hb' => Nat.le_trans hsz (Hv2.out.lt b hb').1)
    refine F.owns this fun b hb' e => ?_
    rcases e with e | e
    · exact own_ne_block this HA2.out (by decide) (by rw [hb', e])
    · exact own_ne_block this HB2.out (by decide) (by rw [hb', e])
end Go.Proofs.YtkgjpfamjedncaaGreat
