-- What a client's doors refuse.
import Derived.Test.YtbghhbpacijmmaaGreatDSt
namespace Go.Proofs.YtbghhbpacijmmaaGreat
open Go.RowKit
attribute [local go_sem ↓] Go.wp_at_zero Go.wp_at_succ

set_option maxRecDepth 100000 in
set_option maxHeartbeats 1000000 in
theorem append_no (p : Nat) (ad : Option Addr) (n c : Nat) (w : World) (hn : n < 1 ∨ 8 < n) (hn1 : n ≤ 1100000000000) :
    Calls Tryz.prog 18 #[.pointer (some ⟨p, 0, none⟩), .slice ad n c] w fun e w' => e = .returned (.tuple #[.int .i64 0, .int .i64 1]) ∧ w' = w := by
  rcases hn with hn | hn
  · have h0 : n = 0 := by omega
    subst h0
    go_enter Tryz.func18, Tryz.ntmps18
    go_wp2
    go_ret2
    exact ⟨rfl, rfl⟩
  · have h1 : ¬ (n : Int) < 1 := by omega
    have h2 : (8 : Int) < n := by omega
    go_enter Tryz.func18, Tryz.ntmps18
    go_wp2
    go_ret2
    exact ⟨rfl, rfl⟩

section
variable {p bm : Nat} {a b c d id : Int} {rs : Value} {ps : List Nat} {K : Nat → Value}
set_option maxRecDepth 100000 in
set_option maxHeartbeats 1000000 in
theorem read_no_in (w : World) (h : Cs w p bm a b c d id rs ps K) (x : Int) (hf : fit a b c d = true) (hx : x < 0 ∨ a * d ≤ x) :
    Calls Tryz.prog 46 #[.pointer (some ⟨p, 0, none⟩), .int .i64 x] w fun e w' => e = .returned (.tuple #[.int .i64 0, .int .i64 2]) ∧ Bl w w' := by
  have h0 := h.c0
  have h1 := h.c1
  have h2 := h.c2
  have h3 := h.c3
  have hl : loc a b c d x = (0, 0, 2) := by simp [loc, hf, hx]
  have HL : Hid (∀ w, Calls Tryz.prog 88 #[.agg #[.int .i64 a, .int .i64 b, .int .i64 c, .int .i64 d], .int .i64 x] w fun e w' => e = .returned (.tuple #[.int .i64 0, .int .i64 0, .int .i64 2]) ∧ Bl w w') := fun w => (locate_any a b c d x w).mono (by rintro e w' ⟨rfl, hb⟩; exact ⟨by rw [hl]; rfl, hb⟩)
  clear hx hf h hl
  go_enter Tryz.func46, Tryz.ntmps46
  go_wp2_with (first | (go_at_call 88; refine (HL.out _).mono ?_; rintro e w' ⟨rfl, hb⟩) | go_in)
  go_wp2
  go_ret2
  exact ⟨rfl, hb⟩

set_option maxRecDepth 100000 in
set_option maxHeartbeats 1000000 in
theorem read_no (w : World) (h : Cs w p bm a b c d id rs ps K) (x : Int) (hf : fit a b c d = true) (hx : x < 0 ∨ a * d ≤ x) :
    Calls Tryz.prog 19 #[.pointer (some ⟨p, 0, none⟩), .int .i64 x] w fun e w' => e = .returned (.tuple #[.int .i64 0, .int .i64 2]) ∧ Bl w w' := by
  have HC := hid (read_no_in w h x hf hx)
  go_enter Tryz.func19, Tryz.ntmps19
  go_wp2_with fail
  refine HC.out.mono ?_
  rintro e w' ⟨rfl, hb⟩
  go_wp2
  go_ret2
  exact ⟨rfl, hb⟩

set_option maxRecDepth 100000 in
set_option maxHeartbeats 1000000 in
theorem fill_no_in (w : World) (h : Cs w p bm a b c d id rs ps K) (x : Int) (hf : fit a b c d = true) (hx : x < 0 ∨ a * d ≤ x) :
    Calls Tryz.prog 47 #[.pointer (some ⟨p, 0, none⟩), .int .i64 x] w fun e w' => e = .returned (.tuple #[.int .i64 0, .int .i64 2]) ∧ Bl w w' := by
  have h0 := h.c0
  have h1 := h.c1
  have h2 := h.c2
  have h3 := h.c3
  have hl : loc a b c d x = (0, 0, 2) := by simp [loc, hf, hx]
  have HL : Hid (∀ w, Calls Tryz.prog 88 #[.agg #[.int .i64 a, .int .i64 b, .int .i64 c, .int .i64 d], .int .i64 x] w fun e w' => e = .returned (.tuple #[.int .i64 0, .int .i64 0, .int .i64 2]) ∧ Bl w w') := fun w => (locate_any a b c d x w).mono (by rintro e w' ⟨rfl, hb⟩; exact ⟨by rw [hl]; rfl, hb⟩)
  clear hx hf h hl
  go_enter Tryz.func47, Tryz.ntmps47
  go_wp2_with (first | (go_at_call 88; refine (HL.out _).mono ?_; rintro e w' ⟨rfl, hb⟩) | go_in)
  go_wp2
  go_ret2
  exact ⟨rfl, hb⟩

set_option maxRecDepth 100000 in
set_option maxHeartbeats 1000000 in
theorem fill_no (w : World) (h : Cs w p bm a b c d id rs ps K) (x : Int) (hf : fit a b c d = true) (hx : x < 0 ∨ a * d ≤ x) :
    Calls Tryz.prog 20 #[.pointer (some ⟨p, 0, none⟩), .int .i64 x] w fun e w' => e = .returned (.tuple #[.int .i64 0, .int .i64 2]) ∧ Bl w w' := by
  have HC := hid (fill_no_in w h x hf hx)
  go_enter Tryz.func20, Tryz.ntmps20
  go_wp2_with fail
  refine HC.out.mono ?_
  rintro e w' ⟨rfl, hb⟩
  go_wp2
  go_ret2
  exact ⟨rfl, hb⟩

set_option maxRecDepth 100000 in
set_option maxHeartbeats 1000000 in
theorem trim_no_in (w : World) (h : Cs w p bm a b c d id rs ps K) (x : Int) (hf : fit a b c d = true) (hx : x < 0 ∨ a * d < x) :
    Calls Tryz.prog 48 #[.pointer (some ⟨p, 0, none⟩), .int .i64 x] w fun e w' => e = .returned (.tuple #[.int .i64 0, .int .i64 2]) ∧ Bl w w' := by
  have h0 := h.c0
  have h3 := h.c3
  obtain ⟨f1, f2, f3, f4⟩ := fit_bd hf
  have hm := mul_bd f1 f2 f3 f4
  clear h hf
  by_cases hx0 : x < 0
  · clear hx
    go_enter Tryz.func48, Tryz.ntmps48
    go_wp2
    go_quiet (fail)
    go_wp2
    go_ret2
    exact ⟨rfl, (Bl.refl _).drewN _⟩
  · have hx : a * d < x := by omega
    have hw : IntKind.i64.wrap (a * d) = a * d := IntWalk.i64_in _ (by omega)
    have hdec : decide (x > a * d) = true := by simpa using hx
    go_enter Tryz.func48, Tryz.ntmps48
    go_wp2
    go_quiet (fail)
    go_wp2
    go_ret2
    exact ⟨rfl, (Bl.refl _).drewN _⟩

set_option maxRecDepth 100000 in
set_option maxHeartbeats 1000000 in
theorem trim_no (w : World) (h : Cs w p bm a b c d id rs ps K) (x : Int) (hf : fit a b c d = true) (hx : x < 0 ∨ a * d < x) :
    Calls Tryz.prog 21 #[.pointer (some ⟨p, 0, none⟩), .int .i64 x] w fun e w' => e = .returned (.tuple #[.int .i64 0, .int .i64 2]) ∧ Bl w w' := by
  have HC := hid (trim_no_in w h x hf hx)
  go_enter Tryz.func21, Tryz.ntmps21
  go_wp2_with fail
  refine HC.out.mono ?_
  rintro e w' ⟨rfl, hb⟩
  go_wp2
  go_ret2
  exact ⟨rfl, hb⟩

set_option maxRecDepth 100000 in
set_option maxHeartbeats 1000000 in
theorem change_no_in (w : World) (h : Cs w p bm a b c d id rs ps K) (x : Int) (hf : fit a b c d = true) (hx : x < 0 ∨ a * b ≤ x) :
    Calls Tryz.prog 49 #[.pointer (some ⟨p, 0, none⟩), .int .i64 x] w fun e w' => e = .returned (.tuple #[.int .i64 0, .int .i64 3]) ∧ Bl w w' := by
  have h0 := h.c0
  have h1 := h.c1
  have h2 := h.c2
  have h3 := h.c3
  have hl : cha a b c d x = (0, 1) := by simp [cha, hf, hx]
  have HL : Hid (∀ w, Calls Tryz.prog 90 #[.agg #[.int .i64 a, .int .i64 b, .int .i64 c, .int .i64 d], .int .i64 x] w fun e w' => e = .returned (.tuple #[.int .i64 0, .int .i64 1]) ∧ Bl w w') := fun w => (chain_any a b c d x w).mono (by rintro e w' ⟨rfl, hb⟩; exact ⟨by rw [hl]; rfl, hb⟩)
  clear hx hf h hl
  go_enter Tryz.func49, Tryz.ntmps49
  go_wp2_with (first | (go_at_call 90; refine (HL.out _).mono ?_; rintro e w' ⟨rfl, hb⟩) | go_in)
  go_wp2
  go_ret2
  exact ⟨rfl, hb⟩

set_option maxRecDepth 100000 in
set_option maxHeartbeats 1000000 in
theorem change_no (w : World) (h : Cs w p bm a b c d id rs ps K) (x : Int) (hf : fit a b c d = true) (hx : x < 0 ∨ a * b ≤ x) :
    Calls Tryz.prog 22 #[.pointer (some ⟨p, 0, none⟩), .int .i64 x] w fun e w' => e = .returned (.tuple #[.int .i64 0, .int .i64 3]) ∧ Bl w w' := by
  have HC := hid (change_no_in w h x hf hx)
  go_enter Tryz.func22, Tryz.ntmps22
  go_wp2_with fail
  refine HC.out.mono ?_
  rintro e w' ⟨rfl, hb⟩
  go_wp2
  go_ret2
  exact ⟨rfl, hb⟩

set_option maxRecDepth 100000 in
set_option maxHeartbeats 1000000 in
theorem result_no_in (w : World) (h : Cs w p bm a b c d id rs ps K) (x : Int) (hx : x < 0 ∨ (ps.length : Int) ≤ x) :
    Calls Tryz.prog 50 #[.pointer (some ⟨p, 0, none⟩), .int .i64 x] w fun e w' => e = .returned (.tuple #[.agg #[.int .i64 0, .int .i64 0, .slice none 0 0], .int .i64 7]) ∧ Bl w w' := by
  have h7 := h.c7
  have hlt := h.at'.lt
  obtain ⟨ad, cc, hrs⟩ : ∃ ad cc, rs = .slice ad ps.length cc := by
    rcases h.own.2 with ⟨rfl, h0⟩ | ⟨g, cap, cur, rfl, _⟩
    · exact ⟨_, _, by rw [h0]⟩
    · exact ⟨_, _, rfl⟩
  subst hrs
  clear h
  by_cases hx0 : x < 0
  · clear hx
    go_enter Tryz.func50, Tryz.ntmps50
    go_wp2
    (try simp only [Exit.inBlock, Exit.then])
    exact bodyPost_ret (v := .tuple #[.agg #[.int .i64 0, .int .i64 0, .slice none 0 0], .int .i64 7]) (by simp [results, Tryz.results50, go_sem]) rfl ⟨rfl, (Bl.refl _).alloc _⟩
  · have hx : (ps.length : Int) ≤ x := by omega
    go_enter Tryz.func50, Tryz.ntmps50
    go_wp2
    (try simp only [Exit.inBlock, Exit.then])
    exact bodyPost_ret (v := .tuple #[.agg #[.int .i64 0, .int .i64 0, .slice none 0 0], .int .i64 7]) (by simp [results, Tryz.results50, go_sem]) rfl ⟨rfl, (Bl.refl _).alloc _⟩

set_option maxRecDepth 100000 in
set_option maxHeartbeats 1000000 in
theorem result_no (w : World) (h : Cs w p bm a b c d id rs ps K) (x : Int) (hx : x < 0 ∨ (ps.length : Int) ≤ x) :
    Calls Tryz.prog 23 #[.pointer (some ⟨p, 0, none⟩), .int .i64 x] w fun e w' => e = .returned (.tuple #[.agg #[.int .i64 0, .int .i64 0, .slice none 0 0], .int .i64 7]) ∧ Bl w w' := by
  have hA := (Bl.refl w).alloc (.cells #[.int .i64 0, .int .i64 0, .slice none 0 0] 43)
  have HC := hid (result_no_in _ (h.bl hA) x hx)
  go_enter Tryz.func23, Tryz.ntmps23
  go_wp2_with fail
  refine HC.out.mono ?_
  rintro e w' ⟨rfl, hb⟩
  have hN := (hb.heap (b := w.heap.size) (by simp)).trans (heap_alloc_new w _)
  have n0 := cell_of_row w' w.heap.size 0 _ 43 (0, 0) hN
  have n1 := cell_of_row w' w.heap.size 1 _ 43 (0, 0) hN
  have n2 := cell_of_row w' w.heap.size 2 _ 43 (0, 0) hN
  have f0 := frozen_of_row w' w.heap.size 0 _ 43 hN
  have f1 := frozen_of_row w' w.heap.size 1 _ 43 hN
  have f2 := frozen_of_row w' w.heap.size 2 _ 43 hN
  go_wp2
  (try simp only [Exit.inBlock, Exit.then])
  exact bodyPost_ret (v := .tuple #[.agg #[.int .i64 0, .int .i64 0, .slice none 0 0], .int .i64 7]) (by simp [results, Tryz.results23, go_sem, n0, n1, n2]) rfl ⟨rfl, Below.setCell (Below.setCell (Below.setCell (hA.trans hb) (Nat.le_refl _) _) (Nat.le_refl _) _) (Nat.le_refl _) _⟩

set_option maxRecDepth 100000 in
set_option maxHeartbeats 1000000 in
theorem give_no (w : World) (h : Cs w p bm a b c d id rs ps K) (x y : Int) (hx : x < 0 ∨ (ps.length : Int) ≤ x) :
    Calls Tryz.prog 25 #[.pointer (some ⟨p, 0, none⟩), .int .i64 x, .int .i64 y] w fun e w' => e = .returned (.int .i64 7) ∧ w' = w := by
  have h8 := h.c8
  have hlook := look_none w bm ps h.mp x hx
  clear h hx
  go_enter Tryz.func25, Tryz.ntmps25
  go_wp2
  go_ret
  exact ⟨rfl, rfl⟩
end
end Go.Proofs.YtbghhbpacijmmaaGreat
