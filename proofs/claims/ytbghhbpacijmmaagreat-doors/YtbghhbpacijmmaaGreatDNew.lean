-- Settings; the first layout; a client is made; a node that may not be is refused.
import Derived.Test.YtbghhbpacijmmaaGreatDSt
namespace Go.Proofs.YtbghhbpacijmmaaGreat
open Go.RowKit
attribute [local go_sem ↓] Go.wp_at_zero Go.wp_at_succ

abbrev cfg (a b c d : Int) : Value := .agg #[.int .i64 a, .int .i64 b, .int .i64 c, .int .i64 d]
abbrev inI (x : Int) : Prop := -9223372036854775808 ≤ x ∧ x ≤ 9223372036854775807

set_option maxRecDepth 100000 in
set_option maxHeartbeats 1000000 in
theorem settings_any (c u v s : Int) (w : World) (h1 : inI c) (h2 : inI u) (h3 : inI v) (h4 : inI s) :
    Calls Tryz.prog 14 #[.int .i64 c, .int .i64 u, .int .i64 v, .int .i64 s] w fun e w' => e = .returned (cfg (1 + pk c 3) (1 + pk u 3) (1 + 2 * pk v 3) (1 + pk s 5)) ∧ Bl w w' := by
  have P1 := hid (fun w => pick_any c 3 w h1.1 h1.2 (by decide) (by decide))
  have P2 := hid (fun w => pick_any u 3 w h2.1 h2.2 (by decide) (by decide))
  have P3 := hid (fun w => pick_any v 3 w h3.1 h3.2 (by decide) (by decide))
  have P4 := hid (fun w => pick_any s 5 w h4.1 h4.2 (by decide) (by decide))
  have r1 := pk_range c 3 (by decide)
  have r2 := pk_range u 3 (by decide)
  have r3 := pk_range v 3 (by decide)
  have r4 := pk_range s 5 (by decide)
  go_enter Tryz.func14, Tryz.ntmps14
  go_wp2_with fail
  refine (P1.out _).mono ?_
  rintro e w' ⟨rfl, rfl⟩
  go_wp2_with fail
  refine (P2.out _).mono ?_
  rintro e w' ⟨rfl, rfl⟩
  go_wp2_with fail
  refine (P3.out _).mono ?_
  rintro e w' ⟨rfl, rfl⟩
  go_wp2_with fail
  refine (P4.out _).mono ?_
  rintro e w' ⟨rfl, rfl⟩
  go_wp2
  (try simp only [Exit.inBlock, Exit.then])
  exact bodyPost_ret (v := cfg (1 + pk c 3) (1 + pk u 3) (1 + 2 * pk v 3) (1 + pk s 5)) (by simp [results, Tryz.results14, go_sem, cfg]) rfl ⟨rfl, (Bl.refl _).alloc _⟩

theorem div_bd {n m k : Nat} (h1 : 1 ≤ m) (h2 : m ≤ 3) (h : (k : Int) < n * m) : Int.tdiv (k : Int) (m : Int) = ((k / m : Nat) : Int) ∧ k / m < n := by
  refine ⟨by rw [Int.tdiv_eq_ediv_of_nonneg (by omega)]; rfl, ?_⟩
  have h' : k < n * m := by exact_mod_cast h
  exact (Nat.div_lt_iff_lt_mul (by omega)).2 h'

set_option maxRecDepth 100000 in
set_option maxHeartbeats 4000000 in
theorem first_any (n m : Nat) (c d : Int) (w : World) (h1 : 1 ≤ n) (h2 : n ≤ 3) (h3 : 1 ≤ m) (h4 : m ≤ 3) :
    Calls Tryz.prog 81 #[cfg n m c d] w fun e w' => ∃ g, e = .returned (.slice (some ⟨g, 0, none⟩) n n) ∧ Bl w w' := by
  obtain ⟨i24, hi, hz0, hz1, hz2⟩ := info_parts Tryz.info24
  obtain ⟨i3, ji, jz0, jz1, jz2⟩ := info_parts Tryz.info3
  have hby : Hid (i24.bytes * n ≤ 281474976710656) := by rw [hz2]; unfold Hid; omega
  have hml : Hid (n ≤ maxLen) := by unfold Hid maxLen; omega
  have hmul : (1 : Int) ≤ (n : Int) * (m : Int) ∧ (n : Int) * (m : Int) ≤ 48 := mul_bd (by omega) (by omega) (by omega) (by omega)
  have hm0 : ((m : Int) == 0) = false := by simp; omega
  obtain ⟨W0, hW0⟩ : ∃ W, W = w.alloc (.cells #[.int .i64 n, .int .i64 m, .int .i64 c, .int .i64 d] 27) := ⟨_, rfl⟩
  have hbW : Bl w W0 := by rw [hW0]; exact (Bl.refl _).alloc _
  have hNW : W0.heap[w.heap.size]? = some (.cells #[.int .i64 n, .int .i64 m, .int .i64 c, .int .i64 d] 27 (0, 0)) := by rw [hW0]; exact heap_alloc_new w _
  have hsW : W0.heap.size = w.heap.size + 1 := by rw [hW0]; simp
  go_enter Tryz.func81, Tryz.ntmps81
  go_wp2_with (at_make; refine wpList_make_full _ rfl _ _ 89 rfl W0.heap.size 24 i24 _ 1 Tryz.underlying89 hi hz0 hz1 _ _ _ _ n rfl rfl rfl rfl hby.out hml.out (by rw [hW0]; simp) ?_)
  intro w1 hown hgrow
  rw [← hW0] at hgrow
  rw [← hsW] at hown
  have hbl : Bl W0 w1 := (Only.of_grown hgrow).to_bl (by simp)
  have R0 : Rowy W0.heap.size w1 W0.heap.size n _ _ := Rowy.made (by simpa [toList_madeCells_one] using hown)
  rw [← hsW]
  clear hown hgrow hW0
  have HsW := hid hsW
  clear hsW
  have c0 : w1.cell? ⟨w.heap.size, 0, none⟩ = some (.int .i64 n) := (hbl.cell (b := w.heap.size) (o := 0) (by have := HsW.out; omega)).trans (cell_of_row W0 w.heap.size 0 _ 27 (0, 0) hNW)
  have c1 : w1.cell? ⟨w.heap.size, 1, none⟩ = some (.int .i64 m) := (hbl.cell (b := w.heap.size) (o := 1) (by have := HsW.out; omega)).trans (cell_of_row W0 w.heap.size 1 _ 27 (0, 0) hNW)
  go_wp2
  go_loopw [14] (fun i wr => ∃ (k : Nat) (ms : List Value) (R : List (List Int)), (k : Int) ≤ n * m ∧ i = .int .i64 k ∧ Bl W0 wr ∧ Rowy W0.heap.size wr W0.heap.size n ms R ∧ ∀ r ∈ R, r.length ≤ k) (fun i _ => (n * m : Nat) - (intOf i).toNat)
  case atStart => exact ⟨0, _, _, by omega, rfl, hbl, R0, by simp⟩
  case round =>
    clear hbl R0 c0 c1
    obtain ⟨k, ms, R, hk, rfl, hbl, HR, hRl⟩ := hrel
    have c0 : wr.cell? ⟨w.heap.size, 0, none⟩ = some (.int .i64 n) := (hbl.cell (b := w.heap.size) (o := 0) (by have := HsW.out; omega)).trans (cell_of_row W0 w.heap.size 0 _ 27 (0, 0) hNW)
    have c1 : wr.cell? ⟨w.heap.size, 1, none⟩ = some (.int .i64 m) := (hbl.cell (b := w.heap.size) (o := 1) (by have := HsW.out; omega)).trans (cell_of_row W0 w.heap.size 1 _ 27 (0, 0) hNW)
    by_cases hlt : (k : Int) < n * m
    · obtain ⟨hq, hqn⟩ := div_bd h3 h4 hlt
      have hkN : Hid (k < n * m) := by unfold Hid; exact_mod_cast hlt
      generalize k / m = q at hq hqn
      have hmk : q < ms.length := by rw [HR.mlen]; exact hqn
      have hRk : q < R.length := by rw [HR.len]; exact hqn
      have hck := HR.own.cellAt q (by omega)
      rw [List.getElem?_eq_getElem hmk] at hck
      have hrow := HR.row q hmk hRk
      have hle := hRl _ (List.getElem_mem hRk)
      generalize hmm : ms[q] = mk at *
      have Hmm := hid hmm
      clear hmm
      have HR := hid HR
      generalize hrr : R[q] = rr at *
      have Hrr := hid hrr
      clear hrr
      have Hrow := hid hrow
      clear hrow
      have HRl := hid hRl
      clear hRl
      have hkk : (k : Int) ≤ 48 := by omega
      have hby2 : Hid ((rr.length + 1) * 8 ≤ 140737488355328) := by unfold Hid; omega
      have hml2 : Hid (rr.length + 1 ≤ maxLen) := by unfold Hid maxLen; omega
      have hlt2 := hbl.lt
      have hq0 : (0 : Int) ≤ (q : Int) := by omega
      have hqi : (q : Int) < n := by omega
      go_wp2_with (at_builtin; refine wpList_append_lies _ rfl _ _ 24 rfl W0.heap.size 3 i3 (.int .i64 0) 1 8 Tryz.underlying24 ji jz0 jz1 jz2 rfl (by decide) mk rr.length _ rfl (Hrow.out.alloc _) ⟨wr.heap.size, 0, none⟩ 1 1 [.int .i64 k] rfl rfl (cell_one_new _ _ _) (by simp [Value.oneCell']) (by decide) hml2.out hby2.out (by simp; omega) (wr.heap.size + 1) (by simp) ?_)
      intro g' cap w1 hown' hgrow hat hlt'
      have HP := HR.out.pushed hbl hqn hmk hRk Hmm.out Hrr.out hgrow hat hown'
      obtain ⟨hc1, hf1, R1, b1⟩ := HP
      have HR1 := hid R1
      have Hb1 := hid b1
      clear hown' hgrow hat Hrow R1 b1 Hmm hck
      go_wp2
      go_roundw
      case rel => exact ⟨k + 1, _, _, by omega, by go_num, Hb1.out, HR1.out, fun r hr => by
        rcases List.mem_or_eq_of_mem_set hr with h | h
        · exact Nat.le_succ_of_le (HRl.out r h)
        · rw [h]; simp; omega⟩
      case measure => have := hkN.out; simp [intOf]; omega
    · go_wp2
      go_ret
      exact ⟨⟨W0.heap.size, rfl⟩, hbW.trans hbl⟩

set_option maxRecDepth 100000 in
set_option maxHeartbeats 1000000 in
theorem new_no (a b c d x : Int) (w : World) (h : fit a b c d = false ∨ x < 1000 ∨ 1099 < x) :
    Calls Tryz.prog 43 #[cfg a b c d, .int .i64 x] w fun e w' => e = .returned (.tuple #[.pointer none, .int .i64 1]) ∧ Bl w w' := by
  have HV := hid (valid_any a b c d)
  have hA := (Bl.refl w).alloc (.cells #[.int .i64 a, .int .i64 b, .int .i64 c, .int .i64 d] 27)
  cases hf : fit a b c d
  · rw [hf] at HV
    go_enter Tryz.func43, Tryz.ntmps43
    go_wp2_with fail
    refine (HV.out _).mono ?_
    rintro e w' ⟨rfl, hb⟩
    go_wp2
    go_ret2
    exact ⟨rfl, hA.trans hb⟩
  · rw [hf] at HV
    have hx : x < 1000 ∨ 1099 < x := by simpa [hf] using h
    clear h
    by_cases h0 : x < 1000
    · clear hx
      go_enter Tryz.func43, Tryz.ntmps43
      go_wp2_with fail
      refine (HV.out _).mono ?_
      rintro e w' ⟨rfl, hb⟩
      go_wp2
      go_ret2
      exact ⟨rfl, hA.trans hb⟩
    · have h1 : 1099 < x := by omega
      clear hx
      go_enter Tryz.func43, Tryz.ntmps43
      go_wp2_with fail
      refine (HV.out _).mono ?_
      rintro e w' ⟨rfl, hb⟩
      go_wp2
      go_ret2
      exact ⟨rfl, hA.trans hb⟩

set_option maxRecDepth 100000 in
set_option maxHeartbeats 1000000 in
theorem newClient_no (a b c d x : Int) (w : World) (h : fit a b c d = false ∨ x < 1000 ∨ 1099 < x) :
    Calls Tryz.prog 16 #[cfg a b c d, .int .i64 x] w fun e w' => e = .returned (.tuple #[.pointer none, .int .i64 1]) ∧ Bl w w' := by
  have HN := hid (fun w => new_no a b c d x w h)
  have hA := (Bl.refl w).alloc (.cells #[.int .i64 a, .int .i64 b, .int .i64 c, .int .i64 d] 27)
  clear h
  go_enter Tryz.func16, Tryz.ntmps16
  go_wp2_with fail
  refine (HN.out _).mono ?_
  rintro e w' ⟨rfl, hb⟩
  go_wp2
  go_ret2
  exact ⟨rfl, hA.trans hb⟩

set_option maxRecDepth 100000 in
set_option maxHeartbeats 1000000 in
theorem cellsOpen_no (a b c d x : Int) (v : Value) (w : World) (h : cha a b c d x = (0, 1)) :
    Calls Tryz.prog 146 #[cfg a b c d, .int .i64 x, v] w fun e w' => e = .returned (.tuple #[.pointer none, .int .i64 1]) ∧ Bl w w' := by
  have HC : Hid (∀ w, Calls Tryz.prog 90 #[cfg a b c d, .int .i64 x] w fun e w' => e = .returned (.tuple #[.int .i64 0, .int .i64 1]) ∧ Bl w w') := fun w => (chain_any a b c d x w).mono (by rintro e w' ⟨rfl, hb⟩; exact ⟨by rw [h]; rfl, hb⟩)
  have hA := (Bl.refl w).alloc (.cells #[.int .i64 a, .int .i64 b, .int .i64 c, .int .i64 d] 27)
  clear h
  go_enter Tryz.func146, Tryz.ntmps146
  go_wp2_with fail
  refine (HC.out _).mono ?_
  rintro e w' ⟨rfl, hb⟩
  go_wp2
  go_ret2
  exact ⟨rfl, hA.trans hb⟩

set_option maxRecDepth 100000 in
set_option maxHeartbeats 1000000 in
theorem openUnit_no (a b c d x : Int) (v : Value) (w : World) (h : cha a b c d x = (0, 1)) :
    Calls Tryz.prog 82 #[cfg a b c d, .int .i64 x, v] w fun e w' => (∃ u, e = .returned (.tuple #[u, .int .i64 1])) ∧ Bl w w' := by
  have HC := hid (fun w => cellsOpen_no a b c d x v w h)
  have hA := (Bl.refl w).alloc (.cells #[.int .i64 a, .int .i64 b, .int .i64 c, .int .i64 d] 27)
  clear h
  go_enter Tryz.func82, Tryz.ntmps82
  go_wp2_with fail
  refine (HC.out _).mono ?_
  rintro e w' ⟨rfl, hb⟩
  go_wp2
  go_ret2
  exact ⟨⟨_, rfl⟩, hA.trans hb⟩

set_option maxRecDepth 100000 in
set_option maxHeartbeats 1000000 in
theorem isVoter_no (a b c d x : Int) (w : World) (hc : 1 ≤ c) (hc1 : c ≤ 5) (h : x < 100 ∨ 100 + c ≤ x) :
    Calls Tryz.prog 83 #[cfg a b c d, .int .i64 x] w fun e w' => e = .returned (.bool false) ∧ Bl w w' := by
  have hA := (Bl.refl w).alloc (.cells #[.int .i64 a, .int .i64 b, .int .i64 c, .int .i64 d] 27)
  by_cases h0 : x < 100
  · clear h
    go_enter Tryz.func83, Tryz.ntmps83
    go_wp2
    go_ret
    exact ⟨rfl, hA⟩
  · have h : 100 + c ≤ x := by omega
    go_enter Tryz.func83, Tryz.ntmps83
    go_wp2
    go_ret
    exact ⟨ret_bool (by simp; omega), hA⟩

set_option maxRecDepth 100000 in
set_option maxHeartbeats 1000000 in
theorem nodesOpen_no (a b c d x : Int) (w : World) (h : fit a b c d = false ∨ (1 ≤ c ∧ c ≤ 5 ∧ (x < 100 ∨ 100 + c ≤ x) ∧ cha a b c d x = (0, 1))) :
    Calls Tryz.prog 44 #[cfg a b c d, .int .i64 x, .slice none 0 0] w fun e w' => e = .returned (.tuple #[.pointer none, .int .i64 1]) ∧ Bl w w' := by
  have HV := hid (valid_any a b c d)
  have hA := (Bl.refl w).alloc (.cells #[.int .i64 a, .int .i64 b, .int .i64 c, .int .i64 d] 27)
  have hN : (w.alloc (.cells #[.int .i64 a, .int .i64 b, .int .i64 c, .int .i64 d] 27)).heap[w.heap.size]? = some (.cells #[.int .i64 a, .int .i64 b, .int .i64 c, .int .i64 d] 27 (0, 0)) := heap_alloc_new w _
  cases hf : fit a b c d
  · rw [hf] at HV
    clear hN
    go_enter Tryz.func44, Tryz.ntmps44
    go_wp2_with fail
    refine (HV.out _).mono ?_
    rintro e w' ⟨rfl, hb⟩
    go_wp2
    go_ret2
    exact ⟨rfl, hA.trans hb⟩
  · rw [hf] at HV
    simp only [hf, Bool.true_eq_false, false_or] at h
    obtain ⟨h1, h2, h3, h4⟩ := h
    have HI := hid (fun w => isVoter_no a b c d x w h1 h2 h3)
    have HO := hid (fun v w => openUnit_no a b c d x v w h4)
    clear h3 h4
    go_enter Tryz.func44, Tryz.ntmps44
    go_wp2_with fail
    refine (HV.out _).mono ?_
    rintro e w' ⟨rfl, hb⟩
    have hN1 := (hb.heap (b := w.heap.size) (by simp)).trans hN
    have c0 : w'.cell? ⟨w.heap.size, 0, none⟩ = some (.int .i64 a) := cell_of_row w' w.heap.size 0 _ 27 (0, 0) hN1
    have c1 : w'.cell? ⟨w.heap.size, 1, none⟩ = some (.int .i64 b) := cell_of_row w' w.heap.size 1 _ 27 (0, 0) hN1
    have c2 : w'.cell? ⟨w.heap.size, 2, none⟩ = some (.int .i64 c) := cell_of_row w' w.heap.size 2 _ 27 (0, 0) hN1
    have c3 : w'.cell? ⟨w.heap.size, 3, none⟩ = some (.int .i64 d) := cell_of_row w' w.heap.size 3 _ 27 (0, 0) hN1
    have HN1 := hid hN1
    have hlt : w.heap.size < w'.heap.size := (Array.getElem?_eq_some_iff.1 hN1).1
    clear hN hN1
    go_wp2_with fail
    refine (HI.out _).mono ?_
    rintro e w2 ⟨rfl, hb2⟩
    have hN2 := (hb2.heap hlt).trans HN1.out
    have d0 : w2.cell? ⟨w.heap.size, 0, none⟩ = some (.int .i64 a) := cell_of_row w2 w.heap.size 0 _ 27 (0, 0) hN2
    have d1 : w2.cell? ⟨w.heap.size, 1, none⟩ = some (.int .i64 b) := cell_of_row w2 w.heap.size 1 _ 27 (0, 0) hN2
    have d2 : w2.cell? ⟨w.heap.size, 2, none⟩ = some (.int .i64 c) := cell_of_row w2 w.heap.size 2 _ 27 (0, 0) hN2
    have d3 : w2.cell? ⟨w.heap.size, 3, none⟩ = some (.int .i64 d) := cell_of_row w2 w.heap.size 3 _ 27 (0, 0) hN2
    clear hN2 HN1 c0 c1 c2 c3
    go_wp2_with fail
    refine (HO.out _ _).mono ?_
    rintro e w3 ⟨⟨u, rfl⟩, hb3⟩
    go_wp2
    go_ret2
    exact ⟨rfl, ((hA.trans hb).trans hb2).trans hb3⟩

set_option maxRecDepth 100000 in
set_option maxHeartbeats 1000000 in
theorem openNode_no (a b c d x : Int) (w : World) (h : fit a b c d = false ∨ (1 ≤ c ∧ c ≤ 5 ∧ (x < 100 ∨ 100 + c ≤ x) ∧ cha a b c d x = (0, 1))) :
    Calls Tryz.prog 17 #[cfg a b c d, .int .i64 x, .slice none 0 0] w fun e w' => e = .returned (.tuple #[.pointer none, .int .i64 1]) ∧ Bl w w' := by
  have HN := hid (fun w => nodesOpen_no a b c d x w h)
  have hA := (Bl.refl w).alloc (.cells #[.int .i64 a, .int .i64 b, .int .i64 c, .int .i64 d] 27)
  clear h
  go_enter Tryz.func17, Tryz.ntmps17
  go_wp2_with fail
  refine (HN.out _).mono ?_
  rintro e w' ⟨rfl, hb⟩
  go_wp2
  go_ret2
  exact ⟨rfl, hA.trans hb⟩
end Go.Proofs.YtbghhbpacijmmaaGreat
