-- The document's cells: Seal, Trim, what is theirs, what is a content.
-- The document's cells: what there is at an address.
-- The document's cells: Read.
import Derived.Test.YtkgjpfamjedncaaGreatRefVRefC
import Derived.Test.YtkgjpfamjedncaaGreatWriteAgain
namespace Go.Proofs.YtkgjpfamjedncaaGreat
open Go.RowKit Go.Maps
attribute [local go_sem ↓] Go.wp_at_zero Go.wp_at_succ

/-- A box that none of the cells' blocks is may turn. -/
theorem Cw.other {B0 : Nat} {w w' : World} {y g : Nat} {a b c d u ep mk : Int} {lv : Value} {n : Nat} {F : Nat → Wq} (h : Cw B0 w y a b c d u ep mk lv n F) (ho : Only (fun x => x = g) w w') {cs : Array Value} (hg : w.heap[g]? = some (.cells cs 98 (0, 0))) (hp : y ≠ g) : Cw B0 w' y a b c d u ep mk lv n F :=
  h.only ho hp (fun _ hb e => own_ne_block h.own hg (by decide) (by rw [hb, e])) (fun i hi _ hb e => own_ne_block (h.val i hi) hg (by decide) (by rw [hb, e]))

/-- The answer of a seal. -/
def sealR (ep e : Int) : Value := if e < ep then reply 5 ep 0 0 0 0 (.slice none 0 0) else reply 1 e 0 0 0 0 (.slice none 0 0)
set_option maxRecDepth 100000 in
set_option maxHeartbeats 2000000 in
theorem refSeal_any (B0 y : Nat) (a b c d u ep mk : Int) (lv : Value) (n : Nat) (F : Nat → Wq) (e : Int) (w : World) (h : Cw B0 w y a b c d u ep mk lv n F) :
    Calls Tryz.prog 48 #[.pointer (some ⟨y, 0, none⟩), .int .i64 e] w fun en w' => en = .returned (sealR ep e) ∧ Cw B0 w' y a b c d u (if e < ep then ep else e) mk lv n F ∧ Only (fun b => b = y) w w' := by
  have bA := (Bl.refl w).alloc (.cells blank 98)
  have ly := h.lt
  have HC := hid (oldC_any B0 y a b c d u ep mk lv n F e _ (h.bl bA))
  have HN := hid (heap_alloc_new w (.cells blank 98))
  have HbA := hid bA
  clear h bA
  unfold blank at HC HbA
  by_cases he : e < ep
  · simp only [sealR, he, if_true] at HC ⊢
    go_enter Tryz.func48, Tryz.ntmps48
    go_wp2_with fail
    refine HC.out.mono ?_
    rintro en w' ⟨rfl, hc, O⟩
    have hN : w'.heap[w.heap.size]? = some (.cells blank 98 (0, 0)) := (O.block _ (by simp) (by omega)).trans HN.out
    have lN : w.heap.size < w'.heap.size := (Array.getElem?_eq_some_iff.1 hN).1
    obtain ⟨n0, n1, n2, n3, n4, n5, n6, f0, f1, f2, f3, f4, f5, f6⟩ := blank_row hN
    obtain ⟨_, _, _, _, _, k5, _⟩ := hc.cells
    have ly' := hc.lt
    have HCw := hid hc
    have HO := hid ((Only.of_bl HbA.out).trans O)
    have HN2 := hid hN
    clear hc O hN HC
    go_wp2
    have Z := Only.set7 (w := w') (S := fun b => b = w.heap.size) rfl (.int .i64 5) (.int .i64 ep) (.int .i64 0) (.int .i64 0) (.int .i64 0) (.int .i64 0) (.slice none 0 0)
    refine bodyPost_ret (v := reply 5 ep 0 0 0 0 (.slice none 0 0)) (by simp [results, Tryz.results48, go_sem, reply, n0, n1, n2, n3, n4, n5, n6]) rfl ⟨rfl, HCw.out.other Z HN2.out (by omega), HO.out.trans_new Z (fun n e => Nat.le_of_eq e.symm)⟩
  · have hd : decide (e < ep) = false := by simpa using he
    simp only [sealR, he, if_false] at HC ⊢
    go_enter Tryz.func48, Tryz.ntmps48
    go_wp2_with fail
    refine HC.out.mono ?_
    rintro en w' ⟨rfl, hc, O⟩
    have hN : w'.heap[w.heap.size]? = some (.cells blank 98 (0, 0)) := (O.block _ (by simp) (by omega)).trans HN.out
    have lN : w.heap.size < w'.heap.size := (Array.getElem?_eq_some_iff.1 hN).1
    obtain ⟨n0, n1, n2, n3, n4, n5, n6, f0, f1, f2, f3, f4, f5, f6⟩ := blank_row hN
    have ly' := hc.lt
    have HCw := hid hc
    have HO := hid ((Only.of_bl HbA.out).trans O)
    have HN2 := hid hN
    clear hc O hN HC
    go_wp2
    have Z := Only.set7 (w := w') (S := fun b => b = w.heap.size) rfl (.int .i64 1) (.int .i64 e) (.int .i64 0) (.int .i64 0) (.int .i64 0) (.int .i64 0) (.slice none 0 0)
    refine bodyPost_ret (v := reply 1 e 0 0 0 0 (.slice none 0 0)) (by simp [results, Tryz.results48, go_sem, reply, n0, n1, n2, n3, n4, n5, n6]) rfl ⟨rfl, HCw.out.other Z HN2.out (by omega), HO.out.trans_new Z (fun n e => Nat.le_of_eq e.symm)⟩

set_option maxRecDepth 100000 in
set_option maxHeartbeats 1000000 in
theorem refContent_any (kd cl ca : Int) (va : Option Addr) (vn vc : Nat) (w : World) (hv : vn ≤ 40000000) :
    Calls Tryz.prog 76 #[.agg #[.int .i64 kd, .int .i64 cl, .int .i64 ca, .slice va vn vc]] w fun en w' => en = .returned (.bool (isC kd vn)) ∧ Bl w w' := by
  obtain ⟨r, hr⟩ : ∃ r, Hid (r = isC kd vn) := ⟨_, rfl⟩
  rw [← hr.out]
  by_cases h8 : kd = 8
  · subst h8
    by_cases h1 : 1 ≤ vn
    · by_cases h2 : vn ≤ 8
      · have hI1 : (1 : Int) ≤ vn := by omega
        have hI2 : (vn : Int) ≤ 8 := by omega
        go_enter Tryz.func76, Tryz.ntmps76
        go_wp2
        go_ret
        exact ⟨ret_bool (by rw [hr.out]; simp [isC, *]; try omega), (Bl.refl _).alloc _⟩
      · have hI1 : (1 : Int) ≤ vn := by omega
        have hI2 : ¬ (vn : Int) ≤ 8 := by omega
        go_enter Tryz.func76, Tryz.ntmps76
        go_wp2
        go_ret
        exact ⟨ret_bool (by rw [hr.out]; simp [isC, *]; try omega), (Bl.refl _).alloc _⟩
    · have hI1 : ¬ (1 : Int) ≤ vn := by omega
      go_enter Tryz.func76, Tryz.ntmps76
      go_wp2
      go_ret
      exact ⟨ret_bool (by rw [hr.out]; simp [isC, *]; try omega), (Bl.refl _).alloc _⟩
  · by_cases h9 : kd = 9
    · subst h9
      by_cases h0 : vn = 0
      · subst h0
        go_enter Tryz.func76, Tryz.ntmps76
        go_wp2
        go_ret
        exact ⟨ret_bool (by rw [hr.out]; simp [isC, *]; try omega), (Bl.refl _).alloc _⟩
      · have hI0 : ¬ (vn : Int) = 0 := by omega
        go_enter Tryz.func76, Tryz.ntmps76
        go_wp2
        go_ret
        exact ⟨ret_bool (by rw [hr.out]; simp [isC, *]; try omega), (Bl.refl _).alloc _⟩
    · go_enter Tryz.func76, Tryz.ntmps76
      go_wp2
      go_ret
      exact ⟨ret_bool (by rw [hr.out]; simp [isC, *]; try omega), (Bl.refl _).alloc _⟩

theorem wrap64_in (x : Int) (h : -9223372036854775808 ≤ x ∧ x ≤ 9223372036854775807) : wrap64 x = x := by
  have h' := IntWalk.i64_in x h
  rw [IntWalk.i64_left] at h'
  exact h'
/-- Does an address lie in one of the unit's cells? -/
def mineC (a b c d u x : Int) : Bool := decide ((loc a b c d x).2.2 = 0 ∧ (loc a b c d x).1 = u / b)

set_option maxRecDepth 100000 in
set_option maxHeartbeats 2000000 in
theorem refTrim_any (B0 y : Nat) (a b c d u ep mk : Int) (lv : Value) (n : Nat) (F : Nat → Wq) (e m : Int) (w : World) (h : Cw B0 w y a b c d u ep mk lv n F) :
    Calls Tryz.prog 46 #[.pointer (some ⟨y, 0, none⟩), .int .i64 e, .int .i64 m] w fun en w' => en = .returned (if e < ep then reply 5 ep 0 0 0 0 (.slice none 0 0) else reply 1 0 (if mk < m then m else mk) 0 0 0 (.slice none 0 0)) ∧ Cw B0 w' y a b c d u (if e < ep then ep else e) (if e < ep then mk else if mk < m then m else mk) lv n F ∧ Only (fun b => b = y) w w' := by
  have bA := (Bl.refl w).alloc (.cells blank 98)
  have ly := h.lt
  have HC := hid (oldC_any B0 y a b c d u ep mk lv n F e _ (h.bl bA))
  have HN := hid (heap_alloc_new w (.cells blank 98))
  have HbA := hid bA
  clear h bA
  unfold blank at HC HbA
  by_cases he : e < ep
  · simp only [he, if_true] at HC ⊢
    go_enter Tryz.func46, Tryz.ntmps46
    go_wp2_with fail
    refine HC.out.mono ?_
    rintro en w' ⟨rfl, hc, O⟩
    have hN : w'.heap[w.heap.size]? = some (.cells blank 98 (0, 0)) := (O.block _ (by simp) (by omega)).trans HN.out
    have lN : w.heap.size < w'.heap.size := (Array.getElem?_eq_some_iff.1 hN).1
    obtain ⟨n0, n1, n2, n3, n4, n5, n6, f0, f1, f2, f3, f4, f5, f6⟩ := blank_row hN
    obtain ⟨_, _, _, _, _, k5, _⟩ := hc.cells
    have ly' := hc.lt
    have HCw := hid hc
    have HO := hid ((Only.of_bl HbA.out).trans O)
    have HN2 := hid hN
    clear hc O hN HC
    go_wp2
    have Z := Only.set7 (w := w') (S := fun b => b = w.heap.size) rfl (.int .i64 5) (.int .i64 ep) (.int .i64 0) (.int .i64 0) (.int .i64 0) (.int .i64 0) (.slice none 0 0)
    refine bodyPost_ret (v := reply 5 ep 0 0 0 0 (.slice none 0 0)) (by simp [results, Tryz.results46, go_sem, reply, n0, n1, n2, n3, n4, n5, n6]) rfl ⟨rfl, HCw.out.other Z HN2.out (by omega), HO.out.trans_new Z (fun n e => Nat.le_of_eq e.symm)⟩
  · simp only [he, if_false] at HC ⊢
    by_cases hm : mk < m
    · simp only [hm, if_true]
      go_enter Tryz.func46, Tryz.ntmps46
      go_wp2_with fail
      refine HC.out.mono ?_
      rintro en w' ⟨rfl, hc, O⟩
      have hN : w'.heap[w.heap.size]? = some (.cells blank 98 (0, 0)) := (O.block _ (by simp) (by omega)).trans HN.out
      have lN : w.heap.size < w'.heap.size := (Array.getElem?_eq_some_iff.1 hN).1
      obtain ⟨n0, n1, n2, n3, n4, n5, n6, f0, f1, f2, f3, f4, f5, f6⟩ := blank_row hN
      obtain ⟨_, _, _, _, _, _, k6, _, _, g6, _⟩ := hc.cells
      have ly' := hc.lt
      have nyN : ¬ y = w.heap.size := by omega
      have nNy : ¬ w.heap.size = y := by omega
      have O2 : Only (fun b => b = y) w' (w'.setCell ⟨y, 6, none⟩ (.int .i64 m)) := (Only.refl (fun b => b = y) w').setCell ⟨y, 6, none⟩ (.inl rfl) _
      have HCw := hid (hc.set O2 (heap_setCell_same w' y 6 _ 77 (.int .i64 m) hc.blk))
      have HO := hid (((Only.of_bl HbA.out).trans O).trans O2)
      have HN2 := hid ((O2.block _ lN (by omega)).trans hN)
      clear hc O hN HC O2
      go_wp2
      have Z := Only.set7 (w := w'.setCell ⟨y, 6, none⟩ (.int .i64 m)) (S := fun b => b = w.heap.size) rfl (.int .i64 1) (.int .i64 0) (.int .i64 m) (.int .i64 0) (.int .i64 0) (.int .i64 0) (.slice none 0 0)
      refine bodyPost_ret (v := reply 1 0 m 0 0 0 (.slice none 0 0)) (by simp [results, Tryz.results46, go_sem, reply, n0, n1, n2, n3, n4, n5, n6]) rfl ⟨rfl, HCw.out.other Z HN2.out (by omega), HO.out.trans_new Z (fun n e => Nat.le_of_eq e.symm)⟩
    · simp only [hm, if_false]
      go_enter Tryz.func46, Tryz.ntmps46
      go_wp2_with fail
      refine HC.out.mono ?_
      rintro en w' ⟨rfl, hc, O⟩
      have hN : w'.heap[w.heap.size]? = some (.cells blank 98 (0, 0)) := (O.block _ (by simp) (by omega)).trans HN.out
      have lN : w.heap.size < w'.heap.size := (Array.getElem?_eq_some_iff.1 hN).1
      obtain ⟨n0, n1, n2, n3, n4, n5, n6, f0, f1, f2, f3, f4, f5, f6⟩ := blank_row hN
      obtain ⟨_, _, _, _, _, _, k6, _⟩ := hc.cells
      have ly' := hc.lt
      have HCw := hid hc
      have HO := hid ((Only.of_bl HbA.out).trans O)
      have HN2 := hid hN
      clear hc O hN HC
      go_wp2
      have Z := Only.set7 (w := w') (S := fun b => b = w.heap.size) rfl (.int .i64 1) (.int .i64 0) (.int .i64 mk) (.int .i64 0) (.int .i64 0) (.int .i64 0) (.slice none 0 0)
      refine bodyPost_ret (v := reply 1 0 mk 0 0 0 (.slice none 0 0)) (by simp [results, Tryz.results46, go_sem, reply, n0, n1, n2, n3, n4, n5, n6]) rfl ⟨rfl, HCw.out.other Z HN2.out (by omega), HO.out.trans_new Z (fun n e => Nat.le_of_eq e.symm)⟩

set_option maxRecDepth 100000 in
set_option maxHeartbeats 1000000 in
theorem refMine_any (B0 y : Nat) (a b c d u ep mk : Int) (lv : Value) (n : Nat) (F : Nat → Wq) (x : Int) (w : World) (h : Cw B0 w y a b c d u ep mk lv n F) (hu : 0 ≤ u) (hu9 : u ≤ 1000) (hf : fit a b c d = true) :
    Calls Tryz.prog 73 #[.pointer (some ⟨y, 0, none⟩), .int .i64 x] w fun en w' => en = .returned (.bool (mineC a b c d u x)) ∧ Bl w w' := by
  obtain ⟨k0, k1, k2, k3, k4, _⟩ := h.cells
  have ly := h.lt
  have HL := hid (locate_ref a b c d x w)
  obtain ⟨hb1, hb3⟩ := fit_bd2 hf
  obtain ⟨r, hr⟩ : ∃ r, Hid (r = mineC a b c d u x) := ⟨_, rfl⟩
  rw [← hr.out]
  unfold mineC at hr
  generalize loc a b c d x = L at *
  obtain ⟨l1, l2, l3⟩ := L
  unfold tup at HL
  simp only at HL hr
  have hb0 : ¬ b = 0 := by omega
  have hdv : Int.tdiv u b = u / b := Int.tdiv_eq_ediv_of_nonneg hu
  have hq1 : -9223372036854775808 ≤ u / b ∧ u / b ≤ u := ⟨by have := Int.ediv_nonneg hu (by omega : 0 ≤ b); omega, Int.ediv_le_self b hu⟩
  clear h
  go_enter Tryz.func73, Tryz.ntmps73
  go_wp2_with fail
  refine HL.out.mono ?_
  rintro en w' ⟨rfl, hb⟩
  have m1 := (hb.cell ly).trans k1
  have m4 := (hb.cell ly).trans k4
  have ly' := Nat.lt_of_lt_of_le ly hb.lt
  have HB := hid hb
  clear HL hb k0 k1 k2 k3 k4
  by_cases h3 : l3 = 0
  · subst h3
    by_cases h1 : l1 = u / b
    · go_wp2_with fail
      go_quiet (fail)
      go_wp2
      go_ret
      exact ⟨ret_bool (by rw [hr.out]; simp [h1]), HB.out.drewN _⟩
    · go_wp2_with fail
      go_quiet (fail)
      go_wp2
      go_ret
      exact ⟨ret_bool (by rw [hr.out]; simp [h1]), HB.out.drewN _⟩
  · go_wp2_with fail
    go_quiet (fail)
    go_wp2
    go_ret
    exact ⟨ret_bool (by rw [hr.out]; simp [h3]), HB.out.drewN _⟩
end Go.Proofs.YtkgjpfamjedncaaGreat

namespace Go.Proofs.YtkgjpfamjedncaaGreat
open Go.RowKit Go.Maps
attribute [local go_sem ↓] Go.wp_at_zero Go.wp_at_succ

/-- The last one that was written at an address, of the first n. -/
def lk (F : Nat → Wq) (x : Int) : Nat → Option Nat
  | 0 => none
  | n + 1 => if (F n).adr = x then some n else lk F x n
theorem lk_lt (F : Nat → Wq) (x : Int) : ∀ n i, lk F x n = some i → i < n ∧ (F i).adr = x
  | 0, i, h => by simp [lk] at h
  | n + 1, i, h => by
    unfold lk at h
    split at h
    · rename_i e; simp at h; subst h; exact ⟨by omega, e⟩
    · have := lk_lt F x n i h; exact ⟨by omega, this.2⟩
/-- The cells of the answer, as it is gathered. -/
def gath (F : Nat → Wq) (x : Int) (n : Nat) : Array Value :=
  match lk F x n with
  | none => #[.int .i64 3, .int .i64 0, .int .i64 0, .int .i64 0, .int .i64 0, .int .i64 0, .slice none 0 0]
  | some i => #[.int .i64 2, .int .i64 0, .int .i64 0, .int .i64 (F i).kd, .int .i64 (F i).cl, .int .i64 (F i).ca, (F i).v]
theorem gath_some {F : Nat → Wq} {x : Int} {n : Nat} (h : (F n).adr = x) : gath F x (n + 1) = #[.int .i64 2, .int .i64 0, .int .i64 0, .int .i64 (F n).kd, .int .i64 (F n).cl, .int .i64 (F n).ca, (F n).v] := by
  simp [gath, lk, h]
theorem gath_none {F : Nat → Wq} {x : Int} {n : Nat} (h : ¬ (F n).adr = x) : gath F x (n + 1) = gath F x n := by
  simp [gath, lk, h]
theorem gath_form (F : Nat → Wq) (x : Int) (n : Nat) : ∃ wh kd cl ca v, gath F x n = #[.int .i64 wh, .int .i64 0, .int .i64 0, .int .i64 kd, .int .i64 cl, .int .i64 ca, v] := by
  unfold gath
  cases lk F x n with
  | none => exact ⟨_, _, _, _, _, rfl⟩
  | some i => exact ⟨_, _, _, _, _, rfl⟩
/-- The answer of look. -/
def lookR (F : Nat → Wq) (x mk : Int) (n : Nat) : Value :=
  match lk F x n with
  | none => if x < mk then reply 4 0 mk 0 0 0 (.slice none 0 0) else reply 3 0 0 0 0 0 (.slice none 0 0)
  | some i => if x < mk then reply 4 0 mk (F i).kd (F i).cl (F i).ca (.slice none 0 0) else reply 2 0 0 (F i).kd (F i).cl (F i).ca (F i).v

theorem row7 {W : World} {g : Nat} {x0 x1 x2 x3 x4 x5 x6 : Value} (h : W.heap[g]? = some (.cells #[x0, x1, x2, x3, x4, x5, x6] 98 (0, 0))) : (W.cell? ⟨g, 0, none⟩ = some x0 ∧ W.cell? ⟨g, 1, none⟩ = some x1 ∧ W.cell? ⟨g, 2, none⟩ = some x2 ∧ W.cell? ⟨g, 3, none⟩ = some x3 ∧ W.cell? ⟨g, 4, none⟩ = some x4 ∧ W.cell? ⟨g, 5, none⟩ = some x5 ∧ W.cell? ⟨g, 6, none⟩ = some x6) ∧ (W.frozen? ⟨g, 0, none⟩ = false ∧ W.frozen? ⟨g, 1, none⟩ = false ∧ W.frozen? ⟨g, 2, none⟩ = false ∧ W.frozen? ⟨g, 3, none⟩ = false ∧ W.frozen? ⟨g, 4, none⟩ = false ∧ W.frozen? ⟨g, 5, none⟩ = false ∧ W.frozen? ⟨g, 6, none⟩ = false) :=
  ⟨⟨cell_of_row W g 0 _ 98 (0, 0) h, cell_of_row W g 1 _ 98 (0, 0) h, cell_of_row W g 2 _ 98 (0, 0) h, cell_of_row W g 3 _ 98 (0, 0) h, cell_of_row W g 4 _ 98 (0, 0) h, cell_of_row W g 5 _ 98 (0, 0) h, cell_of_row W g 6 _ 98 (0, 0) h⟩, frozen_of_row W g 0 _ 98 h, frozen_of_row W g 1 _ 98 h, frozen_of_row W g 2 _ 98 h, frozen_of_row W g 3 _ 98 h, frozen_of_row W g 4 _ 98 h, frozen_of_row W g 5 _ 98 h, frozen_of_row W g 6 _ 98 h⟩
theorem heap_two (w : World) (o o' : Go.Obj) : ((w.alloc o).alloc o').heap[w.heap.size]? = some o ∧ ((w.alloc o).alloc o').heap[w.heap.size + 1]? = some o' := by
  refine ⟨(((Bl.refl (w.alloc o)).alloc o').heap (by simp)).trans (heap_alloc_new w o), ?_⟩
  have := heap_alloc_new (w.alloc o) o'
  rwa [show (w.alloc o).heap.size = w.heap.size + 1 by simp] at this

set_option maxRecDepth 100000 in
set_option maxHeartbeats 4000000 in
theorem refLook_any (B0 y : Nat) (a b c d u ep mk : Int) (lv : Value) (n : Nat) (F : Nat → Wq) (x : Int) (w : World) (h : Cw B0 w y a b c d u ep mk lv n F) (hn : n ≤ 4000000) :
    Calls Tryz.prog 74 #[.pointer (some ⟨y, 0, none⟩), .int .i64 x] w fun en w' => en = .returned (lookR F x mk n) ∧ Bl w w' := by
  obtain ⟨_, _, _, _, _, _, k6, k7, _⟩ := h.cells
  have ly := h.lt
  have H := hid h
  have HK := hid (And.intro k6 k7)
  obtain ⟨la, lc, hlv⟩ : ∃ la lc, lv = .slice la n lc := by
    rcases h.own.2 with ⟨e, e'⟩ | ⟨g, cap, cur, e, _⟩
    · exact ⟨_, _, by rw [e, e']⟩
    · exact ⟨_, _, e⟩
  subst hlv
  clear h k6 k7
  go_enter Tryz.func74, Tryz.ntmps74
  go_wp2
  have hbs : Bl w ((w.alloc (.cells blank 98)).alloc (.cells (gath F x 0) 98)) := ((Bl.refl w).alloc _).alloc _
  have h2 := heap_two w (.cells blank 98) (.cells (gath F x 0) 98)
  go_loopw [6] (fun i wr => ∃ k : Nat, k ≤ n ∧ i = .int .i64 k ∧ Hid (Bl w wr) ∧ Hid (wr.heap[w.heap.size]? = some (.cells blank 98 (0, 0))) ∧ Hid (wr.heap[w.heap.size + 1]? = some (.cells (gath F x k) 98 (0, 0)))) (fun i _ => n - (intOf i).toNat)
  case atStart => exact ⟨0, by omega, rfl, hbs, h2.1, h2.2⟩
  case round =>
    clear hbs h2
    obtain ⟨k, hk, rfl, HB, HX, HG⟩ := hrel
    have m7 := (HB.out.cell ly).trans HK.out.2
    have m6 := (HB.out.cell ly).trans HK.out.1
    have lyr := Nat.lt_of_lt_of_le ly HB.out.lt
    have lN : w.heap.size < wr.heap.size := (Array.getElem?_eq_some_iff.1 HX.out).1
    have lM : w.heap.size + 1 < wr.heap.size := (Array.getElem?_eq_some_iff.1 HG.out).1
    by_cases hlt : k < n
    · obtain ⟨g, rfl⟩ : ∃ g, la = some ⟨g, 0, none⟩ := by
        rcases H.out.own.2 with ⟨e, e'⟩ | ⟨g, cap, cur, e, _⟩
        · omega
        · simp only [Value.slice.injEq] at e; exact ⟨g, e.1⟩
      have hrow := (Only.of_bl (S := fun _ => False) HB.out).owns H.out.own fun _ _ e => e
      have lg := (hrow.lt g rfl).2
      have hc : ∀ r, r < 5 → wr.cell? ⟨g, k * 5 + r, none⟩ = (wq5 (F k))[r]? := fun r hr => by
        rw [hrow.cellAt (k * 5 + r) (by omega), row5_get F n k r hlt hr]
      have c0 : wr.cell? ⟨g, k * 5, none⟩ = some (.int .i64 (F k).adr) := hc 0 (by omega)
      have c1 : wr.cell? ⟨g, k * 5 + 1, none⟩ = some (.int .i64 (F k).kd) := hc 1 (by omega)
      have c2 : wr.cell? ⟨g, k * 5 + 1 + 1, none⟩ = some (.int .i64 (F k).cl) := hc 2 (by omega)
      have c3 : wr.cell? ⟨g, k * 5 + 1 + 2, none⟩ = some (.int .i64 (F k).ca) := hc 3 (by omega)
      have c4 : wr.cell? ⟨g, k * 5 + 1 + 3, none⟩ = some (F k).v := hc 4 (by omega)
      have hkN : (k : Int) < (n : Int) := by omega
      have hk0 : (0 : Int) ≤ (k : Int) := by omega
      clear hrow hc
      by_cases he : (F k).adr = x
      · obtain ⟨wh, kd, cl, ca, v, hgf⟩ := gath_form F x k
        have hG := HG.out
        rw [hgf] at hG
        obtain ⟨⟨p0, p1, p2, p3, p4, p5, p6⟩, q0, q1, q2, q3, q4, q5, q6⟩ := row7 hG
        obtain ⟨va, vn, vc, hv⟩ : ∃ va vn vc, (F k).v = .slice va vn vc := by
          obtain ⟨va, vc, e⟩ := (ownsRow_sl (H.out.val k hlt)).len
          exact ⟨_, _, _, e⟩
        have hgs := gath_some he
        rw [hv] at c4 hgs
        have O := Only.set7 (w := wr) (S := fun b => b = w.heap.size + 1) rfl (.int .i64 2) (.int .i64 0) (.int .i64 0) (.int .i64 (F k).kd) (.int .i64 (F k).cl) (.int .i64 (F k).ca) (.slice va vn vc)
        have hs := set7_heap hG (.int .i64 2) (.int .i64 0) (.int .i64 0) (.int .i64 (F k).kd) (.int .i64 (F k).cl) (.int .i64 (F k).ca) (.slice va vn vc)
        rw [← hgs] at hs
        have HFin := hid (And.intro (HB.out.trans_only O fun n e => by omega) (And.intro ((O.block _ lN (by omega)).trans HX.out) hs))
        clear O hs hG hgf hgs
        go_wp2
        go_roundw
        case rel => exact ⟨k + 1, by omega, by go_num, HFin.out.1, HFin.out.2.1, HFin.out.2.2⟩
        case measure => simp [intOf]; omega
      · have HG2 := hid (HG.out.trans (by rw [gath_none he]) : wr.heap[w.heap.size + 1]? = some (.cells (gath F x (k + 1)) 98 (0, 0)))
        go_wp2
        go_roundw
        case rel => exact ⟨k + 1, by omega, by go_num, HB.out, HX.out, HG2.out⟩
        case measure => simp [intOf]; omega
    · obtain rfl : k = n := by omega
      have hG := HG.out
      have hX := HX.out
      unfold blank at hX
      obtain ⟨⟨n0, n1, n2, n3, n4, n5, n6⟩, f0, f1, f2, f3, f4, f5, f6⟩ := row7 hX
      have nNy : ¬ w.heap.size = y := by omega
      have nMy : ¬ w.heap.size + 1 = y := by omega
      have key : ∀ (wh kd cl ca : Int) (va : Option Addr) (vn vc : Nat), gath F x k = #[.int .i64 wh, .int .i64 0, .int .i64 0, .int .i64 kd, .int .i64 cl, .int .i64 ca, .slice va vn vc] → lookR F x mk k = (if x < mk then reply 4 0 mk kd cl ca (.slice none 0 0) else reply wh 0 0 kd cl ca (.slice va vn vc)) := by
        intro wh kd cl ca va vn vc hg
        unfold gath at hg
        unfold lookR
        cases hl : lk F x k with
        | none => rw [hl] at hg; simp at hg; obtain ⟨rfl, rfl, rfl, rfl, rfl, rfl, rfl⟩ := hg; rfl
        | some i => rw [hl] at hg; simp at hg; obtain ⟨rfl, rfl, rfl, rfl, h5⟩ := hg; simp [h5]
      obtain ⟨wh, kd, cl, ca, va, vn, vc, hgf⟩ : ∃ (wh kd cl ca : Int) (va : Option Addr) (vn vc : Nat), gath F x k = #[.int .i64 wh, .int .i64 0, .int .i64 0, .int .i64 kd, .int .i64 cl, .int .i64 ca, .slice va vn vc] := by
        unfold gath
        cases hl : lk F x k with
        | none => exact ⟨_, _, _, _, _, _, _, rfl⟩
        | some i =>
          obtain ⟨va, vc, e⟩ := (ownsRow_sl (H.out.val i (lk_lt F x k i hl).1)).len
          exact ⟨_, _, _, _, _, _, _, by simp only; rw [e]⟩
      have Hkey := hid (key wh kd cl ca va vn vc hgf)
      rw [hgf] at hG
      obtain ⟨⟨p0, p1, p2, p3, p4, p5, p6⟩, q0, q1, q2, q3, q4, q5, q6⟩ := row7 hG
      have HX2 := hid hX
      have HG2 := hid hG
      clear key hgf hX hG HX HG
      by_cases hm : x < mk
      · simp only [hm, if_true] at Hkey
        go_wp2
        have Z1 := (((Only.refl (fun b => b = w.heap.size + 1) wr).setCell ⟨w.heap.size + 1, 0, none⟩ (.inl rfl) (.int .i64 4)).setCell ⟨w.heap.size + 1, 2, none⟩ (.inl rfl) (.int .i64 mk)).setCell ⟨w.heap.size + 1, 6, none⟩ (.inl rfl) (.slice none 0 0)
        have Z := Only.set7 (w := ((wr.setCell ⟨w.heap.size + 1, 0, none⟩ (.int .i64 4)).setCell ⟨w.heap.size + 1, 2, none⟩ (.int .i64 mk)).setCell ⟨w.heap.size + 1, 6, none⟩ (.slice none 0 0)) (S := fun b => b = w.heap.size) rfl (.int .i64 4) (.int .i64 0) (.int .i64 mk) (.int .i64 kd) (.int .i64 cl) (.int .i64 ca) (.slice none 0 0)
        refine bodyPost_ret (v := reply 4 0 mk kd cl ca (.slice none 0 0)) (by simp [results, Tryz.results74, go_sem, reply, n0, n1, n2, n3, n4, n5, n6]) rfl ⟨congrArg _ Hkey.out.symm, (HB.out.trans_only Z1 fun n e => by omega).trans_only Z fun n e => by omega⟩
      · simp only [hm, if_false] at Hkey
        go_wp2
        have Z := Only.set7 (w := wr) (S := fun b => b = w.heap.size) rfl (.int .i64 wh) (.int .i64 0) (.int .i64 0) (.int .i64 kd) (.int .i64 cl) (.int .i64 ca) (.slice va vn vc)
        refine bodyPost_ret (v := reply wh 0 0 kd cl ca (.slice va vn vc)) (by simp [results, Tryz.results74, go_sem, reply, n0, n1, n2, n3, n4, n5, n6]) rfl ⟨congrArg _ Hkey.out.symm, HB.out.trans_only Z fun n e => by omega⟩
end Go.Proofs.YtkgjpfamjedncaaGreat

namespace Go.Proofs.YtkgjpfamjedncaaGreat
open Go.RowKit Go.Maps
attribute [local go_sem ↓] Go.wp_at_zero Go.wp_at_succ

theorem lookR_form {B0 : Nat} {w : World} {y : Nat} {a b c d u ep mk : Int} {lv : Value} {n : Nat} {F : Nat → Wq} (h : Cw B0 w y a b c d u ep mk lv n F) (x : Int) : ∃ (wh m kd cl ca : Int) (va : Option Addr) (vn vc : Nat), lookR F x mk n = reply wh 0 m kd cl ca (.slice va vn vc) := by
  unfold lookR
  cases hl : lk F x n with
  | none =>
    by_cases hm : x < mk
    · exact ⟨_, _, _, _, _, _, _, _, by simp only [hm, if_true]; rfl⟩
    · exact ⟨_, _, _, _, _, _, _, _, by simp only [hm, if_false]; rfl⟩
  | some i =>
    obtain ⟨va, vc, e⟩ := (ownsRow_sl (h.val i (lk_lt F x n i hl).1)).len
    by_cases hm : x < mk
    · exact ⟨_, _, _, _, _, _, _, _, by simp only [hm, if_true]; rfl⟩
    · exact ⟨_, _, _, _, _, _, _, _, by simp only [hm, if_false]; rw [e]⟩

/-- The answer of a read. -/
def readR (F : Nat → Wq) (a b c d u ep mk e x : Int) (n : Nat) : Value :=
  if e < ep then reply 5 ep 0 0 0 0 (.slice none 0 0) else if mineC a b c d u x = true then lookR F x mk n else reply 6 0 0 0 0 0 (.slice none 0 0)

set_option maxRecDepth 100000 in
set_option maxHeartbeats 2000000 in
theorem refRead_any (B0 y : Nat) (a b c d u ep mk : Int) (lv : Value) (n : Nat) (F : Nat → Wq) (e x : Int) (w : World) (h : Cw B0 w y a b c d u ep mk lv n F) (hn : n ≤ 4000000) (hu : 0 ≤ u) (hu9 : u ≤ 1000) (hf : fit a b c d = true) :
    Calls Tryz.prog 41 #[.pointer (some ⟨y, 0, none⟩), .int .i64 e, .int .i64 x] w fun en w' => en = .returned (readR F a b c d u ep mk e x n) ∧ Cw B0 w' y a b c d u (if e < ep then ep else e) mk lv n F ∧ Only (fun b => b = y) w w' := by
  have bA := (Bl.refl w).alloc (.cells blank 98)
  have ly := h.lt
  have HC := hid (oldC_any B0 y a b c d u ep mk lv n F e _ (h.bl bA))
  have HN := hid (heap_alloc_new w (.cells blank 98))
  have HbA := hid bA
  clear h bA
  unfold blank at HC HbA
  by_cases he : e < ep
  · have HR : Hid (readR F a b c d u ep mk e x n = reply 5 ep 0 0 0 0 (.slice none 0 0)) := by simp [Hid, readR, he]
    rw [HR.out]
    simp only [he, if_true] at HC ⊢
    go_enter Tryz.func41, Tryz.ntmps41
    go_wp2_with fail
    refine HC.out.mono ?_
    rintro en w' ⟨rfl, hc, O⟩
    have hN : w'.heap[w.heap.size]? = some (.cells blank 98 (0, 0)) := (O.block _ (by simp) (by omega)).trans HN.out
    have lN : w.heap.size < w'.heap.size := (Array.getElem?_eq_some_iff.1 hN).1
    obtain ⟨n0, n1, n2, n3, n4, n5, n6, f0, f1, f2, f3, f4, f5, f6⟩ := blank_row hN
    obtain ⟨_, _, _, _, _, k5, _⟩ := hc.cells
    have ly' := hc.lt
    have HCw := hid hc
    have HO := hid ((Only.of_bl HbA.out).trans O)
    have HN2 := hid hN
    clear hc O hN HC
    go_wp2
    have Z := Only.set7 (w := w') (S := fun b => b = w.heap.size) rfl (.int .i64 5) (.int .i64 ep) (.int .i64 0) (.int .i64 0) (.int .i64 0) (.int .i64 0) (.slice none 0 0)
    refine bodyPost_ret (v := reply 5 ep 0 0 0 0 (.slice none 0 0)) (by simp [results, Tryz.results41, go_sem, reply, n0, n1, n2, n3, n4, n5, n6]) rfl ⟨rfl, HCw.out.other Z HN2.out (by omega), HO.out.trans_new Z (fun n e => Nat.le_of_eq e.symm)⟩
  · simp only [he, if_false] at HC ⊢
    cases hm : mineC a b c d u x with
    | false =>
      have HR : Hid (readR F a b c d u ep mk e x n = reply 6 0 0 0 0 0 (.slice none 0 0)) := by simp [Hid, readR, he, hm]
      rw [HR.out]
      have Hm := hid hm
      clear hm
      go_enter Tryz.func41, Tryz.ntmps41
      go_wp2_with fail
      refine HC.out.mono ?_
      rintro en w1 ⟨rfl, hc, O⟩
      have hN : w1.heap[w.heap.size]? = some (.cells blank 98 (0, 0)) := (O.block _ (by simp) (by omega)).trans HN.out
      have HM := hid (refMine_any B0 y a b c d u e mk lv n F x w1 hc hu hu9 hf)
      rw [Hm.out] at HM
      have HCw := hid hc
      have HO := hid ((Only.of_bl HbA.out).trans O)
      have HN1 := hid hN
      clear hc O hN HC
      go_wp2_with fail
      refine HM.out.mono ?_
      rintro en w' ⟨rfl, hb⟩
      have hN := (hb.heap (Array.getElem?_eq_some_iff.1 HN1.out).1).trans HN1.out
      have lN : w.heap.size < w'.heap.size := (Array.getElem?_eq_some_iff.1 hN).1
      obtain ⟨n0, n1, n2, n3, n4, n5, n6, f0, f1, f2, f3, f4, f5, f6⟩ := blank_row hN
      have HC2 := hid (HCw.out.bl hb)
      have HO2 := hid (HO.out.trans (Only.of_bl hb))
      have HN2 := hid hN
      clear hN hb HM
      go_wp2
      have Z := Only.set7 (w := w') (S := fun b => b = w.heap.size) rfl (.int .i64 6) (.int .i64 0) (.int .i64 0) (.int .i64 0) (.int .i64 0) (.int .i64 0) (.slice none 0 0)
      refine bodyPost_ret (v := reply 6 0 0 0 0 0 (.slice none 0 0)) (by simp [results, Tryz.results41, go_sem, reply, n0, n1, n2, n3, n4, n5, n6]) rfl ⟨rfl, HC2.out.other Z HN2.out (by omega), HO2.out.trans_new Z (fun n e => Nat.le_of_eq e.symm)⟩
    | true =>
      have HR : Hid (readR F a b c d u ep mk e x n = lookR F x mk n) := by simp [Hid, readR, he, hm]
      rw [HR.out]
      have Hm := hid hm
      clear hm
      go_enter Tryz.func41, Tryz.ntmps41
      go_wp2_with fail
      refine HC.out.mono ?_
      rintro en w1 ⟨rfl, hc, O⟩
      have hN : w1.heap[w.heap.size]? = some (.cells blank 98 (0, 0)) := (O.block _ (by simp) (by omega)).trans HN.out
      have HM := hid (refMine_any B0 y a b c d u e mk lv n F x w1 hc hu hu9 hf)
      rw [Hm.out] at HM
      have HCw := hid hc
      have HO := hid ((Only.of_bl HbA.out).trans O)
      have HN1 := hid hN
      clear hc O hN HC
      go_wp2_with fail
      refine HM.out.mono ?_
      rintro en w2 ⟨rfl, hb⟩
      have HC2 := hid (HCw.out.bl hb)
      have HL := hid (refLook_any B0 y a b c d u e mk lv n F x w2 HC2.out hn)
      have HO2 := hid (HO.out.trans (Only.of_bl hb))
      have HN2 := hid ((hb.heap (Array.getElem?_eq_some_iff.1 HN1.out).1).trans HN1.out)
      obtain ⟨wh, m, kd, cl, ca, va, vn, vc, hlf⟩ := lookR_form HC2.out x
      have Hlf := hid hlf
      rw [hlf] at HL
      clear hb HM hlf HN1 HO HCw
      unfold reply at HL
      go_wp2_with fail
      refine HL.out.mono ?_
      rintro en w' ⟨rfl, hb⟩
      have hN := (hb.heap (Array.getElem?_eq_some_iff.1 HN2.out).1).trans HN2.out
      have lN : w.heap.size < w'.heap.size := (Array.getElem?_eq_some_iff.1 hN).1
      obtain ⟨n0, n1, n2, n3, n4, n5, n6, f0, f1, f2, f3, f4, f5, f6⟩ := blank_row hN
      have HC3 := hid (HC2.out.bl hb)
      have HO3 := hid (HO2.out.trans (Only.of_bl hb))
      have HN3 := hid hN
      clear hN hb HL
      go_wp2
      have Z := Only.set7 (w := w') (S := fun b => b = w.heap.size) rfl (.int .i64 wh) (.int .i64 0) (.int .i64 m) (.int .i64 kd) (.int .i64 cl) (.int .i64 ca) (.slice va vn vc)
      refine bodyPost_ret (v := reply wh 0 m kd cl ca (.slice va vn vc)) (by simp [results, Tryz.results41, go_sem, reply, n0, n1, n2, n3, n4, n5, n6]) rfl ⟨congrArg _ Hlf.out.symm, HC3.out.other Z HN3.out (by omega), HO3.out.trans_new Z (fun n e => Nat.le_of_eq e.symm)⟩
end Go.Proofs.YtkgjpfamjedncaaGreat
