-- The document's cells: what there is at an address.
-- The document's cells: Read.
-- The document's cells: Write, where nothing is written.
-- The document's cells: Write, where there is a content, and where there is none.
import Derived.Test.YtkgjpfamjedncaaGreatLooksBRefVRefCRefDQ
import Derived.Test.YtkgjpfamjedncaaGreatWriteAgainQ
namespace Go.Proofs.YtkgjpfamjedncaaGreat
open Go.RowKit Go.Maps
attribute [local go_sem ↓] Go.wp_at_zero Go.wp_at_succ

/-- The last one that was written at an address, of the first n. -/
def lk (F : Nat → Wq) (x : Int) : Nat → Option Nat
  | 0 => none
  | n + 1 => if (F n).adr = x then some n else lk F x n
theorem lk_lt (F : Nat → Wq) (x : Int) : ∀ n i, lk F x n = some i → i < n ∧ (F i).adr = x
  | 0, i, h => by simp [lk] at h
  | n + 1, i, h => by
    unfold lk at h
    split at h
    · rename_i e; simp at h; subst h; exact ⟨by omega, e⟩
    · have := lk_lt F x n i h; exact ⟨by omega, this.2⟩
/-- The cells of the answer, as it is gathered. -/
def gath (F : Nat → Wq) (x : Int) (n : Nat) : Array Value :=
  match lk F x n with
  | none => #[.int .i64 3, .int .i64 0, .int .i64 0, .int .i64 0, .int .i64 0, .int .i64 0, .slice none 0 0]
  | some i => #[.int .i64 2, .int .i64 0, .int .i64 0, .int .i64 (F i).kd, .int .i64 (F i).cl, .int .i64 (F i).ca, (F i).v]
theorem gath_some {F : Nat → Wq} {x : Int} {n : Nat} (h : (F n).adr = x) : gath F x (n + 1) = #[.int .i64 2, .int .i64 0, .int .i64 0, .int .i64 (F n).kd, .int .i64 (F n).cl, .int .i64 (F n).ca, (F n).v] := by
  simp [gath, lk, h]
theorem gath_none {F : Nat → Wq} {x : Int} {n : Nat} (h : ¬ (F n).adr = x) : gath F x (n + 1) = gath F x n := by
  simp [gath, lk, h]
theorem gath_form (F : Nat → Wq) (x : Int) (n : Nat) : ∃ wh kd cl ca v, gath F x n = #[.int .i64 wh, .int .i64 0, .int .i64 0, .int .i64 kd, .int .i64 cl, .int .i64 ca, v] := by
  unfold gath
  cases lk F x n with
  | none => exact ⟨_, _, _, _, _, rfl⟩
  | some i => exact ⟨_, _, _, _, _, rfl⟩
/-- The answer of look. -/
def lookR (F : Nat → Wq) (x mk : Int) (n : Nat) : Value :=
  match lk F x n with
  | none => if x < mk then reply 4 0 mk 0 0 0 (.slice none 0 0) else reply 3 0 0 0 0 0 (.slice none 0 0)
  | some i => if x < mk then reply 4 0 mk (F i).kd (F i).cl (F i).ca (.slice none 0 0) else reply 2 0 0 (F i).kd (F i).cl (F i).ca (F i).v

theorem row7 {W : World} {g : Nat} {x0 x1 x2 x3 x4 x5 x6 : Value} (h : W.heap[g]? = some (.cells #[x0, x1, x2, x3, x4, x5, x6] 98 (0, 0))) : (W.cell? ⟨g, 0, none⟩ = some x0 ∧ W.cell? ⟨g, 1, none⟩ = some x1 ∧ W.cell? ⟨g, 2, none⟩ = some x2 ∧ W.cell? ⟨g, 3, none⟩ = some x3 ∧ W.cell? ⟨g, 4, none⟩ = some x4 ∧ W.cell? ⟨g, 5, none⟩ = some x5 ∧ W.cell? ⟨g, 6, none⟩ = some x6) ∧ (W.frozen? ⟨g, 0, none⟩ = false ∧ W.frozen? ⟨g, 1, none⟩ = false ∧ W.frozen? ⟨g, 2, none⟩ = false ∧ W.frozen? ⟨g, 3, none⟩ = false ∧ W.frozen? ⟨g, 4, none⟩ = false ∧ W.frozen? ⟨g, 5, none⟩ = false ∧ W.frozen? ⟨g, 6, none⟩ = false) :=
  ⟨⟨cell_of_row W g 0 _ 98 (0, 0) h, cell_of_row W g 1 _ 98 (0, 0) h, cell_of_row W g 2 _ 98 (0, 0) h, cell_of_row W g 3 _ 98 (0, 0) h, cell_of_row W g 4 _ 98 (0, 0) h, cell_of_row W g 5 _ 98 (0, 0) h, cell_of_row W g 6 _ 98 (0, 0) h⟩, frozen_of_row W g 0 _ 98 h, frozen_of_row W g 1 _ 98 h, frozen_of_row W g 2 _ 98 h, frozen_of_row W g 3 _ 98 h, frozen_of_row W g 4 _ 98 h, frozen_of_row W g 5 _ 98 h, frozen_of_row W g 6 _ 98 h⟩
theorem heap_two (w : World) (o o' : Go.Obj) : ((w.alloc o).alloc o').heap[w.heap.size]? = some o ∧ ((w.alloc o).alloc o').heap[w.heap.size + 1]? = some o' := by
  refine ⟨(((Bl.refl (w.alloc o)).alloc o').heap (by simp)).trans (heap_alloc_new w o), ?_⟩
  have := heap_alloc_new (w.alloc o) o'
  rwa [show (w.alloc o).heap.size = w.heap.size + 1 by simp] at this

set_option maxRecDepth 100000 in
set_option maxHeartbeats 4000000 in
theorem refLook_any (B0 y : Nat) (a b c d u ep mk : Int) (lv : Value) (n : Nat) (F : Nat → Wq) (x : Int) (w : World) (h : Cw B0 w y a b c d u ep mk lv n F) (hn : n ≤ 4000000) :
    Calls Tryz.prog 74 #[.pointer (some ⟨y, 0, none⟩), .int .i64 x] w fun en w' => en = .returned (lookR F x mk n) ∧ Bl w w' := by
  obtain ⟨_, _, _, _, _, _, k6, k7, _⟩ := h.cells
  have ly := h.lt
  have H := hid h
  have HK := hid (And.intro k6 k7)
  obtain ⟨la, lc, hlv⟩ : ∃ la lc, lv = .slice la n lc := by
    rcases h.own.2 with ⟨e, e'⟩ | ⟨g, cap, cur, e, _⟩
    · exact ⟨_, _, by rw [e, e']⟩
    · exact ⟨_, _, e⟩
  subst hlv
  clear h k6 k7
  go_enter Tryz.func74, Tryz.ntmps74
  go_wp2
  have hbs : Bl w ((w.alloc (.cells blank 98)).alloc (.cells (gath F x 0) 98)) := ((Bl.refl w).alloc _).alloc _
  have h2 := heap_two w (.cells blank 98) (.cells (gath F x 0) 98)
  go_loopw [6] (fun i wr => ∃ k : Nat, k ≤ n ∧ i = .int .i64 k ∧ Hid (Bl w wr) ∧ Hid (wr.heap[w.heap.size]? = some (.cells blank 98 (0, 0))) ∧ Hid (wr.heap[w.heap.size + 1]? = some (.cells (gath F x k) 98 (0, 0)))) (fun i _ => n - (intOf i).toNat)
  case atStart => exact ⟨0, by omega, rfl, hbs, h2.1, h2.2⟩
  case round =>
    clear hbs h2
    obtain ⟨k, hk, rfl, HB, HX, HG⟩ := hrel
    have m7 := (HB.out.cell ly).trans HK.out.2
    have m6 := (HB.out.cell ly).trans HK.out.1
    have lyr := Nat.lt_of_lt_of_le ly HB.out.lt
    have lN : w.heap.size < wr.heap.size := (Array.getElem?_eq_some_iff.1 HX.out).1
    have lM : w.heap.size + 1 < wr.heap.size := (Array.getElem?_eq_some_iff.1 HG.out).1
    by_cases hlt : k < n
    · obtain ⟨g, rfl⟩ : ∃ g, la = some ⟨g, 0, none⟩ := by
        rcases H.out.own.2 with ⟨e, e'⟩ | ⟨g, cap, cur, e, _⟩
        · omega
        · simp only [Value.slice.injEq] at e; exact ⟨g, e.1⟩
      have hrow := (Only.of_bl (S := fun _ => False) HB.out).owns H.out.own fun _ _ e => e
      have lg := (hrow.lt g rfl).2
      have hc : ∀ r, r < 5 → wr.cell? ⟨g, k * 5 + r, none⟩ = (wq5 (F k))[r]? := fun r hr => by
        rw [hrow.cellAt (k * 5 + r) (by omega), row5_get F n k r hlt hr]
      have c0 : wr.cell? ⟨g, k * 5, none⟩ = some (.int .i64 (F k).adr) := hc 0 (by omega)
      have c1 : wr.cell? ⟨g, k * 5 + 1, none⟩ = some (.int .i64 (F k).kd) := hc 1 (by omega)
      have c2 : wr.cell? ⟨g, k * 5 + 1 + 1, none⟩ = some (.int .i64 (F k).cl) := hc 2 (by omega)
      have c3 : wr.cell? ⟨g, k * 5 + 1 + 2, none⟩ = some (.int .i64 (F k).ca) := hc 3 (by omega)
      have c4 : wr.cell? ⟨g, k * 5 + 1 + 3, none⟩ = some (F k).v := hc 4 (by omega)
      have hkN : (k : Int) < (n : Int) := by omega
      have hk0 : (0 : Int) ≤ (k : Int) := by omega
      clear hrow hc
      by_cases he : (F k).adr = x
      · obtain ⟨wh, kd, cl, ca, v, hgf⟩ := gath_form F x k
        have hG := HG.out
        rw [hgf] at hG
        obtain ⟨⟨p0, p1, p2, p3, p4, p5, p6⟩, q0, q1, q2, q3, q4, q5, q6⟩ := row7 hG
        obtain ⟨va, vn, vc, hv⟩ : ∃ va vn vc, (F k).v = .slice va vn vc := by
          obtain ⟨va, vc, e⟩ := (ownsRow_sl (H.out.val k hlt)).len
          exact ⟨_, _, _, e⟩
        have hgs := gath_some he
        rw [hv] at c4 hgs
        have O := Only.set7 (w := wr) (S := fun b => b = w.heap.size + 1) rfl (.int .i64 2) (.int .i64 0) (.int .i64 0) (.int .i64 (F k).kd) (.int .i64 (F k).cl) (.int .i64 (F k).ca) (.slice va vn vc)
        have hs := set7_heap hG (.int .i64 2) (.int .i64 0) (.int .i64 0) (.int .i64 (F k).kd) (.int .i64 (F k).cl) (.int .i64 (F k).ca) (.slice va vn vc)
        rw [← hgs] at hs
        have HFin := hid (And.intro (HB.out.trans_only O fun n e => by omega) (And.intro ((O.block _ lN (by omega)).trans HX.out) hs))
        clear O hs hG hgf hgs
        go_wp2
        go_roundw
        case rel => exact ⟨k + 1, by omega, by go_num, HFin.out.1, HFin.out.2.1, HFin.out.2.2⟩
        case measure => simp [intOf]; omega
      · have HG2 := hid (HG.out.trans (by rw [gath_none he]) : wr.heap[w.heap.size + 1]? = some (.cells (gath F x (k + 1)) 98 (0, 0)))
        go_wp2
        go_roundw
        case rel => exact ⟨k + 1, by omega, by go_num, HB.out, HX.out, HG2.out⟩
        case measure => simp [intOf]; omega
    · obtain rfl : k = n := by omega
      have hG := HG.out
      have hX := HX.out
      unfold blank at hX
      obtain ⟨⟨n0, n1, n2, n3, n4, n5, n6⟩, f0, f1, f2, f3, f4, f5, f6⟩ := row7 hX
      have nNy : ¬ w.heap.size = y := by omega
      have nMy : ¬ w.heap.size + 1 = y := by omega
      have key : ∀ (wh kd cl ca : Int) (va : Option Addr) (vn vc : Nat), gath F x k = #[.int .i64 wh, .int .i64 0, .int .i64 0, .int .i64 kd, .int .i64 cl, .int .i64 ca, .slice va vn vc] → lookR F x mk k = (if x < mk then reply 4 0 mk kd cl ca (.slice none 0 0) else reply wh 0 0 kd cl ca (.slice va vn vc)) := by
        intro wh kd cl ca va vn vc hg
        unfold gath at hg
        unfold lookR
        cases hl : lk F x k with
        | none => rw [hl] at hg; simp at hg; obtain ⟨rfl, rfl, rfl, rfl, rfl, rfl, rfl⟩ := hg; rfl
        | some i => rw [hl] at hg; simp at hg; obtain ⟨rfl, rfl, rfl, rfl, h5⟩ := hg; simp [h5]
      obtain ⟨wh, kd, cl, ca, va, vn, vc, hgf⟩ : ∃ (wh kd cl ca : Int) (va : Option Addr) (vn vc : Nat), gath F x k = #[.int .i64 wh, .int .i64 0, .int .i64 0, .int .i64 kd, .int .i64 cl, .int .i64 ca, .slice va vn vc] := by
        unfold gath
        cases hl : lk F x k with
        | none => exact ⟨_, _, _, _, _, _, _, rfl⟩
        | some i =>
          obtain ⟨va, vc, e⟩ := (ownsRow_sl (H.out.val i (lk_lt F x k i hl).1)).len
          exact ⟨_, _, _, _, _, _, _, by simp only; rw [e]⟩
      have Hkey := hid (key wh kd cl ca va vn vc hgf)
      rw [hgf] at hG
      obtain ⟨⟨p0, p1, p2, p3, p4, p5, p6⟩, q0, q1, q2, q3, q4, q5, q6⟩ := row7 hG
      have HX2 := hid hX
      have HG2 := hid hG
      clear key hgf hX hG HX HG
      by_cases hm : x < mk
      · simp only [hm, if_true] at Hkey
        go_wp2
        have Z1 := (((Only.refl (fun b => b = w.heap.size + 1) wr).setCell ⟨w.heap.size + 1, 0, none⟩ (.inl rfl) (.int .i64 4)).setCell ⟨w.heap.size + 1, 2, none⟩ (.inl rfl) (.int .i64 mk)).setCell ⟨w.heap.size + 1, 6, none⟩ (.inl rfl) (.slice none 0 0)
        have Z := Only.set7 (w := ((wr.setCell ⟨w.heap.size + 1, 0, none⟩ (.int .i64 4)).setCell ⟨w.heap.size + 1, 2, none⟩ (.int .i64 mk)).setCell ⟨w.heap.size + 1, 6, none⟩ (.slice none 0 0)) (S := fun b => b = w.heap.size) rfl (.int .i64 4) (.int .i64 0) (.int .i64 mk) (.int .i64 kd) (.int .i64 cl) (.int .i64 ca) (.slice none 0 0)
        refine bodyPost_ret (v := reply 4 0 mk kd cl ca (.slice none 0 0)) (by simp [results, Tryz.results74, go_sem, reply, n0, n1, n2, n3, n4, n5, n6]) rfl ⟨congrArg _ Hkey.out.symm, (HB.out.trans_only Z1 fun n e => by omega).trans_only Z fun n e => by omega⟩
      · simp only [hm, if_false] at Hkey
        go_wp2
        have Z := Only.set7 (w := wr) (S := fun b => b = w.heap.size) rfl (.int .i64 wh) (.int .i64 0) (.int .i64 0) (.int .i64 kd) (.int .i64 cl) (.int .i64 ca) (.slice va vn vc)
        refine bodyPost_ret (v := reply wh 0 0 kd cl ca (.slice va vn vc)) (by simp [results, Tryz.results74, go_sem, reply, n0, n1, n2, n3, n4, n5, n6]) rfl ⟨congrArg _ Hkey.out.symm, HB.out.trans_only Z fun n e => by omega⟩
end Go.Proofs.YtkgjpfamjedncaaGreat

namespace Go.Proofs.YtkgjpfamjedncaaGreat
open Go.RowKit Go.Maps
attribute [local go_sem ↓] Go.wp_at_zero Go.wp_at_succ

theorem lookR_form {B0 : Nat} {w : World} {y : Nat} {a b c d u ep mk : Int} {lv : Value} {n : Nat} {F : Nat → Wq} (h : Cw B0 w y a b c d u ep mk lv n F) (x : Int) : ∃ (wh m kd cl ca : Int) (va : Option Addr) (vn vc : Nat), lookR F x mk n = reply wh 0 m kd cl ca (.slice va vn vc) := by
  unfold lookR
  cases hl : lk F x n with
  | none =>
    by_cases hm : x < mk
    · exact ⟨_, _, _, _, _, _, _, _, by simp only [hm, if_true]; rfl⟩
    · exact ⟨_, _, _, _, _, _, _, _, by simp only [hm, if_false]; rfl⟩
  | some i =>
    obtain ⟨va, vc, e⟩ := (ownsRow_sl (h.val i (lk_lt F x n i hl).1)).len
    by_cases hm : x < mk
    · exact ⟨_, _, _, _, _, _, _, _, by simp only [hm, if_true]; rfl⟩
    · exact ⟨_, _, _, _, _, _, _, _, by simp only [hm, if_false]; rw [e]⟩

/-- The answer of a read. -/
def readR (F : Nat → Wq) (a b c d u ep mk e x : Int) (n : Nat) : Value :=
  if e < ep then reply 5 ep 0 0 0 0 (.slice none 0 0) else if mineC a b c d u x = true then lookR F x mk n else reply 6 0 0 0 0 0 (.slice none 0 0)

set_option maxRecDepth 100000 in
set_option maxHeartbeats 2000000 in
theorem refRead_any (B0 y : Nat) (a b c d u ep mk : Int) (lv : Value) (n : Nat) (F : Nat → Wq) (e x : Int) (w : World) (h : Cw B0 w y a b c d u ep mk lv n F) (hn : n ≤ 4000000) (hu : 0 ≤ u) (hu9 : u ≤ 1000) (hf : fit a b c d = true) :
    Calls Tryz.prog 41 #[.pointer (some ⟨y, 0, none⟩), .int .i64 e, .int .i64 x] w fun en w' => en = .returned (readR F a b c d u ep mk e x n) ∧ Cw B0 w' y a b c d u (if e < ep then ep else e) mk lv n F ∧ Only (fun b => b = y) w w' := by
  have bA := (Bl.refl w).alloc (.cells blank 98)
  have ly := h.lt
  have HC := hid (oldC_any B0 y a b c d u ep mk lv n F e _ (h.bl bA))
  have HN := hid (heap_alloc_new w (.cells blank 98))
  have HbA := hid bA
  clear h bA
  unfold blank at HC HbA
  by_cases he : e < ep
  · have HR : Hid (readR F a b c d u ep mk e x n = reply 5 ep 0 0 0 0 (.slice none 0 0)) := by simp [Hid, readR, he]
    rw [HR.out]
    simp only [he, if_true] at HC ⊢
    go_enter Tryz.func41, Tryz.ntmps41
    go_wp2_with fail
    refine HC.out.mono ?_
    rintro en w' ⟨rfl, hc, O⟩
    have hN : w'.heap[w.heap.size]? = some (.cells blank 98 (0, 0)) := (O.block _ (by simp) (by omega)).trans HN.out
    have lN : w.heap.size < w'.heap.size := (Array.getElem?_eq_some_iff.1 hN).1
    obtain ⟨n0, n1, n2, n3, n4, n5, n6, f0, f1, f2, f3, f4, f5, f6⟩ := blank_row hN
    obtain ⟨_, _, _, _, _, k5, _⟩ := hc.cells
    have ly' := hc.lt
    have HCw := hid hc
    have HO := hid ((Only.of_bl HbA.out).trans O)
    have HN2 := hid hN
    clear hc O hN HC
    go_wp2
    have Z := Only.set7 (w := w') (S := fun b => b = w.heap.size) rfl (.int .i64 5) (.int .i64 ep) (.int .i64 0) (.int .i64 0) (.int .i64 0) (.int .i64 0) (.slice none 0 0)
    refine bodyPost_ret (v := reply 5 ep 0 0 0 0 (.slice none 0 0)) (by simp [results, Tryz.results41, go_sem, reply, n0, n1, n2, n3, n4, n5, n6]) rfl ⟨rfl, HCw.out.other Z HN2.out (by omega), HO.out.trans_new Z (fun n e => Nat.le_of_eq e.symm)⟩
  · simp only [he, if_false] at HC ⊢
    cases hm : mineC a b c d u x with
    | false =>
      have HR : Hid (readR F a b c d u ep mk e x n = reply 6 0 0 0 0 0 (.slice none 0 0)) := by simp [Hid, readR, he, hm]
      rw [HR.out]
      have Hm := hid hm
      clear hm
      go_enter Tryz.func41, Tryz.ntmps41
      go_wp2_with fail
      refine HC.out.mono ?_
      rintro en w1 ⟨rfl, hc, O⟩
      have hN : w1.heap[w.heap.size]? = some (.cells blank 98 (0, 0)) := (O.block _ (by simp) (by omega)).trans HN.out
      have HM := hid (refMine_any B0 y a b c d u e mk lv n F x w1 hc hu hu9 hf)
      rw [Hm.out] at HM
      have HCw := hid hc
      have HO := hid ((Only.of_bl HbA.out).trans O)
      have HN1 := hid hN
      clear hc O hN HC
      go_wp2_with fail
      refine HM.out.mono ?_
      rintro en w' ⟨rfl, hb⟩
      have hN := (hb.heap (Array.getElem?_eq_some_iff.1 HN1.out).1).trans HN1.out
      have lN : w.heap.size < w'.heap.size := (Array.getElem?_eq_some_iff.1 hN).1
      obtain ⟨n0, n1, n2, n3, n4, n5, n6, f0, f1, f2, f3, f4, f5, f6⟩ := blank_row hN
      have HC2 := hid (HCw.out.bl hb)
      have HO2 := hid (HO.out.trans (Only.of_bl hb))
      have HN2 := hid hN
      clear hN hb HM
      go_wp2
      have Z := Only.set7 (w := w') (S := fun b => b = w.heap.size) rfl (.int .i64 6) (.int .i64 0) (.int .i64 0) (.int .i64 0) (.int .i64 0) (.int .i64 0) (.slice none 0 0)
      refine bodyPost_ret (v := reply 6 0 0 0 0 0 (.slice none 0 0)) (by simp [results, Tryz.results41, go_sem, reply, n0, n1, n2, n3, n4, n5, n6]) rfl ⟨rfl, HC2.out.other Z HN2.out (by omega), HO2.out.trans_new Z (fun n e => Nat.le_of_eq e.symm)⟩
    | true =>
      have HR : Hid (readR F a b c d u ep mk e x n = lookR F x mk n) := by simp [Hid, readR, he, hm]
      rw [HR.out]
      have Hm := hid hm
      clear hm
      go_enter Tryz.func41, Tryz.ntmps41
      go_wp2_with fail
      refine HC.out.mono ?_
      rintro en w1 ⟨rfl, hc, O⟩
      have hN : w1.heap[w.heap.size]? = some (.cells blank 98 (0, 0)) := (O.block _ (by simp) (by omega)).trans HN.out
      have HM := hid (refMine_any B0 y a b c d u e mk lv n F x w1 hc hu hu9 hf)
      rw [Hm.out] at HM
      have HCw := hid hc
      have HO := hid ((Only.of_bl HbA.out).trans O)
      have HN1 := hid hN
      clear hc O hN HC
      go_wp2_with fail
      refine HM.out.mono ?_
      rintro en w2 ⟨rfl, hb⟩
      have HC2 := hid (HCw.out.bl hb)
      have HL := hid (refLook_any B0 y a b c d u e mk lv n F x w2 HC2.out hn)
      have HO2 := hid (HO.out.trans (Only.of_bl hb))
      have HN2 := hid ((hb.heap (Array.getElem?_eq_some_iff.1 HN1.out).1).trans HN1.out)
      obtain ⟨wh, m, kd, cl, ca, va, vn, vc, hlf⟩ := lookR_form HC2.out x
      have Hlf := hid hlf
      rw [hlf] at HL
      clear hb HM hlf HN1 HO HCw
      unfold reply at HL
      go_wp2_with fail
      refine HL.out.mono ?_
      rintro en w' ⟨rfl, hb⟩
      have hN := (hb.heap (Array.getElem?_eq_some_iff.1 HN2.out).1).trans HN2.out
      have lN : w.heap.size < w'.heap.size := (Array.getElem?_eq_some_iff.1 hN).1
      obtain ⟨n0, n1, n2, n3, n4, n5, n6, f0, f1, f2, f3, f4, f5, f6⟩ := blank_row hN
      have HC3 := hid (HC2.out.bl hb)
      have HO3 := hid (HO2.out.trans (Only.of_bl hb))
      have HN3 := hid hN
      clear hN hb HL
      go_wp2
      have Z := Only.set7 (w := w') (S := fun b => b = w.heap.size) rfl (.int .i64 wh) (.int .i64 0) (.int .i64 m) (.int .i64 kd) (.int .i64 cl) (.int .i64 ca) (.slice va vn vc)
      refine bodyPost_ret (v := reply wh 0 m kd cl ca (.slice va vn vc)) (by simp [results, Tryz.results41, go_sem, reply, n0, n1, n2, n3, n4, n5, n6]) rfl ⟨congrArg _ Hlf.out.symm, HC3.out.other Z HN3.out (by omega), HO3.out.trans_new Z (fun n e => Nat.le_of_eq e.symm)⟩
end Go.Proofs.YtkgjpfamjedncaaGreat

namespace Go.Proofs.YtkgjpfamjedncaaGreat
open Go.RowKit Go.Maps
attribute [local go_sem ↓] Go.wp_at_zero Go.wp_at_succ

/-- Boxes and the cells, behind a part of a write. -/
structure Wb (B0 : Nat) (w0 w : World) (y : Nat) (a b c d u ep mk : Int) (lv : Value) (n : Nat) (F : Nat → Wq) (cs : Array Value) : Prop where
  cw : Cw B0 w y a b c d u ep mk lv n F
  only : Only (fun b => b = y) w0 w
  bc : w.heap[w0.heap.size]? = some (.cells cs 42 (0, 0))
  br : w.heap[w0.heap.size + 1]? = some (.cells blank 98 (0, 0))
theorem Wb.bl {B0 : Nat} {w0 w w' : World} {y : Nat} {a b c d u ep mk : Int} {lv : Value} {n : Nat} {F : Nat → Wq} {cs : Array Value} (h : Wb B0 w0 w y a b c d u ep mk lv n F cs) (hb : Bl w w') : Wb B0 w0 w' y a b c d u ep mk lv n F cs :=
  ⟨h.cw.bl hb, h.only.trans (Only.of_bl hb), (hb.heap (Array.getElem?_eq_some_iff.1 h.bc).1).trans h.bc, (hb.heap (Array.getElem?_eq_some_iff.1 h.br).1).trans h.br⟩
theorem Wb.old {B0 : Nat} {w0 w : World} {y : Nat} {a b c d u ep mk : Int} {lv : Value} {n : Nat} {F : Nat → Wq} {cs : Array Value} (h : Wb B0 w0 w y a b c d u ep mk lv n F cs) (hy : y < w0.heap.size) (e : Int) :
    Calls Tryz.prog 72 #[.pointer (some ⟨y, 0, none⟩), .int .i64 e] w fun en w' => en = .returned (.bool (decide (e < ep))) ∧ Wb B0 w0 w' y a b c d u (if e < ep then ep else e) mk lv n F cs := by
  refine (oldC_any B0 y a b c d u ep mk lv n F e w h.cw).mono ?_
  rintro en w' ⟨rfl, hc, O⟩
  exact ⟨rfl, hc, h.only.trans O, (O.block _ (Array.getElem?_eq_some_iff.1 h.bc).1 (by omega)).trans h.bc, (O.block _ (Array.getElem?_eq_some_iff.1 h.br).1 (by omega)).trans h.br⟩
theorem Wb.start {B0 : Nat} {w : World} {y : Nat} {a b c d u ep mk : Int} {lv : Value} {n : Nat} {F : Nat → Wq} (h : Cw B0 w y a b c d u ep mk lv n F) (cs : Array Value) : Wb B0 w ((w.alloc (.cells cs 42)).alloc (.cells blank 98)) y a b c d u ep mk lv n F cs := by
  have bB : Bl w ((w.alloc (.cells cs 42)).alloc (.cells blank 98)) := ((Bl.refl w).alloc _).alloc _
  obtain ⟨h1, h2⟩ := heap_two w (.cells cs 42) (.cells blank 98)
  exact ⟨h.bl bB, Only.of_bl bB, h1, h2⟩
/-- The answer is laid. -/
theorem Wb.fin {B0 : Nat} {w0 w : World} {y : Nat} {a b c d u ep mk : Int} {lv : Value} {n : Nat} {F : Nat → Wq} {cs : Array Value} (h : Wb B0 w0 w y a b c d u ep mk lv n F cs) (hy : y < w0.heap.size) (x0 x1 x2 x3 x4 x5 x6 : Value) :
    Cw B0 (((((((w.setCell ⟨w0.heap.size + 1, 0, none⟩ x0).setCell ⟨w0.heap.size + 1, 1, none⟩ x1).setCell ⟨w0.heap.size + 1, 2, none⟩ x2).setCell ⟨w0.heap.size + 1, 3, none⟩ x3).setCell ⟨w0.heap.size + 1, 4, none⟩ x4).setCell ⟨w0.heap.size + 1, 5, none⟩ x5).setCell ⟨w0.heap.size + 1, 6, none⟩ x6) y a b c d u ep mk lv n F ∧
    Only (fun b => b = y) w0 (((((((w.setCell ⟨w0.heap.size + 1, 0, none⟩ x0).setCell ⟨w0.heap.size + 1, 1, none⟩ x1).setCell ⟨w0.heap.size + 1, 2, none⟩ x2).setCell ⟨w0.heap.size + 1, 3, none⟩ x3).setCell ⟨w0.heap.size + 1, 4, none⟩ x4).setCell ⟨w0.heap.size + 1, 5, none⟩ x5).setCell ⟨w0.heap.size + 1, 6, none⟩ x6) := by
  have Z := Only.set7 (w := w) (S := fun b => b = w0.heap.size + 1) (g := w0.heap.size + 1) rfl x0 x1 x2 x3 x4 x5 x6
  exact ⟨h.cw.other Z h.br (by omega), h.only.trans_new Z (fun n e => by omega)⟩

set_option maxRecDepth 100000 in
set_option maxHeartbeats 2000000 in
theorem refWriteOld_any (B0 y : Nat) (a b c d u ep mk : Int) (lv : Value) (n : Nat) (F : Nat → Wq) (e x kd cl ca : Int) (va : Option Addr) (vn vc : Nat) (w : World) (h : Cw B0 w y a b c d u ep mk lv n F) (he : e < ep) :
    Calls Tryz.prog 44 #[.pointer (some ⟨y, 0, none⟩), .int .i64 e, .int .i64 x, .agg #[.int .i64 kd, .int .i64 cl, .int .i64 ca, .slice va vn vc]] w fun en w' => en = .returned (reply 5 ep 0 0 0 0 (.slice none 0 0)) ∧ Cw B0 w' y a b c d u ep mk lv n F ∧ Only (fun b => b = y) w w' := by
  have ly := h.lt
  have HC := hid ((Wb.start h #[.int .i64 kd, .int .i64 cl, .int .i64 ca, .slice va vn vc]).old ly e)
  clear h
  unfold blank at HC
  simp only [he, if_true] at HC
  go_enter Tryz.func44, Tryz.ntmps44
  go_wp2_with fail
  refine HC.out.mono ?_
  rintro en w' ⟨rfl, hw⟩
  obtain ⟨n0, n1, n2, n3, n4, n5, n6, f0, f1, f2, f3, f4, f5, f6⟩ := blank_row hw.br
  have lN : w.heap.size + 1 < w'.heap.size := (Array.getElem?_eq_some_iff.1 hw.br).1
  obtain ⟨_, _, _, _, _, k5, _⟩ := hw.cw.cells
  have ly' := hw.cw.lt
  have HW := hid hw
  clear hw HC
  go_wp2
  refine bodyPost_ret (v := reply 5 ep 0 0 0 0 (.slice none 0 0)) (by simp [results, Tryz.results44, go_sem, reply, n0, n1, n2, n3, n4, n5, n6]) rfl ⟨rfl, HW.out.fin ly _ _ _ _ _ _ _⟩

set_option maxRecDepth 100000 in
set_option maxHeartbeats 2000000 in
theorem refWriteNo_any (B0 y : Nat) (a b c d u ep mk : Int) (lv : Value) (n : Nat) (F : Nat → Wq) (e x kd cl ca : Int) (va : Option Addr) (vn vc : Nat) (w : World) (h : Cw B0 w y a b c d u ep mk lv n F) (hu : 0 ≤ u) (hu9 : u ≤ 1000) (hf : fit a b c d = true) (hvn : vn ≤ 40000000) (he : ¬ e < ep) (hno : mineC a b c d u x = false ∨ isC kd vn = false) :
    Calls Tryz.prog 44 #[.pointer (some ⟨y, 0, none⟩), .int .i64 e, .int .i64 x, .agg #[.int .i64 kd, .int .i64 cl, .int .i64 ca, .slice va vn vc]] w fun en w' => en = .returned (reply 6 0 0 0 0 0 (.slice none 0 0)) ∧ Cw B0 w' y a b c d u e mk lv n F ∧ Only (fun b => b = y) w w' := by
  have ly := h.lt
  have HC := hid ((Wb.start h #[.int .i64 kd, .int .i64 cl, .int .i64 ca, .slice va vn vc]).old ly e)
  clear h
  unfold blank at HC
  simp only [he, if_false] at HC
  have Hno := hid hno
  clear hno
  go_enter Tryz.func44, Tryz.ntmps44
  go_wp2_with fail
  refine HC.out.mono ?_
  rintro en w1 ⟨rfl, hw⟩
  have HM := hid (refMine_any B0 y a b c d u e mk lv n F x w1 hw.cw hu hu9 hf)
  have HW := hid hw
  obtain ⟨mm, Hmm⟩ : ∃ mm, Hid (mineC a b c d u x = mm) := ⟨_, rfl⟩
  rw [Hmm.out] at HM
  clear hw HC
  go_wp2_with fail
  refine HM.out.mono ?_
  rintro en w2 ⟨rfl, hb2⟩
  have HW2 := hid (HW.out.bl hb2)
  have b0 := cell_of_row w2 w.heap.size 0 _ 42 (0, 0) HW2.out.bc
  have b1 := cell_of_row w2 w.heap.size 1 _ 42 (0, 0) HW2.out.bc
  have b2 := cell_of_row w2 w.heap.size 2 _ 42 (0, 0) HW2.out.bc
  have b3 := cell_of_row w2 w.heap.size 3 _ 42 (0, 0) HW2.out.bc
  simp at b0 b1 b2 b3
  have HI := hid (refContent_any kd cl ca va vn vc w2 hvn)
  obtain ⟨ii, Hii⟩ : ∃ ii, Hid (isC kd vn = ii) := ⟨_, rfl⟩
  rw [Hii.out] at HI
  have lB : w.heap.size < w2.heap.size := (Array.getElem?_eq_some_iff.1 HW2.out.bc).1
  clear hb2 HM HW
  go_wp2_with fail
  refine HI.out.mono ?_
  rintro en w3 ⟨rfl, hb3⟩
  have HW3 := hid (HW2.out.bl hb3)
  obtain ⟨n0, n1, n2, n3, n4, n5, n6, f0, f1, f2, f3, f4, f5, f6⟩ := blank_row HW3.out.br
  have lN : w.heap.size + 1 < w3.heap.size := (Array.getElem?_eq_some_iff.1 HW3.out.br).1
  clear hb3 HI HW2 b0 b1 b2 b3
  have hmi : mm = false ∨ ii = false := by rw [← Hmm.out, ← Hii.out]; exact Hno.out
  cases mm with
  | false =>
    go_wp2
    refine bodyPost_ret (v := reply 6 0 0 0 0 0 (.slice none 0 0)) (by simp [results, Tryz.results44, go_sem, reply, n0, n1, n2, n3, n4, n5, n6]) rfl ⟨rfl, HW3.out.fin ly _ _ _ _ _ _ _⟩
  | true =>
    have hii : ii = false := by simpa using hmi
    subst hii
    go_wp2
    refine bodyPost_ret (v := reply 6 0 0 0 0 0 (.slice none 0 0)) (by simp [results, Tryz.results44, go_sem, reply, n0, n1, n2, n3, n4, n5, n6]) rfl ⟨rfl, HW3.out.fin ly _ _ _ _ _ _ _⟩
end Go.Proofs.YtkgjpfamjedncaaGreat

namespace Go.Proofs.YtkgjpfamjedncaaGreat
open Go.RowKit Go.Maps
attribute [local go_sem ↓] Go.wp_at_zero Go.wp_at_succ

theorem Tryz.info137 : (Tryz.prog.info? 137).map (fun i => (i.zero, i.size, i.bytes)) = some (some (.agg #[.int .i64 0, .int .i64 0, .int .i64 0, .int .i64 0, .slice none 0 0]), 5, 56) := by kernel_rfl

set_option maxRecDepth 100000 in
set_option maxHeartbeats 2000000 in
theorem refWriteTold_any (B0 y : Nat) (a b c d u ep mk : Int) (lv : Value) (n : Nat) (F : Nat → Wq) (e x kd cl ca : Int) (va : Option Addr) (vn vc : Nat) (w : World) (h : Cw B0 w y a b c d u ep mk lv n F) (hn : n ≤ 4000000) (hu : 0 ≤ u) (hu9 : u ≤ 1000) (hf : fit a b c d = true) (hvn : vn ≤ 40000000) (he : ¬ e < ep) (hmi : mineC a b c d u x = true) (hic : isC kd vn = true) (wh m tk tl ta : Int) (sa : Option Addr) (sn sc : Nat) (hlf : lookR F x mk n = reply wh 0 m tk tl ta (.slice sa sn sc)) (hwh : wh ≠ 3) :
    Calls Tryz.prog 44 #[.pointer (some ⟨y, 0, none⟩), .int .i64 e, .int .i64 x, .agg #[.int .i64 kd, .int .i64 cl, .int .i64 ca, .slice va vn vc]] w fun en w' => en = .returned (reply wh 0 m tk tl ta (.slice sa sn sc)) ∧ Cw B0 w' y a b c d u e mk lv n F ∧ Only (fun b => b = y) w w' := by
  have ly := h.lt
  have HC := hid ((Wb.start h #[.int .i64 kd, .int .i64 cl, .int .i64 ca, .slice va vn vc]).old ly e)
  clear h
  unfold blank at HC
  simp only [he, if_false] at HC
  have Hmi := hid hmi
  have Hic := hid hic
  have Hlf := hid hlf
  clear hmi hic hlf
  go_enter Tryz.func44, Tryz.ntmps44
  go_wp2_with fail
  refine HC.out.mono ?_
  rintro en w1 ⟨rfl, hw⟩
  have HM := hid (refMine_any B0 y a b c d u e mk lv n F x w1 hw.cw hu hu9 hf)
  have HW := hid hw
  rw [Hmi.out] at HM
  clear hw HC
  go_wp2_with fail
  refine HM.out.mono ?_
  rintro en w2 ⟨rfl, hb2⟩
  have HW2 := hid (HW.out.bl hb2)
  have b0 := cell_of_row w2 w.heap.size 0 _ 42 (0, 0) HW2.out.bc
  have b1 := cell_of_row w2 w.heap.size 1 _ 42 (0, 0) HW2.out.bc
  have b2 := cell_of_row w2 w.heap.size 2 _ 42 (0, 0) HW2.out.bc
  have b3 := cell_of_row w2 w.heap.size 3 _ 42 (0, 0) HW2.out.bc
  simp at b0 b1 b2 b3
  have HI := hid (refContent_any kd cl ca va vn vc w2 hvn)
  rw [Hic.out] at HI
  have lB : w.heap.size < w2.heap.size := (Array.getElem?_eq_some_iff.1 HW2.out.bc).1
  clear hb2 HM HW
  go_wp2_with fail
  refine HI.out.mono ?_
  rintro en w3 ⟨rfl, hb3⟩
  have HW3 := hid (HW2.out.bl hb3)
  have HL := hid (refLook_any B0 y a b c d u e mk lv n F x w3 HW3.out.cw hn)
  rw [Hlf.out] at HL
  unfold reply at HL
  clear hb3 HI HW2 b0 b1 b2 b3
  go_wp2_with fail
  refine HL.out.mono ?_
  rintro en w4 ⟨rfl, hb4⟩
  have HW4 := hid (HW3.out.bl hb4)
  obtain ⟨n0, n1, n2, n3, n4, n5, n6, f0, f1, f2, f3, f4, f5, f6⟩ := blank_row HW4.out.br
  have lN : w.heap.size + 1 < w4.heap.size := (Array.getElem?_eq_some_iff.1 HW4.out.br).1
  have nN : ¬ w.heap.size + 1 = w4.heap.size := by omega
  have hw3 : (wh == 3) = false := by simpa using hwh
  clear hb4 HL HW3
  go_wp2
  obtain ⟨r1, r2⟩ := HW4.out.fin ly (.int .i64 wh) (.int .i64 0) (.int .i64 m) (.int .i64 tk) (.int .i64 tl) (.int .i64 ta) (.slice sa sn sc)
  have hz := set7_heap (w := w4) (g := w.heap.size + 1) HW4.out.br (.int .i64 wh) (.int .i64 0) (.int .i64 m) (.int .i64 tk) (.int .i64 tl) (.int .i64 ta) (.slice sa sn sc)
  generalize (((((((w4.setCell ⟨w.heap.size + 1, 0, none⟩ (.int .i64 wh)).setCell ⟨w.heap.size + 1, 1, none⟩ (.int .i64 0)).setCell ⟨w.heap.size + 1, 2, none⟩ (.int .i64 m)).setCell ⟨w.heap.size + 1, 3, none⟩ (.int .i64 tk)).setCell ⟨w.heap.size + 1, 4, none⟩ (.int .i64 tl)).setCell ⟨w.heap.size + 1, 5, none⟩ (.int .i64 ta)).setCell ⟨w.heap.size + 1, 6, none⟩ (.slice sa sn sc)) = WZ at r1 r2 hz ⊢
  have hz2 := (((Bl.refl WZ).alloc (.cells #[.int .i64 wh, .int .i64 0, .int .i64 m, .int .i64 tk, .int .i64 tl, .int .i64 ta, .slice sa sn sc] 98)).heap (Array.getElem?_eq_some_iff.1 hz).1).trans hz
  obtain ⟨⟨g0, g1, g2, g3, g4, g5, g6⟩, _⟩ := row7 hz2
  have r3 := r1.bl ((Bl.refl WZ).alloc (.cells #[.int .i64 wh, .int .i64 0, .int .i64 m, .int .i64 tk, .int .i64 tl, .int .i64 ta, .slice sa sn sc] 98))
  have r4 := r2.trans (Only.of_bl ((Bl.refl WZ).alloc (.cells #[.int .i64 wh, .int .i64 0, .int .i64 m, .int .i64 tk, .int .i64 tl, .int .i64 ta, .slice sa sn sc] 98)))
  generalize WZ.alloc (.cells #[.int .i64 wh, .int .i64 0, .int .i64 m, .int .i64 tk, .int .i64 tl, .int .i64 ta, .slice sa sn sc] 98) = WY at r3 r4 g0 g1 g2 g3 g4 g5 g6 ⊢
  exact bodyPost_ret (v := reply wh 0 m tk tl ta (.slice sa sn sc)) (by simp [results, Tryz.results44, go_sem, reply, g0, g1, g2, g3, g4, g5, g6]) rfl ⟨rfl, r3, r4⟩
end Go.Proofs.YtkgjpfamjedncaaGreat
