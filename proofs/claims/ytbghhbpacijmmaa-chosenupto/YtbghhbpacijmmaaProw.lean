-- What Chosen reads and writes in memory.
import Derived.Test.YtbghhbpacijmmaaMake
import Derived.Test.YtbghhbpacijmmaaSteps
import Derived.Test.YtbghhbpacijmmaaPick
namespace Go.Proofs.Ytbghhbpacijmmaa
open Go.RowKit Go.Maps

theorem Try.info43 : (Try.prog.info? 43).map (fun i => (i.zero, i.size, i.bytes)) = some (some (.pointer none), 1, 8) := by kernel_rfl
theorem pick_nat (c : Int) (n : Nat) (w : World) (h0 : -9223372036854775808 ≤ c ∧ c ≤ 9223372036854775807) (hn : 0 < n) (hn1 : n ≤ 1000) :
    Calls Try.prog 6 #[.int .i64 c, .int .i64 (n : Int)] w fun e w' => e = .returned (.int .i64 ((pk c n).toNat : Nat)) ∧ w' = w := by
  refine (pick_any c n w h0.1 h0.2 (by omega) (by omega)).mono ?_
  rintro e w' ⟨rfl, rfl⟩
  have := pk_range c n (by omega)
  exact ⟨by rw [Int.toNat_of_nonneg this.1], rfl⟩
theorem pk_lt (c : Int) (n : Nat) (hn : 0 < n) : (pk c n).toNat < n := by
  have := pk_range c n (by omega)
  omega

/-- Three proposers as they lie at first, with values a, b, c. -/
def prow (a b c : ByteArray) : Array Value := #[.bool false, .int .i64 0, .bool false, .bool false, .bool false, .bool false, .bool false, .bool false, .bool false, .bool false, .bool false, .bool false, .int .i64 0, .string a,
  .bool false, .int .i64 0, .bool false, .bool false, .bool false, .bool false, .bool false, .bool false, .bool false, .bool false, .bool false, .bool false, .int .i64 0, .string b,
  .bool false, .int .i64 0, .bool false, .bool false, .bool false, .bool false, .bool false, .bool false, .bool false, .bool false, .bool false, .bool false, .int .i64 0, .string c]
def nmRow : Array Value := #[.string { data := #[97] }, .string { data := #[98] }, .string { data := #[99] }]
def loadedTo (wr : World) (i : Nat) : World := (wr.alloc (.cells (prow (if 0 < i then { data := #[97] } else { data := #[] }) (if 1 < i then { data := #[98] } else { data := #[] }) (if 2 < i then { data := #[99] } else { data := #[] })) 54)).alloc (.cells nmRow 9)

theorem cm_start {w : World} {n : Nat} {e : Int} {vb cap : Nat} {wr : World} (h : Mk w n e (.slice (some ⟨vb, 0, none⟩) n cap) wr) : Cm w n e vb wr.heap.size (wr.heap.size + 1) (2 * n) (fun _ => nop) (fun q => PS.fresh 0 q) (loadedTo wr 3) := by
  obtain ⟨⟨tag, P, h1, h2, h3, h4⟩, hl⟩ := h
  have lw := hl.lt
  have lv := h4.lt vb rfl
  have B : Bl wr (loadedTo wr 3) := ((Bl.refl wr).alloc _).alloc _
  refine ⟨⟨tagTo tag wr.heap.size 9, P, _, h1.only (Only.of_bl (S := fun _ => False) B) (fun _ _ e => e.elim) (fun b hb => tagTo_old _ _ _ _ hb), fun j => (E2_at e).symm, fun b hb => by rw [tagTo_old _ _ _ _ (by omega)]; exact h2 b hb, by rw [tagTo_old _ _ _ _ lv.2]; exact h3 vb rfl, tagTo_new _ _ _ _ (Nat.le_refl _), tagTo_new _ _ _ _ (by omega), ?_⟩, ?_, ?_, hl.trans B, ⟨by omega, by omega, by omega⟩, ⟨lv.1, by omega, by omega⟩⟩
  · rcases h4.2 with ⟨h', _⟩ | ⟨g, cap', cur, h', hb, hg, hc, hm, hs, ht⟩
    · simp at h'
    · simp only [Value.slice.injEq, Option.some.injEq, Addr.mk.injEq, and_true, true_and] at h'
      obtain ⟨rfl, rfl⟩ := h'
      refine ⟨cur, 43, (B.heap lv.2).trans hg, fun j hj => ?_⟩
      have h5 : (cur.toList.take (n * 1))[j]? = (ptrs P n)[j]? := by rw [ht]
      rw [List.getElem?_take, if_pos (by omega), Array.getElem?_toList] at h5
      rw [h5]
      simp [ptrs, hj]
  · refine ⟨fun i => (prow { data := #[97] } { data := #[98] } { data := #[99] })[i]?.getD (.bool false), ⟨_, 54, (((Bl.refl _).alloc _).heap (by simp)).trans (heap_alloc_new wr _), fun i hi => ?_⟩, ?_⟩
    · simp only [Nat.lt_add_one, if_pos (show 0 < 3 by decide), if_pos (show 1 < 3 by decide)]
      rw [Array.getElem?_eq_getElem (by simp [prow]; exact hi)]
      simp [Array.getElem?_eq_getElem (show i < (prow { data := #[97] } { data := #[98] } { data := #[99] }).size by simp [prow]; exact hi)]
    · have three : ∀ q, q < 3 → q = 0 ∨ q = 1 ∨ q = 2 := fun q h => by omega
      have five : ∀ q, q < 5 → q = 0 ∨ q = 1 ∨ q = 2 ∨ q = 3 ∨ q = 4 := fun q h => by omega
      refine ⟨fun q hq => ?_, fun q hq => ?_, fun q k hq hk => ?_, fun q k hq hk => ?_, fun q hq => ?_, fun q hq => ?_⟩
      · rcases three q hq with rfl | rfl | rfl <;> rfl
      · rcases three q hq with rfl | rfl | rfl <;> rfl
      · rcases three q hq with rfl | rfl | rfl <;> rcases five k hk with rfl | rfl | rfl | rfl | rfl <;> rfl
      · rcases three q hq with rfl | rfl | rfl <;> rcases five k hk with rfl | rfl | rfl | rfl | rfl <;> rfl
      · rcases three q hq with rfl | rfl | rfl <;> rfl
      · rcases three q hq with rfl | rfl | rfl <;> rfl
  · have := heap_alloc_new' wr (.cells (prow { data := #[97] } { data := #[98] } { data := #[99] }) 54) (.cells nmRow 9)
    exact this

/-- The tries, as they came in. -/
def Trs (w : World) (a : Option Addr) (m : Nat) : Prop :=
  ∃ b o, (0 < m → a = some ⟨b, o, none⟩ ∧ b < w.heap.size) ∧ ∀ j, j < m → ∃ x y z : Int, (w.cell? ⟨b, o + j * 3, none⟩ = some (.int .i64 x) ∧ w.cell? ⟨b, o + j * 3 + 1, none⟩ = some (.int .i64 y) ∧ w.cell? ⟨b, o + j * 3 + 2, none⟩ = some (.int .i64 z)) ∧ (-9223372036854775808 ≤ x ∧ x ≤ 9223372036854775807) ∧ (-9223372036854775808 ≤ y ∧ y ≤ 9223372036854775807) ∧ (-9223372036854775808 ≤ z ∧ z ≤ 9223372036854775807)


theorem Cm.mono {w : World} {n : Nat} {e : Int} {vb psb nb t t' : Nat} {ep : Nat → Ep} {ps : Nat → PS} {wr : World} (h : Cm w n e vb psb nb t ep ps wr) (ht : t ≤ t') : Cm w n e vb psb nb t' ep ps wr := by
  obtain ⟨⟨tag, P, EE, h1, h2⟩, h3⟩ := h
  exact ⟨⟨tag, P, EE, h1.mono ht, h2⟩, by assumption, by assumption, by assumption, by assumption, by assumption⟩
theorem Cm.lt {w : World} {n : Nat} {e : Int} {vb psb nb t : Nat} {ep : Nat → Ep} {ps : Nat → PS} {wr : World} (h : Cm w n e vb psb nb t ep ps wr) : vb < wr.heap.size ∧ psb < wr.heap.size ∧ nb < wr.heap.size := by
  obtain ⟨⟨tag, P, EE, _, _, _, _, _, _, arr, tv, h7, _⟩, ⟨K, k1, _⟩, hn, _⟩ := h
  exact ⟨(Array.getElem?_eq_some_iff.1 h7).1, k1.lt, (Array.getElem?_eq_some_iff.1 hn).1⟩
/-- What a proposer's cells hold. -/
structure Pc (wr : World) (psb q : Nat) (x : PS) : Prop where
  ask : wr.cell? ⟨psb, q * 14, none⟩ = some (.bool x.asks)
  bal : wr.cell? ⟨psb, q * 14 + 1, none⟩ = some (.int .i64 x.ballot)
  prm : ∀ k, k < 5 → wr.cell? ⟨psb, q * 14 + 2 + k, none⟩ = some (.bool (x.prom k))
  vot : ∀ k, k < 5 → wr.cell? ⟨psb, q * 14 + 7 + k, none⟩ = some (.bool (x.vot k))
  bst : wr.cell? ⟨psb, q * 14 + 12, none⟩ = some (.int .i64 x.best)
  val : wr.cell? ⟨psb, q * 14 + 13, none⟩ = some (.string (strOf x.value))
  fr : ∀ c, wr.frozen? ⟨psb, c, none⟩ = false
theorem Cm.pc {w : World} {n : Nat} {e : Int} {vb psb nb t : Nat} {ep : Nat → Ep} {ps : Nat → PS} {wr : World} (h : Cm w n e vb psb nb t ep ps wr) (q : Nat) (hq : q < 3) : Pc wr psb q (ps q) := by
  obtain ⟨K, k1, k2⟩ := h.pb
  refine ⟨?_, ?_, fun k hk => ?_, fun k hk => ?_, ?_, ?_, fun c => k1.frozen c⟩
  · rw [Nat.mul_comm, k1.cell _ (by omega), k2.ask q hq]
  · rw [Nat.mul_comm, k1.cell _ (by omega), k2.bal q hq]
  · rw [Nat.mul_comm, k1.cell _ (by omega), k2.prm q k hq hk]
  · rw [Nat.mul_comm, k1.cell _ (by omega), k2.vot q k hq hk]
  · rw [Nat.mul_comm, k1.cell _ (by omega), k2.bst q hq]
  · rw [Nat.mul_comm, k1.cell _ (by omega), k2.val q hq]
theorem Cm.name {w : World} {n : Nat} {e : Int} {vb psb nb t : Nat} {ep : Nat → Ep} {ps : Nat → PS} {wr : World} (h : Cm w n e vb psb nb t ep ps wr) (q : Nat) (hq : q < 3) : wr.cell? ⟨nb, q, none⟩ = some (.string (strOf (nm q))) := by
  rw [cell_of_row _ _ q _ 9 (0, 0) h.na]
  have three : q = 0 ∨ q = 1 ∨ q = 2 := by omega
  rcases three with rfl | rfl | rfl <;> rfl
theorem Cm.setAsk {w : World} {n : Nat} {e : Int} {vb psb nb t : Nat} {ep : Nat → Ep} {ps : Nat → PS} {wr : World} (h : Cm w n e vb psb nb t ep ps wr) (hn5 : n ≤ 5) (q : Nat) (hq : q < 3) (b : Bool) : Cm w n e vb psb nb t ep (upN ps q { ps q with asks := b }) (wr.setCell ⟨psb, q * 14, none⟩ (.bool b)) := by
  have := h.set hn5 q 0 (.bool b) fun K hK => hK.setAsk q hq b
  rwa [Nat.add_zero, Nat.mul_comm] at this
theorem Cm.setPrm {w : World} {n : Nat} {e : Int} {vb psb nb t : Nat} {ep : Nat → Ep} {ps : Nat → PS} {wr : World} (h : Cm w n e vb psb nb t ep ps wr) (hn5 : n ≤ 5) (q k : Nat) (hq : q < 3) (hk : k < 5) (b : Bool) : Cm w n e vb psb nb t ep (upN ps q { ps q with prom := upN (ps q).prom k b }) (wr.setCell ⟨psb, q * 14 + 2 + k, none⟩ (.bool b)) := by
  have := h.set hn5 q (2 + k) (.bool b) fun K hK => hK.setPrm q k hq hk b
  rwa [← Nat.add_assoc, Nat.mul_comm] at this
theorem Cm.setVot {w : World} {n : Nat} {e : Int} {vb psb nb t : Nat} {ep : Nat → Ep} {ps : Nat → PS} {wr : World} (h : Cm w n e vb psb nb t ep ps wr) (hn5 : n ≤ 5) (q k : Nat) (hq : q < 3) (hk : k < 5) (b : Bool) : Cm w n e vb psb nb t ep (upN ps q { ps q with vot := upN (ps q).vot k b }) (wr.setCell ⟨psb, q * 14 + 7 + k, none⟩ (.bool b)) := by
  have := h.set hn5 q (7 + k) (.bool b) fun K hK => hK.setVot q k hq hk b
  rwa [← Nat.add_assoc, Nat.mul_comm] at this
theorem Cm.setBst {w : World} {n : Nat} {e : Int} {vb psb nb t : Nat} {ep : Nat → Ep} {ps : Nat → PS} {wr : World} (h : Cm w n e vb psb nb t ep ps wr) (hn5 : n ≤ 5) (q : Nat) (hq : q < 3) (b : Int) : Cm w n e vb psb nb t ep (upN ps q { ps q with best := b }) (wr.setCell ⟨psb, q * 14 + 12, none⟩ (.int .i64 b)) := by
  have := h.set hn5 q 12 (.int .i64 b) fun K hK => hK.setBst q hq b
  rwa [Nat.mul_comm] at this
theorem Cm.setVal {w : World} {n : Nat} {e : Int} {vb psb nb t : Nat} {ep : Nat → Ep} {ps : Nat → PS} {wr : World} (h : Cm w n e vb psb nb t ep ps wr) (hn5 : n ≤ 5) (q : Nat) (hq : q < 3) (v : List Int) : Cm w n e vb psb nb t ep (upN ps q { ps q with value := v }) (wr.setCell ⟨psb, q * 14 + 13, none⟩ (.string (strOf v))) := by
  have := h.set hn5 q 13 (.string (strOf v)) fun K hK => hK.setVal q hq v
  rwa [Nat.mul_comm] at this
theorem Cm.setBal {w : World} {n : Nat} {e : Int} {vb psb nb t : Nat} {ep : Nat → Ep} {ps : Nat → PS} {wr : World} (h : Cm w n e vb psb nb t ep ps wr) (hn5 : n ≤ 5) (q : Nat) (hq : q < 3) (v : Int) : Cm w n e vb psb nb t ep (upN ps q { ps q with ballot := v }) (wr.setCell ⟨psb, q * 14 + 1, none⟩ (.int .i64 v)) := by
  have := h.set hn5 q 1 (.int .i64 v) fun K hK => hK.setBal q hq v
  rwa [Nat.mul_comm] at this
theorem Cm.samePs {w : World} {n : Nat} {e : Int} {vb psb nb t : Nat} {ep : Nat → Ep} {ps ps' : Nat → PS} {wr : World} (h : Cm w n e vb psb nb t ep ps wr) (hs : ∀ q, q < 3 → (ps' q).asks = (ps q).asks ∧ (ps' q).ballot = (ps q).ballot ∧ (∀ k, k < 5 → (ps' q).prom k = (ps q).prom k ∧ (ps' q).vot k = (ps q).vot k) ∧ (ps' q).best = (ps q).best ∧ (ps' q).value = (ps q).value) : Cm w n e vb psb nb t ep ps' wr := by
  obtain ⟨h1, ⟨K, k1, k2⟩, h3, h4, h5, h6⟩ := h
  exact ⟨h1, ⟨K, k1, fun q hq => by rw [(hs q hq).1]; exact k2.ask q hq, fun q hq => by rw [(hs q hq).2.1]; exact k2.bal q hq, fun q k hq hk => by rw [((hs q hq).2.2.1 k hk).1]; exact k2.prm q k hq hk, fun q k hq hk => by rw [((hs q hq).2.2.1 k hk).2]; exact k2.vot q k hq hk, fun q hq => by rw [(hs q hq).2.2.2.1]; exact k2.bst q hq, fun q hq => by rw [(hs q hq).2.2.2.2]; exact k2.val q hq⟩, h3, h4, h5, h6⟩
/-- A proposer is laid anew, cell by cell. -/
theorem Cm.fresh {w : World} {n : Nat} {e : Int} {vb psb nb t : Nat} {ep : Nat → Ep} {ps : Nat → PS} {wr : World} (h : Cm w n e vb psb nb t ep ps wr) (hn5 : n ≤ 5) (q : Nat) (hq : q < 3) (b : Int) :
    Cm w n e vb psb nb t ep (upN ps q (PS.fresh b q)) ((((((((((((((wr.setCell ⟨psb, q * 14, none⟩ (.bool false)).setCell ⟨psb, q * 14 + 1, none⟩ (.int .i64 b)).setCell ⟨psb, q * 14 + 2, none⟩ (.bool false)).setCell ⟨psb, q * 14 + 3, none⟩ (.bool false)).setCell ⟨psb, q * 14 + 4, none⟩ (.bool false)).setCell ⟨psb, q * 14 + 5, none⟩ (.bool false)).setCell ⟨psb, q * 14 + 6, none⟩ (.bool false)).setCell ⟨psb, q * 14 + 7, none⟩ (.bool false)).setCell ⟨psb, q * 14 + 8, none⟩ (.bool false)).setCell ⟨psb, q * 14 + 9, none⟩ (.bool false)).setCell ⟨psb, q * 14 + 10, none⟩ (.bool false)).setCell ⟨psb, q * 14 + 11, none⟩ (.bool false)).setCell ⟨psb, q * 14 + 12, none⟩ (.int .i64 0)).setCell ⟨psb, q * 14 + 13, none⟩ (.string (strOf (nm q)))) := by
  have h0 := ((((((((((((((h.setAsk hn5 q hq false).setBal hn5 q hq b).setPrm hn5 q 0 hq (by omega) false).setPrm hn5 q 1 hq (by omega) false).setPrm hn5 q 2 hq (by omega) false).setPrm hn5 q 3 hq (by omega) false).setPrm hn5 q 4 hq (by omega) false).setVot hn5 q 0 hq (by omega) false).setVot hn5 q 1 hq (by omega) false).setVot hn5 q 2 hq (by omega) false).setVot hn5 q 3 hq (by omega) false).setVot hn5 q 4 hq (by omega) false).setBst hn5 q hq 0).setVal hn5 q hq (nm q))
  have five : ∀ q, q < 5 → q = 0 ∨ q = 1 ∨ q = 2 ∨ q = 3 ∨ q = 4 := fun q h => by omega
  refine h0.samePs fun j hj => ?_
  by_cases ej : j = q
  · subst ej
    simp only [upN_same]
    refine ⟨rfl, rfl, fun k hk => ?_, rfl, rfl⟩
    rcases five k hk with rfl | rfl | rfl | rfl | rfl <;> exact ⟨rfl, rfl⟩
  · simp only [upN_other _ _ _ _ ej]
    exact ⟨trivial, trivial, fun _ _ => ⟨trivial, trivial⟩, trivial, trivial⟩
theorem set4_heap {w : World} {g : Nat} (a b c d : Value) (h : w.heap[g]? = some (.cells blankV 48 (0, 0))) : ((((w.setCell ⟨g, 0, none⟩ a).setCell ⟨g, 1, none⟩ b).setCell ⟨g, 2, none⟩ c).setCell ⟨g, 3, none⟩ d).heap[g]? = some (.cells #[a, b, c, d] 48 (0, 0)) := by
  have h1 := Go.heap_setCell_same w g 0 _ 48 a h
  have h2 := Go.heap_setCell_same _ g 1 _ 48 b h1
  have h3 := Go.heap_setCell_same _ g 2 _ 48 c h2
  have h4 := Go.heap_setCell_same _ g 3 _ 48 d h3
  rw [h4]
  rfl
/-- The answer of a voter's call, as it lies in block g. -/
structure An (w9 wx : World) (g : Nat) (a b c d : Value) : Prop where
  lo : w9.heap.size ≤ g
  row : wx.heap[g]? = some (.cells #[a, b, c, d] 48 (0, 0))
theorem an_set {w9 w10 : World} (a b c d : Value) (h : w10.heap[w9.heap.size]? = some (.cells blankV 48 (0, 0))) : An w9 ((((w10.setCell ⟨w9.heap.size, 0, none⟩ a).setCell ⟨w9.heap.size, 1, none⟩ b).setCell ⟨w9.heap.size, 2, none⟩ c).setCell ⟨w9.heap.size, 3, none⟩ d) w9.heap.size a b c d := ⟨Nat.le_refl _, set4_heap a b c d h⟩
theorem on_set (w9 w10 : World) (a b c d : Value) : Only (fun x => x = w9.heap.size) w10 ((((w10.setCell ⟨w9.heap.size, 0, none⟩ a).setCell ⟨w9.heap.size, 1, none⟩ b).setCell ⟨w9.heap.size, 2, none⟩ c).setCell ⟨w9.heap.size, 3, none⟩ d) := Only.set4 (S := fun x => x = w9.heap.size) rfl a b c d
theorem bl_set {w9 w10 : World} (a b c d : Value) (h : Bl w9 w10) : Bl w9 ((((w10.setCell ⟨w9.heap.size, 0, none⟩ a).setCell ⟨w9.heap.size, 1, none⟩ b).setCell ⟨w9.heap.size, 2, none⟩ c).setCell ⟨w9.heap.size, 3, none⟩ d) := h.trans_only (on_set w9 w10 a b c d) fun _ e => Nat.le_of_eq e.symm
theorem an_new {w9 w10 : World} (a b c d : Value) (h : w9.heap.size ≤ w10.heap.size) : An w9 (w10.alloc (.cells #[a, b, c, d] 48)) w10.heap.size a b c d := ⟨h, heap_alloc_new w10 _⟩
theorem An.lt {w9 wx : World} {g : Nat} {a b c d : Value} (h : An w9 wx g a b c d) : g < wx.heap.size := (Array.getElem?_eq_some_iff.1 h.row).1
theorem An.cells {w9 wx : World} {g : Nat} {a b c d : Value} (h : An w9 wx g a b c d) : wx.cell? ⟨g, 0, none⟩ = some a ∧ wx.cell? ⟨g, 2, none⟩ = some c ∧ wx.cell? ⟨g, 3, none⟩ = some d :=
  ⟨cell_of_row _ _ 0 _ 48 (0, 0) h.row, cell_of_row _ _ 2 _ 48 (0, 0) h.row, cell_of_row _ _ 3 _ 48 (0, 0) h.row⟩
theorem An.only {w9 wx wy : World} {g psb : Nat} {a b c d : Value} (h : An w9 wx g a b c d) (O : Only (fun b => b = psb) wx wy) (hne : g ≠ psb) : An w9 wy g a b c d :=
  ⟨h.lo, (O.block g h.lt hne).trans h.row⟩
theorem heap_first (w : World) (o o' : Obj) : ((w.alloc o).alloc o').heap[w.heap.size]? = some o :=
  (((Bl.refl (w.alloc o)).alloc o').heap (by simp)).trans (heap_alloc_new w o)
theorem bs_row {W : World} {g cap : Nat} {ys : List Int} {f : Nat × Nat} (hys : ∀ d ∈ ys, 0 ≤ d ∧ d ≤ 255) (h : W.heap[g]? = some (.cells (bytesRow (strOf ys) cap) 5 f)) : Bs W (.slice (some ⟨g, 0, none⟩) ys.length cap) (ys.map B8) := by
  have h0 := bytes_of W ys hys cap f
  rcases h0 with ⟨e, _⟩ | ⟨ad, c, e, hc⟩
  · simp at e
  · simp only [Value.slice.injEq, Option.some.injEq] at e
    obtain ⟨rfl, _, rfl⟩ := e
    refine .inr ⟨_, cap, by rw [List.length_map], fun j u hj => ?_⟩
    have h1 := hc j u hj
    rw [add_eq, Nat.zero_add, cell_of_row _ _ j _ 5 f (heap_alloc_new W _)] at h1
    rw [add_eq, Nat.zero_add, cell_of_row _ _ j _ 5 f h]
    exact h1
theorem an_setg {w9 w10 : World} {g : Nat} (a b c d : Value) (hg : w9.heap.size ≤ g) (h : w10.heap[g]? = some (.cells blankV 48 (0, 0))) : An w9 ((((w10.setCell ⟨g, 0, none⟩ a).setCell ⟨g, 1, none⟩ b).setCell ⟨g, 2, none⟩ c).setCell ⟨g, 3, none⟩ d) g a b c d := ⟨hg, set4_heap a b c d h⟩
theorem on_setg (g : Nat) (w10 : World) (a b c d : Value) : Only (fun x => x = g) w10 ((((w10.setCell ⟨g, 0, none⟩ a).setCell ⟨g, 1, none⟩ b).setCell ⟨g, 2, none⟩ c).setCell ⟨g, 3, none⟩ d) := Only.set4 (S := fun x => x = g) rfl a b c d
theorem bl_setg {w9 w10 : World} {g : Nat} (a b c d : Value) (hg : w9.heap.size ≤ g) (h : Bl w9 w10) : Bl w9 ((((w10.setCell ⟨g, 0, none⟩ a).setCell ⟨g, 1, none⟩ b).setCell ⟨g, 2, none⟩ c).setCell ⟨g, 3, none⟩ d) := h.trans_only (on_setg g w10 a b c d) fun _ e => by omega
end Go.Proofs.Ytbghhbpacijmmaa
