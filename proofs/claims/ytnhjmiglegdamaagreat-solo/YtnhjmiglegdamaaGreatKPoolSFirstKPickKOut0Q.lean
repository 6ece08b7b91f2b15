-- A letter more is on its way; packets that were given out.
-- The first layout, with what its rows hold.
-- pick and settings, beside Solo.
-- Lemmas for giving out.
import Derived.Test.YtnhjmiglegdamaaGreatKReck6KRecvKHandQ
import Derived.Test.YtnhjmiglegdamaaGreatSVopenSVnodeSVidleSQuestSContSAwaitSBkSPureQ
import Derived.Test.YtnhjmiglegdamaaGreatSCRecvSDoorsSGiveSFurKPureQ
namespace Go.Proofs.YtnhjmiglegdamaaGreat
open Go.RowKit Go.Maps
attribute [local go_sem ↓] Go.wp_at_zero Go.wp_at_succ
theorem Tryz.info135 : (Tryz.prog.info? 135).map (fun i => (i.zero, i.size, i.bytes)) = some (some (.agg #[.int .i64 0, .int .i64 0, .slice none 0 0]), 3, 40) := by kernel_rfl
section
variable {P Q : Nat → Prop} {w w' w2 : World} {tag tag' tag2 : Nat → Nat} {g p q n m v : Nat} {ce : Int} {K : KW} {pv av lv cv hv : Value} {ps cs ls : List Value}
theorem WdX.pushPool {la : Option Addr} {lc : Nat} (h : WdX w tag g p q n m v ce K pv av (.slice la K.pool.length lc) cv hv ps cs ls) {W W1 w5 : World} (hW : Bl w W) (hW1 : Bl W W1) {gd cap : Nat} (x : Ms) (hd : W.ownsRow w.heap.size 5 1 (.slice (some ⟨gd, 0, none⟩) x.data.length cap) x.data.length (x.data.map B8)) {gg cp : Nat}
    (hown : w5.ownsRow 0 135 3 (.slice (some ⟨gg, 0, none⟩) (K.pool.length + 1) cp) (K.pool.length + 1) (ls ++ [.int .i64 x.fr, .int .i64 x.to, .slice (some ⟨gd, 0, none⟩) x.data.length cap])) (hgrow : W1.grownBy w5 (Value.slice la K.pool.length lc).ownBlock) (hat : (Value.slice la K.pool.length lc).ownBlock = some gg ∨ W.heap.size ≤ gg) :
    ∃ tag2, KSt (fun t => t = 1 ∨ t = 8) w tag (w5.setCell ⟨g, 6, none⟩ (.slice (some ⟨gg, 0, none⟩) (K.pool.length + 1) cp)) tag2 ∧ WdX (w5.setCell ⟨g, 6, none⟩ (.slice (some ⟨gg, 0, none⟩) (K.pool.length + 1) cp)) tag2 g p q n m v ce { K with pool := K.pool ++ [x] } pv av (.slice (some ⟨gg, 0, none⟩) (K.pool.length + 1) cp) cv hv ps cs (ls ++ [.int .i64 x.fr, .int .i64 x.to, .slice (some ⟨gd, 0, none⟩) x.data.length cap]) := by
  have lw := h.lt
  have l1 := hW.lt
  have l2 := hW1.lt
  have l3 := hgrow.size
  have tl := h.po.row.tag
  have ll := fun b hb => (h.po.row.own.lt b hb).2
  have lgd := hd.lt gd rfl
  obtain ⟨tag2, ht2⟩ : ∃ tag2, tag2 = fun b => if b < w.heap.size then tag b else if b = gd then 98 else if b = gg then 8 else 9 := ⟨_, rfl⟩
  have old2 : ∀ b, b < w.heap.size → tag2 b = tag b := fun b hb => by rw [ht2]; simp [hb]
  have hgg : tag2 gg = 8 := by
    rcases hat with e | e
    · rw [old2 gg (ll gg e)]; exact tl gg e
    · rw [ht2]; dsimp only; rw [if_neg (by omega), if_neg (by omega), if_pos rfl]
  have hgd2 : tag2 gd = 98 := by rw [ht2]; dsimp only; rw [if_neg (by omega), if_pos rfl]
  have O : Only (fun b => tag b = 1 ∨ tag b = 8) w (w5.setCell ⟨g, 6, none⟩ (.slice (some ⟨gg, 0, none⟩) (K.pool.length + 1) cp)) := ((Only.of_bl (hW.trans hW1)).trans ((Only.of_grown hgrow).mono fun b _ e => .inr (tl b e.symm))).setCell ⟨g, 6, none⟩ (.inl (.inl h.tg)) _
  have k : KSt (fun t => t = 1 ∨ t = 8) w tag (w5.setCell ⟨g, 6, none⟩ (.slice (some ⟨gg, 0, none⟩) (K.pool.length + 1) cp)) tag2 := ⟨O, old2⟩
  have hg5 : w5.heap[g]? = some (.cells (wdL n m v ce pv av (.slice la K.pool.length lc) cv K.now hv).toArray 66 (0, 0)) := by
    rw [hgrow.block g (by omega) (fun e => by have := tl g e.symm; rw [h.tg] at this; omega), hW1.heap (by omega), hW.heap lw]
    exact h.hg
  obtain ⟨hs, hh⟩ := h.ha
  refine ⟨tag2, k, set_heap 6 _ w5 _ hg5, (old2 g lw).trans h.tg, h.pls.kst k (by omega) (fun i _ => by omega), h.ac.kst k (by omega), h.cl.kst k (by omega), h.ca.kst k (by omega) (by omega) (fun i _ => by omega), ⟨⟨?_, fun b hb => ?_⟩, fun j y hy => ?_⟩, hs, hh.kst k (by omega)⟩
  · rw [List.length_append]
    exact ownsRow_of hown fun b hb => Below.heap_setCell _ _ _ _ (fun e => own_ne_block hown hg5 (by decide) (by rw [hb, e]))
  · have e : gg = b := by simpa [Value.ownBlock] using hb
    rw [← e]; exact hgg
  · have hl : ls.length = K.pool.length * 3 := h.po.row.own.1
    by_cases hj : j < K.pool.length
    · rw [List.getElem?_append_left hj] at hy
      obtain ⟨e1, e2, dv, e3, e4⟩ := h.po.l j y hy
      exact ⟨by rw [List.getElem?_append_left (by omega)]; exact e1, by rw [List.getElem?_append_left (by omega)]; exact e2, dv, by rw [List.getElem?_append_left (by omega)]; exact e3, e4.kst k (by omega)⟩
    · have hj2 := (List.getElem?_eq_some_iff.1 hy).1
      simp at hj2
      have hj3 : j = K.pool.length := by omega
      subst hj3
      rw [List.getElem?_append_right (Nat.le_refl _)] at hy
      simp at hy
      subst hy
      have hd5 : (w5.setCell ⟨g, 6, none⟩ (.slice (some ⟨gg, 0, none⟩) (K.pool.length + 1) cp)).ownsRow w.heap.size 5 1 (.slice (some ⟨gd, 0, none⟩) x.data.length cap) x.data.length (x.data.map B8) := by
        refine ownsRow_of hd fun b hb => ?_
        have e : gd = b := by simpa [Value.ownBlock] using hb
        rw [← e, Below.heap_setCell _ _ _ _ (show gd ≠ g by omega), hgrow.block gd (by omega) (fun e => by have := ll gd e.symm; omega), hW1.heap lgd.2]
      refine ⟨by rw [List.getElem?_append_right (by omega), hl]; simp, by rw [List.getElem?_append_right (by omega), hl]; simp, _, by rw [List.getElem?_append_right (by omega), hl]; simp, Rd.of_own hd5 fun b hb => ?_⟩
      have e : gd = b := by simpa [Value.ownBlock] using hb
      rw [← e]; exact hgd2
/-- Packets that were given out; those from j on are as they were. -/
structure PkJ (w : World) (tag : Nat → Nat) (ty : Nat) (la : Option Addr) (lc : Nat) (qs : List (Int × List Int)) (xs : List Value) (j : Nat) : Prop where
  row : RowT w tag 6 174 2 (.slice la qs.length lc) qs.length xs
  at' : ∀ i z, j ≤ i → qs[i]? = some z → xs[i * 2]? = some (.int .i64 z.1) ∧ ∃ u, xs[i * 2 + 1]? = some u ∧ RowT w tag ty 5 1 u z.2.length (z.2.map B8)
  ap : Apt xs
theorem PkJ.kst {ty lc j : Nat} {la : Option Addr} {qs : List (Int × List Int)} {xs : List Value} (h : PkJ w tag ty la lc qs xs j) (k : KSt P w tag w' tag') (h6 : ¬ P 6) (hy : ¬ P ty) : PkJ w' tag' ty la lc qs xs j :=
  ⟨h.row.kst k h6, fun i z hi hz => by
    obtain ⟨e1, u, e2, e3⟩ := h.at' i z hi hz
    exact ⟨e1, u, e2, e3.kst k hy⟩, h.ap⟩
/-- The bytes of packet j turn. -/
theorem PkJ.turn {ty lc j : Nat} {la : Option Addr} {qs : List (Int × List Int)} {xs : List Value} (h : PkJ w tag ty la lc qs xs j) {db : Nat} {u : Value} (hu : xs[j * 2 + 1]? = some u) (hub : u.ownBlock = some db) (h5 : ∃ arr, w.heap[db]? = some (.cells arr 5 (0, 0))) (ho : Only (fun b => b = db) w w') : PkJ w' tag ty la lc qs xs (j + 1) := by
  obtain ⟨arr, h5⟩ := h5
  refine ⟨⟨ho.owns h.row.own fun b hb e => own_ne_block h.row.own h5 (by decide) (by rw [hb, e]), h.row.tag⟩, fun i z hi hz => ?_, h.ap⟩
  obtain ⟨e1, u', e2, e3⟩ := h.at' i z (by omega) hz
  refine ⟨e1, u', e2, ⟨ho.owns e3.own fun b hb e => ?_, e3.tag⟩⟩
  subst e
  exact h.ap j i u u' b (by omega) (by rw [Nat.mul_comm]; exact hu) (by rw [Nat.mul_comm]; exact e2) hub hb
/-- The bytes of answers that have gone turn. -/
theorem WdX.kstB (h : WdX w tag g p q n m v ce K pv av lv cv hv ps cs ls) {i : Nat} {U : UQ} (hi : i < n * m) (hnm : n * m + v ≤ 20) (hU : K.us[i]? = some U) (hq : U.q = []) (k : KSt P w tag w' tag') (hP : ∀ t, P t → t = 6 ∨ t = 12 + 3 * i) : WdX w' tag' g p q n m v ce K pv av lv cv hv ps cs ls := by
  have np : ∀ t, t ≠ 6 → t ≠ 12 + 3 * i → ¬ P t := fun t h1 h2 e => by rcases hP t e with e | e <;> omega
  obtain ⟨hs, hh⟩ := h.ha
  refine ⟨(k.heap h.hg h.tg (np 1 (by omega) (by omega))).1, (k.heap h.hg h.tg (np 1 (by omega) (by omega))).2, ⟨h.pls.row.kst k (np 2 (by omega) (by omega)), fun j hj => ?_⟩, h.ac.kst k (np 3 (by omega) (by omega)), h.cl.kst k (np 5 (by omega) (by omega)), h.ca.kst k (np 4 (by omega) (by omega)) (np 99 (by omega) (by omega)) (fun j _ => np _ (by omega) (by omega)), h.po.kst k (np 8 (by omega) (by omega)) (np 98 (by omega) (by omega)), hs, hh.kst k (np 7 (by omega) (by omega))⟩
  obtain ⟨gj, mk, e1, e2⟩ := h.pls.pl j hj
  refine ⟨gj, mk, e1, ?_⟩
  by_cases e : j = i
  · subst e
    rcases e2 with ⟨a1, U', rs, S, a2, a3, a4⟩ | ⟨a1, _⟩
    · rw [hU] at a2
      simp only [Option.some.injEq] at a2
      subst a2
      rw [hq] at a3
      exact .inl ⟨a1, U, rs, S, hU, by rw [hq]; exact a3.kst0 k (np _ (by omega) (by omega)) (np _ (by omega) (by omega)), a4⟩
    · omega
  · exact e2.kst k (np _ (by omega) (by omega)) (np _ (by omega) (by omega)) (np _ (by omega) (by omega))
end
end Go.Proofs.YtnhjmiglegdamaaGreat

namespace Go.Proofs.YtnhjmiglegdamaaGreat
open Go.RowKit
attribute [local go_sem ↓] Go.wp_at_zero Go.wp_at_succ
theorem Tryz.info24 : (Tryz.prog.info? 24).map (fun i => (i.zero, i.size, i.bytes)) = some (some (.slice none 0 0), 1, 24) := by kernel_rfl
abbrev cfg (a b c d : Int) : Value := .agg #[.int .i64 a, .int .i64 b, .int .i64 c, .int .i64 d]
/-- Rows of numbers that the call owns, each in a block of its own, listed in a row g that it owns too. -/
structure Rowy (base : Nat) (w : World) (g n : Nat) (ms : List Value) (R : List (List Int)) : Prop where
  own : w.ownsRow base 24 1 (.slice (some ⟨g, 0, none⟩) n n) n ms
  len : R.length = n
  row : ∀ i (h : i < ms.length) (h' : i < R.length), w.ownsRow base 3 1 ms[i] R[i].length (R[i].map (Value.int .i64))
  apart : ∀ i j (hi : i < ms.length) (hj : j < ms.length) b, i ≠ j → ms[i].ownBlock = some b → ms[j].ownBlock ≠ some b

theorem Rowy.mlen {base : Nat} {w : World} {g n : Nat} {ms : List Value} {R : List (List Int)} (h : Rowy base w g n ms R) : ms.length = n := by
  have := h.own.1; omega

/-- Nothing that the rows own has turned. -/
theorem Rowy.only {S : Nat → Prop} {base : Nat} {w w' : World} {g n : Nat} {ms : List Value} {R : List (List Int)} (h : Rowy base w g n ms R) (ho : Only S w w') (hs : ∀ b, base ≤ b → b < w.heap.size → ¬ S b) : Rowy base w' g n ms R :=
  ⟨ho.owns h.own fun b hb => hs b (h.own.lt b hb).1 (h.own.lt b hb).2, h.len, fun i hi hi' => ho.owns (h.row i hi hi') fun b hb => hs b ((h.row i hi hi').lt b hb).1 ((h.row i hi hi').lt b hb).2, h.apart⟩
theorem Rowy.bl {base : Nat} {w w' : World} {g n : Nat} {ms : List Value} {R : List (List Int)} (h : Rowy base w g n ms R) (ho : Bl w w') : Rowy base w' g n ms R :=
  h.only (Only.of_bl (S := fun _ => False) ho) fun _ _ _ e => e

/-- One row k is appended to, and stored. -/
theorem Rowy.push {base : Nat} {w w1 : World} {g n : Nat} {ms : List Value} {R : List (List Int)} (h : Rowy base w g n ms R) {k : Nat} (hk : k < n) (hkm : k < ms.length) (hkR : k < R.length) {g' c : Nat} {x : Int}
    (hg : w.grownBy w1 ms[k].ownBlock) (hv : ms[k].ownBlock = some g' ∨ w.heap.size ≤ g') (ho : w1.ownsRow base 3 1 (.slice (some ⟨g', 0, none⟩) (R[k].length + 1) c) (R[k].length + 1) (R[k].map (Value.int .i64) ++ [.int .i64 x])) :
    Rowy base (w1.setCell ⟨g, k, none⟩ (.slice (some ⟨g', 0, none⟩) (R[k].length + 1) c)) g n (ms.set k (.slice (some ⟨g', 0, none⟩) (R[k].length + 1) c)) (R.set k (R[k] ++ [x])) := by
  have hgrow := Only.of_grown hg
  have hown1 : w1.ownsRow base 24 1 (.slice (some ⟨g, 0, none⟩) n n) n ms := hgrow.owns h.own fun b hb e => ownsRow_type h.own (h.row k hkm hkR) (by decide) b hb e.symm
  obtain ⟨hst, hgr⟩ := hown1.stored k (.slice (some ⟨g', 0, none⟩) (R[k].length + 1) c)
  have hgr' := Only.of_grown hgr
  have hgne : ∀ b, (Value.slice (some ⟨g', 0, none⟩) (R[k].length + 1) c).ownBlock = some b → ¬ some b = some g := by
    intro b hb e
    exact ownsRow_type ho hown1 (by decide) b hb (by simp [Value.ownBlock]; simpa using e.symm)
  refine ⟨hst, by simpa using h.len, fun i hi hi' => ?_, fun i j hi hj b hij hb => ?_⟩
  · simp only [List.length_set] at hi hi'
    by_cases hik : i = k
    · subst hik
      simp only [List.getElem_set_self]
      have := hgr'.owns ho (fun b hb => hgne b hb)
      simpa using this
    · rw [List.getElem_set_ne (by omega), List.getElem_set_ne (by omega)]
      have hr := h.row i hi hi'
      have hr1 := hgrow.owns hr fun b hb e => h.apart i k hi hkm b hik hb e.symm
      exact hgr'.owns hr1 fun b hb e => ownsRow_type hr1 hown1 (by decide) b hb (by simp [Value.ownBlock]; simpa using e.symm)
  · have hi2 : i < ms.length := by simpa using hi
    have hj2 : j < ms.length := by simpa using hj
    by_cases hik : i = k
    · subst hik
      rw [List.getElem_set_self] at hb
      rw [List.getElem_set_ne (by omega)]
      simp [Value.ownBlock] at hb
      subst hb
      intro e
      rcases hv with hv | hv
      · exact h.apart i j hkm hj2 g' hij hv e
      · have := (h.row j hj2 (by rw [h.len, ← h.mlen]; exact hj2)).lt _ e; omega
    · rw [List.getElem_set_ne (by omega)] at hb
      by_cases hjk : j = k
      · subst hjk
        rw [List.getElem_set_self]
        intro e
        simp [Value.ownBlock] at e
        subst e
        rcases hv with hv | hv
        · exact h.apart i j hi2 hkm g' hij hb hv
        · have := (h.row i hi2 (by rw [h.len, ← h.mlen]; exact hi2)).lt _ hb; omega
      · rw [List.getElem_set_ne (by omega)]
        exact h.apart i j hi2 hj2 b hij hb

theorem Rowy.made {base : Nat} {w : World} {g n : Nat} (h : w.ownsRow base 24 1 (.slice (some ⟨g, 0, none⟩) n n) n (List.replicate n (.slice none 0 0))) : Rowy base w g n (List.replicate n (.slice none 0 0)) (List.replicate n []) :=
  ⟨h, by simp, fun i hi hi' => by simpa using World.ownsRow_nil _ _ _ _, fun i j hi hj b _ hb => by simp [Value.ownBlock] at hb⟩

/-- A row of numbers is appended to, behind a new block, and stored. -/
theorem Rowy.pushed {w wr w1 : World} {g n : Nat} {ms : List Value} {R : List (List Int)} (h : Rowy w.heap.size wr g n ms R) (hbl : Bl w wr) {k : Nat} (hk : k < n) (hkm : k < ms.length) (hkR : k < R.length) {mk : Value} {rr : List Int} (hmk : ms[k] = mk) (hrr : R[k] = rr) {g' c : Nat} {x : Int} {o : Obj}
    (hg : (wr.alloc o).grownBy w1 mk.ownBlock) (hv : mk.ownBlock = some g' ∨ g' = wr.heap.size + 1) (ho : w1.ownsRow w.heap.size 3 1 (.slice (some ⟨g', 0, none⟩) (rr.length + 1) c) (rr.length + 1) (rr.map (Value.int .i64) ++ [.int .i64 x])) :
    w1.cell? ⟨g, k, none⟩ = some mk ∧ w1.frozen? ⟨g, k, none⟩ = false ∧
    Rowy w.heap.size (w1.setCell ⟨g, k, none⟩ (.slice (some ⟨g', 0, none⟩) (rr.length + 1) c)) g n (ms.set k (.slice (some ⟨g', 0, none⟩) (rr.length + 1) c)) (R.set k (rr ++ [x])) ∧
    Bl w (w1.setCell ⟨g, k, none⟩ (.slice (some ⟨g', 0, none⟩) (rr.length + 1) c)) := by
  subst hmk hrr
  have h1 : Rowy w.heap.size (wr.alloc o) g n ms R := h.bl ((Bl.refl _).alloc _)
  have hgrow := Only.of_grown hg
  have hown1 : w1.ownsRow w.heap.size 24 1 (.slice (some ⟨g, 0, none⟩) n n) n ms := hgrow.owns h1.own fun b hb e => ownsRow_type h1.own (h1.row k hkm hkR) (by decide) b hb e.symm
  have hlt := h.own.lt g rfl
  have hltk : ∀ b, ms[k].ownBlock = some b → w.heap.size ≤ b := fun b hb => ((h.row k hkm hkR).lt b hb).1
  refine ⟨?_, hown1.frozenAt k, h1.push hk hkm hkR hg (hv.imp id fun e => by simp; omega) ho, ?_⟩
  · rw [hown1.cellAt k (by omega), List.getElem?_eq_getElem hkm]
  · have b1 : Bl w w1 := (hbl.alloc o).trans_only hgrow (fun b hb => hltk b hb.symm)
    exact Below.setCell b1 hlt.1 _

theorem div_bd {n m k : Nat} (h1 : 1 ≤ m) (h2 : m ≤ 3) (h : (k : Int) < n * m) : Int.tdiv (k : Int) (m : Int) = ((k / m : Nat) : Int) ∧ k / m < n := by
  refine ⟨by rw [Int.tdiv_eq_ediv_of_nonneg (by omega)]; rfl, ?_⟩
  have h' : k < n * m := by exact_mod_cast h
  exact (Nat.div_lt_iff_lt_mul (by omega)).2 h'

/-- The units of chain i among the first k. -/
def unitsOf (m k i : Nat) : List Int := ((List.range k).filter fun j => j / m == i).map fun (j : Nat) => (j : Int)
theorem units_in (m k i : Nat) (h : k / m = i) : unitsOf m (k + 1) i = unitsOf m k i ++ [(k : Int)] := by
  unfold unitsOf
  rw [List.range_succ, List.filter_append]
  simp [h]
theorem units_out (m k i : Nat) (h : k / m ≠ i) : unitsOf m (k + 1) i = unitsOf m k i := by
  unfold unitsOf
  rw [List.range_succ, List.filter_append]
  simp [h]
theorem units_zero (m i : Nat) : unitsOf m 0 i = [] := rfl
theorem units_upto (m : Nat) (hm : 0 < m) (i : Nat) : ∀ k, unitsOf m k i = (List.range (min (k - i * m) m)).map fun (j : Nat) => ((i * m + j : Nat) : Int)
  | 0 => by simp [units_zero]
  | k + 1 => by
    have ih := units_upto m hm i k
    by_cases h : k / m = i
    · rw [units_in m k i h, ih]
      have h1 : i * m ≤ k := by rw [← h]; exact Nat.div_mul_le_self k m
      have h2 : k < i * m + m := by
        have := Nat.lt_div_mul_add (a := k) hm
        rw [h] at this; exact this
      rw [show min (k + 1 - i * m) m = min (k - i * m) m + 1 by omega, List.range_succ, List.map_append]
      congr 1
      simp
      omega
    · rw [units_out m k i h, ih]
      have h3 : min (k + 1 - i * m) m = min (k - i * m) m := by
        by_cases h1 : i * m ≤ k
        · have h2 : i * m + m ≤ k := by
            apply Classical.byContradiction
            intro hn
            exact h ((Nat.div_eq_iff hm).2 ⟨by omega, by omega⟩)
          omega
        · omega
      rw [h3]
set_option maxRecDepth 100000 in
set_option maxHeartbeats 4000000 in
theorem firstL_any (n m : Nat) (c d : Int) (w : World) (h1 : 1 ≤ n) (h2 : n ≤ 3) (h3 : 1 ≤ m) (h4 : m ≤ 3) :
    Calls Tryz.prog 81 #[cfg n m c d] w fun e w' => ∃ g, e = .returned (.slice (some ⟨g, 0, none⟩) n n) ∧ Bl w w' ∧ ∀ (tag : Nat → Nat) (tc : Nat), (∀ b, w.heap.size ≤ b → tag b = tc) → LayOk w' tag tc (.slice (some ⟨g, 0, none⟩) n n) n m := by
  obtain ⟨i24, hi, hz0, hz1, hz2⟩ := info_parts Tryz.info24
  obtain ⟨i3, ji, jz0, jz1, jz2⟩ := info_parts Tryz.info3
  have hby : Hid (i24.bytes * n ≤ 281474976710656) := by rw [hz2]; unfold Hid; omega
  have hml : Hid (n ≤ maxLen) := by unfold Hid maxLen; omega
  have hmul : (1 : Int) ≤ (n : Int) * (m : Int) ∧ (n : Int) * (m : Int) ≤ 48 := mul_bd (by omega) (by omega) (by omega) (by omega)
  have hm0 : ((m : Int) == 0) = false := by simp; omega
  obtain ⟨W0, hW0⟩ : ∃ W, W = w.alloc (.cells #[.int .i64 n, .int .i64 m, .int .i64 c, .int .i64 d] 27) := ⟨_, rfl⟩
  have hbW : Bl w W0 := by rw [hW0]; exact (Bl.refl _).alloc _
  have hNW : W0.heap[w.heap.size]? = some (.cells #[.int .i64 n, .int .i64 m, .int .i64 c, .int .i64 d] 27 (0, 0)) := by rw [hW0]; exact heap_alloc_new w _
  have hsW : W0.heap.size = w.heap.size + 1 := by rw [hW0]; simp
  go_enter Tryz.func81, Tryz.ntmps81
  go_wp2_with (at_make; refine wpList_make_full _ rfl _ _ 89 rfl W0.heap.size 24 i24 _ 1 Tryz.underlying89 hi hz0 hz1 _ _ _ _ n rfl rfl rfl rfl hby.out hml.out (by rw [hW0]; simp) ?_)
  intro w1 hown hgrow
  rw [← hW0] at hgrow
  rw [← hsW] at hown
  have hbl : Bl W0 w1 := (Only.of_grown hgrow).to_bl (by simp)
  have R0 : Rowy W0.heap.size w1 W0.heap.size n _ _ := Rowy.made (by simpa [toList_madeCells_one] using hown)
  rw [← hsW]
  clear hown hgrow hW0
  have HsW := hid hsW
  clear hsW
  have c0 : w1.cell? ⟨w.heap.size, 0, none⟩ = some (.int .i64 n) := (hbl.cell (b := w.heap.size) (o := 0) (by have := HsW.out; omega)).trans (cell_of_row W0 w.heap.size 0 _ 27 (0, 0) hNW)
  have c1 : w1.cell? ⟨w.heap.size, 1, none⟩ = some (.int .i64 m) := (hbl.cell (b := w.heap.size) (o := 1) (by have := HsW.out; omega)).trans (cell_of_row W0 w.heap.size 1 _ 27 (0, 0) hNW)
  go_wp2
  go_loopw [14] (fun i wr => ∃ (k : Nat) (ms : List Value) (R : List (List Int)), (k : Int) ≤ n * m ∧ i = .int .i64 k ∧ Bl W0 wr ∧ Rowy W0.heap.size wr W0.heap.size n ms R ∧ (∀ r ∈ R, r.length ≤ k) ∧ ∀ i, (h : i < R.length) → R[i] = unitsOf m k i) (fun i _ => (n * m : Nat) - (intOf i).toNat)
  case atStart => exact ⟨0, _, _, by omega, rfl, hbl, R0, by simp, fun i h => by simp [units_zero]⟩
  case round =>
    clear hbl R0 c0 c1
    obtain ⟨k, ms, R, hk, rfl, hbl, HR, hRl, hC⟩ := hrel
    have HC := hid hC
    clear hC
    have c0 : wr.cell? ⟨w.heap.size, 0, none⟩ = some (.int .i64 n) := (hbl.cell (b := w.heap.size) (o := 0) (by have := HsW.out; omega)).trans (cell_of_row W0 w.heap.size 0 _ 27 (0, 0) hNW)
    have c1 : wr.cell? ⟨w.heap.size, 1, none⟩ = some (.int .i64 m) := (hbl.cell (b := w.heap.size) (o := 1) (by have := HsW.out; omega)).trans (cell_of_row W0 w.heap.size 1 _ 27 (0, 0) hNW)
    by_cases hlt : (k : Int) < n * m
    · obtain ⟨hq, hqn⟩ := div_bd h3 h4 hlt
      have hkN : Hid (k < n * m) := by unfold Hid; exact_mod_cast hlt
      obtain ⟨q, hqd⟩ : ∃ q, k / m = q := ⟨_, rfl⟩
      rw [hqd] at hq hqn
      have Hqd := hid hqd
      clear hqd
      have hmk : q < ms.length := by rw [HR.mlen]; exact hqn
      have hRk : q < R.length := by rw [HR.len]; exact hqn
      have hck := HR.own.cellAt q (by omega)
      rw [List.getElem?_eq_getElem hmk] at hck
      have hrow := HR.row q hmk hRk
      have hle := hRl _ (List.getElem_mem hRk)
      generalize hmm : ms[q] = mk at *
      have Hmm := hid hmm
      clear hmm
      have HR := hid HR
      generalize hrr : R[q] = rr at *
      have Hrr := hid hrr
      clear hrr
      have Hrow := hid hrow
      clear hrow
      have HRl := hid hRl
      clear hRl
      have hkk : (k : Int) ≤ 48 := by omega
      have hby2 : Hid ((rr.length + 1) * 8 ≤ 140737488355328) := by unfold Hid; omega
      have hml2 : Hid (rr.length + 1 ≤ maxLen) := by unfold Hid maxLen; omega
      have hlt2 := hbl.lt
      have hq0 : (0 : Int) ≤ (q : Int) := by omega
      have hqi : (q : Int) < n := by omega
      go_wp2_with (at_builtin; refine wpList_append_lies _ rfl _ _ 24 rfl W0.heap.size 3 i3 (.int .i64 0) 1 8 Tryz.underlying24 ji jz0 jz1 jz2 rfl (by decide) mk rr.length _ rfl (Hrow.out.alloc _) ⟨wr.heap.size, 0, none⟩ 1 1 [.int .i64 k] rfl rfl (cell_one_new _ _ _) (by simp [Value.oneCell']) (by decide) hml2.out hby2.out (by simp; omega) (wr.heap.size + 1) (by simp) ?_)
      intro g' cap w1 hown' hgrow hat hlt'
      have HP := HR.out.pushed hbl hqn hmk hRk Hmm.out Hrr.out hgrow hat hown'
      obtain ⟨hc1, hf1, R1, b1⟩ := HP
      have HR1 := hid R1
      have Hb1 := hid b1
      clear hown' hgrow hat Hrow R1 b1 Hmm hck
      go_wp2
      go_roundw
      case rel => exact ⟨k + 1, _, _, by omega, by go_num, Hb1.out, HR1.out, fun r hr => by
        rcases List.mem_or_eq_of_mem_set hr with h | h
        · exact Nat.le_succ_of_le (HRl.out r h)
        · rw [h]; simp; omega, fun i hi => by
        have hi' : i < R.length := by simpa using hi
        by_cases e : i = q
        · subst e
          rw [List.getElem_set_self, units_in m k i Hqd.out, ← HC.out i hi', Hrr.out]
        · rw [List.getElem_set_ne (Ne.symm e), units_out m k i (fun e' => e (e'.symm.trans Hqd.out)), ← HC.out i hi']⟩
      case measure => have := hkN.out; simp [intOf]; omega
    · go_wp2
      go_ret
      refine ⟨W0.heap.size, rfl, hbW.trans hbl, fun tag tc htag => ?_⟩
      have hkn : k = n * m := by
        have : (k : Int) = ((n * m : Nat) : Int) := by rw [Int.natCast_mul]; omega
        exact_mod_cast this
      refine ⟨W0.heap.size, ms.toArray, rfl, htag _ hbW.lt, ownsRow_full HR.own, fun j hj => ?_⟩
      have hjm : j < ms.length := by rw [HR.mlen]; exact hj
      have hjR : j < R.length := by rw [HR.len]; exact hj
      refine ⟨ms[j], by simp [hjm], ?_⟩
      have hrow := HR.row j hjm hjR
      have hmin : min (n * m - j * m) m = m := by
        have h1 : (j + 1) * m ≤ n * m := Nat.mul_le_mul_right m hj
        rw [Nat.add_mul] at h1
        omega
      have hcont : R[j].map (Value.int .i64) = (List.range m).map fun (i : Nat) => Value.int .i64 (j * m + i) := by
        rw [HC.out j hjR, hkn, units_upto m (by omega) j, hmin, List.map_map]
        apply List.map_congr_left
        intro i _
        simp
      rw [hcont] at hrow
      exact Rd.of_own hrow fun b hb => htag b (Nat.le_trans hbW.lt (hrow.lt b hb).1)

end Go.Proofs.YtnhjmiglegdamaaGreat

namespace Go.Proofs.YtnhjmiglegdamaaGreat
open Go.RowKit
attribute [local go_sem ↓] Go.wp_at_zero Go.wp_at_succ

def pk (c n : Int) : Int := (if c < 0 then -(c + 1) else c) % n
theorem pk_range (c n : Int) (hn : 0 < n) : 0 ≤ pk c n ∧ pk c n < n := ⟨Int.emod_nonneg _ (by omega), Int.emod_lt_of_pos _ hn⟩

set_option maxRecDepth 100000 in
set_option maxHeartbeats 1000000 in
theorem pick_any (c n : Int) (w : World) (h0 : -9223372036854775808 ≤ c) (h1 : c ≤ 9223372036854775807) (hn : 0 < n) (hn1 : n ≤ 9223372036854775807) :
    Calls Tryz.prog 15 #[.int .i64 c, .int .i64 n] w fun e w' => e = .returned (.int .i64 (pk c n)) ∧ w' = w := by
  unfold pk
  have hnz : n ≠ 0 := by omega
  by_cases hc : c < 0
  · rw [if_pos hc]
    have e3 : Int.tmod (-(c + 1)) n = (-(c + 1)) % n := Int.tmod_eq_emod_of_nonneg (by omega)
    have r := Int.emod_nonneg (-(c + 1)) hnz
    have r2 := Int.emod_lt_of_pos (-(c + 1)) hn
    go_enter Tryz.func15, Tryz.ntmps15
    go_wp2
    go_ret
    exact ⟨rfl, rfl⟩
  · rw [if_neg hc]
    have e3 : Int.tmod c n = c % n := Int.tmod_eq_emod_of_nonneg (by omega)
    have r := Int.emod_nonneg c hnz
    have r2 := Int.emod_lt_of_pos c hn
    go_enter Tryz.func15, Tryz.ntmps15
    go_wp2
    go_ret
    exact ⟨rfl, rfl⟩

abbrev inI (x : Int) : Prop := -9223372036854775808 ≤ x ∧ x ≤ 9223372036854775807
set_option maxRecDepth 100000 in
set_option maxHeartbeats 1000000 in
theorem settings_any (c u v s : Int) (w : World) (h1 : inI c) (h2 : inI u) (h3 : inI v) (h4 : inI s) :
    Calls Tryz.prog 14 #[.int .i64 c, .int .i64 u, .int .i64 v, .int .i64 s] w fun e w' => e = .returned (cfg (1 + pk c 3) (1 + pk u 3) (1 + 2 * pk v 3) (1 + pk s 5)) ∧ Bl w w' := by
  have P1 := hid (fun w => pick_any c 3 w h1.1 h1.2 (by decide) (by decide))
  have P2 := hid (fun w => pick_any u 3 w h2.1 h2.2 (by decide) (by decide))
  have P3 := hid (fun w => pick_any v 3 w h3.1 h3.2 (by decide) (by decide))
  have P4 := hid (fun w => pick_any s 5 w h4.1 h4.2 (by decide) (by decide))
  have r1 := pk_range c 3 (by decide)
  have r2 := pk_range u 3 (by decide)
  have r3 := pk_range v 3 (by decide)
  have r4 := pk_range s 5 (by decide)
  go_enter Tryz.func14, Tryz.ntmps14
  go_wp2_with fail
  refine (P1.out _).mono ?_
  rintro e w' ⟨rfl, rfl⟩
  go_wp2_with fail
  refine (P2.out _).mono ?_
  rintro e w' ⟨rfl, rfl⟩
  go_wp2_with fail
  refine (P3.out _).mono ?_
  rintro e w' ⟨rfl, rfl⟩
  go_wp2_with fail
  refine (P4.out _).mono ?_
  rintro e w' ⟨rfl, rfl⟩
  go_wp2
  (try simp only [Exit.inBlock, Exit.then])
  exact bodyPost_ret (v := cfg (1 + pk c 3) (1 + pk u 3) (1 + 2 * pk v 3) (1 + pk s 5)) (by simp [results, Tryz.results14, go_sem, cfg]) rfl ⟨rfl, (Bl.refl _).alloc _⟩
end Go.Proofs.YtnhjmiglegdamaaGreat

namespace Go.Proofs.YtnhjmiglegdamaaGreat
open Go.RowKit Go.Maps
/-- The marks that giving out turns. -/
def Po (t : Nat) : Prop := t = 1 ∨ t = 2 ∨ t = 5 ∨ t = 6 ∨ t = 8 ∨ t = 9 ∨ (10 ≤ t ∧ t < 80)
theorem outM_fr (X : CX) : ∀ x ∈ X.outM, x.fr = 1000 := by
  intro x hx
  have key : ∀ q : PQ, x ∈ q.outM → x.fr = 1000 := by
    intro q hq
    unfold PQ.outM at hq
    split at hq
    · rw [List.mem_map] at hq
      obtain ⟨u, _, rfl⟩ := hq
      rfl
    · simp at hq
  unfold CX.outM at hx
  rw [List.mem_append] at hx
  rcases hx with hx | hx
  · cases hp : X.pend with
    | none => rw [hp] at hx; simp at hx
    | some c => rw [hp] at hx; exact key c.q (by simpa using hx)
  · exact key X.pr hx
section
variable {w w' : World} {tag tag' : Nat → Nat} {g p q n m v : Nat} {ce : Int} {K : KW} {pv av lv cv hv : Value} {ps cs ls : List Value}
/-- A voter turns. -/
theorem WdX.reVoter (h : WdX w tag g p q n m v ce K pv av lv cv hv ps cs ls) {u : Nat} (k : KSt (fun t => t = 11 + 3 * u) w tag w' tag') (hu : n * m ≤ u) (_hu2 : u < n * m + v) (hnm : n * m + v ≤ 20) {gu : Nat} (hat : PlAt ps n m u gu 0) (hN : Vd w' tag' (11 + 3 * u) gu) : WdX w' tag' g p q n m v ce K pv av lv cv hv ps cs ls := by
  obtain ⟨hs, hh⟩ := h.ha
  refine ⟨(k.heap h.hg h.tg (by omega)).1, (k.heap h.hg h.tg (by omega)).2, ⟨h.pls.row.kst k (by omega), fun i hi => ?_⟩, h.ac.kst k (by omega), h.cl.kst k (by omega), h.ca.kst k (by omega) (by omega) (fun i _ => by omega), h.po.kst k (by omega) (by omega), hs, hh.kst k (by omega)⟩
  by_cases e : i = u
  · subst e; exact ⟨gu, 0, hat, .inr ⟨hu, rfl, hN⟩⟩
  · obtain ⟨g', mk', e1, e2⟩ := h.pls.pl i hi
    exact ⟨g', mk', e1, e2.kst k (by omega) (by omega) (by omega)⟩
/-- How long an image was is noted. -/
theorem WdX.setMark {pb N pc : Nat} (h : WdX w tag g p q n m v ce K (.slice (some ⟨pb, 0, none⟩) N pc) av lv cv hv ps cs ls) (hN : n * m + v = N) {i gi : Nat} {mk mk' : Int} (hi : i < N) (hat : PlAt ps n m i gi mk) (hN' : NodeOk w tag n m v ce K.us K.now i gi mk') :
    WdX (w.setCell ⟨pb, i * 5 + 2, none⟩ (.int .i64 mk')) tag g p q n m v ce K (.slice (some ⟨pb, 0, none⟩) N pc) av lv cv hv (ps.set (i * 5 + 2) (.int .i64 mk')) cs ls := by
  subst hN
  have k : KSt (fun s => s = 2) w tag (w.setCell ⟨pb, i * 5 + 2, none⟩ (.int .i64 mk')) tag := kst_set (h.pls.row.tag pb rfl) _ _
  obtain ⟨hs, hh⟩ := h.ha
  have hl := h.pls.row.own.1
  refine ⟨(k.heap h.hg h.tg (by omega)).1, (k.heap h.hg h.tg (by omega)).2, ⟨⟨own_set h.pls.row.own _ _, h.pls.row.tag⟩, fun j hj => ?_⟩, h.ac.kst k (by omega), h.cl.kst k (by omega), h.ca.kst k (by omega) (by omega) (fun i _ => by omega), h.po.kst k (by omega) (by omega), hs, hh.kst k (by omega)⟩
  by_cases e : j = i
  · subst e
    refine ⟨gi, mk', ⟨?_, ?_, ?_, ?_, ?_⟩, hN'.kst k (by omega) (by omega) (by omega)⟩
    · rw [List.getElem?_set_ne (by omega)]; exact hat.1
    · rw [List.getElem?_set_ne (by omega)]; exact hat.2.1
    · rw [List.getElem?_set_self (by omega)]
    · rw [List.getElem?_set_ne (by omega)]; exact hat.2.2.2.1
    · rw [List.getElem?_set_ne (by omega)]; exact hat.2.2.2.2
  · obtain ⟨gj, mj, ej, nj⟩ := h.pls.pl j hj
    refine ⟨gj, mj, ⟨?_, ?_, ?_, ?_, ?_⟩, nj.kst k (by omega) (by omega) (by omega)⟩
    · rw [List.getElem?_set_ne (by omega)]; exact ej.1
    · rw [List.getElem?_set_ne (by omega)]; exact ej.2.1
    · rw [List.getElem?_set_ne (by omega)]; exact ej.2.2.1
    · rw [List.getElem?_set_ne (by omega)]; exact ej.2.2.2.1
    · rw [List.getElem?_set_ne (by omega)]; exact ej.2.2.2.2
end
end Go.Proofs.YtnhjmiglegdamaaGreat
