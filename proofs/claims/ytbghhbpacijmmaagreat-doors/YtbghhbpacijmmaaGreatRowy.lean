/-
  Rows of numbers, listed in a row.
-/
import Derived.Test.YtbghhbpacijmmaaGreatBaseNum
namespace Go.Proofs.YtbghhbpacijmmaaGreat
open Go.RowKit

theorem Tryz.info3 : (Tryz.prog.info? 3).map (fun i => (i.zero, i.size, i.bytes)) = some (some (.int .i64 0), 1, 8) := by kernel_rfl
theorem Tryz.info24 : (Tryz.prog.info? 24).map (fun i => (i.zero, i.size, i.bytes)) = some (some (.slice none 0 0), 1, 24) := by kernel_rfl

/-- Rows of numbers that the call owns, each in a block of its own, listed in a row g that it owns too. -/
structure Rowy (base : Nat) (w : World) (g n : Nat) (ms : List Value) (R : List (List Int)) : Prop where
  own : w.ownsRow base 24 1 (.slice (some ⟨g, 0, none⟩) n n) n ms
  len : R.length = n
  row : ∀ i (h : i < ms.length) (h' : i < R.length), w.ownsRow base 3 1 ms[i] R[i].length (R[i].map (Value.int .i64))
  apart : ∀ i j (hi : i < ms.length) (hj : j < ms.length) b, i ≠ j → ms[i].ownBlock = some b → ms[j].ownBlock ≠ some b

theorem Rowy.mlen {base : Nat} {w : World} {g n : Nat} {ms : List Value} {R : List (List Int)} (h : Rowy base w g n ms R) : ms.length = n := by
  have := h.own.1; omega

/-- Nothing that the rows own has turned. -/
theorem Rowy.only {S : Nat → Prop} {base : Nat} {w w' : World} {g n : Nat} {ms : List Value} {R : List (List Int)} (h : Rowy base w g n ms R) (ho : Only S w w') (hs : ∀ b, base ≤ b → b < w.heap.size → ¬ S b) : Rowy base w' g n ms R :=
  ⟨ho.owns h.own fun b hb => hs b (h.own.lt b hb).1 (h.own.lt b hb).2, h.len, fun i hi hi' => ho.owns (h.row i hi hi') fun b hb => hs b ((h.row i hi hi').lt b hb).1 ((h.row i hi hi').lt b hb).2, h.apart⟩
theorem Rowy.bl {base : Nat} {w w' : World} {g n : Nat} {ms : List Value} {R : List (List Int)} (h : Rowy base w g n ms R) (ho : Bl w w') : Rowy base w' g n ms R :=
  h.only (Only.of_bl (S := fun _ => False) ho) fun _ _ _ e => e

/-- One row k is appended to, and stored. -/
theorem Rowy.push {base : Nat} {w w1 : World} {g n : Nat} {ms : List Value} {R : List (List Int)} (h : Rowy base w g n ms R) {k : Nat} (hk : k < n) (hkm : k < ms.length) (hkR : k < R.length) {g' c : Nat} {x : Int}
    (hg : w.grownBy w1 ms[k].ownBlock) (hv : ms[k].ownBlock = some g' ∨ w.heap.size ≤ g') (ho : w1.ownsRow base 3 1 (.slice (some ⟨g', 0, none⟩) (R[k].length + 1) c) (R[k].length + 1) (R[k].map (Value.int .i64) ++ [.int .i64 x])) :
    Rowy base (w1.setCell ⟨g, k, none⟩ (.slice (some ⟨g', 0, none⟩) (R[k].length + 1) c)) g n (ms.set k (.slice (some ⟨g', 0, none⟩) (R[k].length + 1) c)) (R.set k (R[k] ++ [x])) := by
  have hgrow := Only.of_grown hg
  have hown1 : w1.ownsRow base 24 1 (.slice (some ⟨g, 0, none⟩) n n) n ms := hgrow.owns h.own fun b hb e => ownsRow_type h.own (h.row k hkm hkR) (by decide) b hb e.symm
  obtain ⟨hst, hgr⟩ := hown1.stored k (.slice (some ⟨g', 0, none⟩) (R[k].length + 1) c)
  have hgr' := Only.of_grown hgr
  have hgne : ∀ b, (Value.slice (some ⟨g', 0, none⟩) (R[k].length + 1) c).ownBlock = some b → ¬ some b = some g := by
    intro b hb e
    exact ownsRow_type ho hown1 (by decide) b hb (by simp [Value.ownBlock]; simpa using e.symm)
  refine ⟨hst, by simpa using h.len, fun i hi hi' => ?_, fun i j hi hj b hij hb => ?_⟩
  · simp only [List.length_set] at hi hi'
    by_cases hik : i = k
    · subst hik
      simp only [List.getElem_set_self]
      have := hgr'.owns ho (fun b hb => hgne b hb)
      simpa using this
    · rw [List.getElem_set_ne (by omega), List.getElem_set_ne (by omega)]
      have hr := h.row i hi hi'
      have hr1 := hgrow.owns hr fun b hb e => h.apart i k hi hkm b hik hb e.symm
      exact hgr'.owns hr1 fun b hb e => ownsRow_type hr1 hown1 (by decide) b hb (by simp [Value.ownBlock]; simpa using e.symm)
  · have hi2 : i < ms.length := by simpa using hi
    have hj2 : j < ms.length := by simpa using hj
    by_cases hik : i = k
    · subst hik
      rw [List.getElem_set_self] at hb
      rw [List.getElem_set_ne (by omega)]
      simp [Value.ownBlock] at hb
      subst hb
      intro e
      rcases hv with hv | hv
      · exact h.apart i j hkm hj2 g' hij hv e
      · have := (h.row j hj2 (by rw [h.len, ← h.mlen]; exact hj2)).lt _ e; omega
    · rw [List.getElem_set_ne (by omega)] at hb
      by_cases hjk : j = k
      · subst hjk
        rw [List.getElem_set_self]
        intro e
        simp [Value.ownBlock] at e
        subst e
        rcases hv with hv | hv
        · exact h.apart i j hi2 hkm g' hij hb hv
        · have := (h.row i hi2 (by rw [h.len, ← h.mlen]; exact hi2)).lt _ hb; omega
      · rw [List.getElem_set_ne (by omega)]
        exact h.apart i j hi2 hj2 b hij hb

theorem Rowy.made {base : Nat} {w : World} {g n : Nat} (h : w.ownsRow base 24 1 (.slice (some ⟨g, 0, none⟩) n n) n (List.replicate n (.slice none 0 0))) : Rowy base w g n (List.replicate n (.slice none 0 0)) (List.replicate n []) :=
  ⟨h, by simp, fun i hi hi' => by simpa using World.ownsRow_nil _ _ _ _, fun i j hi hj b _ hb => by simp [Value.ownBlock] at hb⟩

/-- A row of numbers is appended to, behind a new block, and stored. -/
theorem Rowy.pushed {w wr w1 : World} {g n : Nat} {ms : List Value} {R : List (List Int)} (h : Rowy w.heap.size wr g n ms R) (hbl : Bl w wr) {k : Nat} (hk : k < n) (hkm : k < ms.length) (hkR : k < R.length) {mk : Value} {rr : List Int} (hmk : ms[k] = mk) (hrr : R[k] = rr) {g' c : Nat} {x : Int} {o : Obj}
    (hg : (wr.alloc o).grownBy w1 mk.ownBlock) (hv : mk.ownBlock = some g' ∨ g' = wr.heap.size + 1) (ho : w1.ownsRow w.heap.size 3 1 (.slice (some ⟨g', 0, none⟩) (rr.length + 1) c) (rr.length + 1) (rr.map (Value.int .i64) ++ [.int .i64 x])) :
    w1.cell? ⟨g, k, none⟩ = some mk ∧ w1.frozen? ⟨g, k, none⟩ = false ∧
    Rowy w.heap.size (w1.setCell ⟨g, k, none⟩ (.slice (some ⟨g', 0, none⟩) (rr.length + 1) c)) g n (ms.set k (.slice (some ⟨g', 0, none⟩) (rr.length + 1) c)) (R.set k (rr ++ [x])) ∧
    Bl w (w1.setCell ⟨g, k, none⟩ (.slice (some ⟨g', 0, none⟩) (rr.length + 1) c)) := by
  subst hmk hrr
  have h1 : Rowy w.heap.size (wr.alloc o) g n ms R := h.bl ((Bl.refl _).alloc _)
  have hgrow := Only.of_grown hg
  have hown1 : w1.ownsRow w.heap.size 24 1 (.slice (some ⟨g, 0, none⟩) n n) n ms := hgrow.owns h1.own fun b hb e => ownsRow_type h1.own (h1.row k hkm hkR) (by decide) b hb e.symm
  have hlt := h.own.lt g rfl
  have hltk : ∀ b, ms[k].ownBlock = some b → w.heap.size ≤ b := fun b hb => ((h.row k hkm hkR).lt b hb).1
  refine ⟨?_, hown1.frozenAt k, h1.push hk hkm hkR hg (hv.imp id fun e => by simp; omega) ho, ?_⟩
  · rw [hown1.cellAt k (by omega), List.getElem?_eq_getElem hkm]
  · have b1 : Bl w w1 := (hbl.alloc o).trans_only hgrow (fun b hb => hltk b hb.symm)
    exact Below.setCell b1 hlt.1 _

end Go.Proofs.YtbghhbpacijmmaaGreat
