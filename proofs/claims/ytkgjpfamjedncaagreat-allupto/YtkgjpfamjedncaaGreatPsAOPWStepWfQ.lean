-- Units and voters of one script, side by side, and the book.
-- What goes with the walks of a step.
-- A step, whatever its call does.
import Derived.Test.YtkgjpfamjedncaaGreatCelledPartFCopiedAtQ
import Derived.Test.YtkgjpfamjedncaaGreatVotedStepNewKCellSealCellTrimQ
import Derived.Test.YtkgjpfamjedncaaGreatPartQ
import Derived.Test.YtkgjpfamjedncaaGreatCellHFrAccByte4AgainCQ
import Derived.Test.YtkgjpfamjedncaaGreatPickObKeptLReadsLLaysLOwnQ
import Derived.Deep.RegionHeld3
import Derived.Deep.DeepCutAuto
namespace Go.Proofs.YtkgjpfamjedncaaGreat
open Go.RowKit Go.Maps

def KOb (w : World) (tag : Nat → Nat) (j q K : Nat) : Prop := ∃ a b c d u ch rs S m nn, ObC w tag j q a b c d u ch rs S m nn ∧ m ≤ K + 1 ∧ nn ≤ K ∧ rs.length ≤ K ∧ (flat rs).length ≤ 60 * K
def VOb (w : World) (tag : Nat → Nat) (j q K T : Nat) : Prop := ∃ rs S m nn, Ob 0 w tag j q rs S m nn ∧ m ≤ K + 1 ∧ nn ≤ K ∧ rs.length ≤ K ∧ (flat rs).length ≤ 24 * K + T
section
variable {X : Nat → Prop} {w w' : World} {tag tag' : Nat → Nat} {j q K K' T T' : Nat}
theorem KOb.only (h : KOb w tag j q K) (ho : Only X w w') (hs : ∀ g, g < w.heap.size → X g → ¬ Mine j (tag g)) (ht : ∀ g, g < w.heap.size → tag' g = tag g) : KOb w' tag' j q K := by
  obtain ⟨a, b, c, d, u, ch, rs, S, m, nn, k1, k⟩ := h
  exact ⟨a, b, c, d, u, ch, rs, S, m, nn, k1.only ho hs ht, k⟩
theorem VOb.only (h : VOb w tag j q K T) (ho : Only X w w') (hs : ∀ g, g < w.heap.size → X g → ¬ Mine j (tag g)) (ht : ∀ g, g < w.heap.size → tag' g = tag g) : VOb w' tag' j q K T := by
  obtain ⟨rs, S, m, nn, k1, k⟩ := h
  exact ⟨rs, S, m, nn, k1.only ho hs ht, k⟩
theorem KOb.mono (h : KOb w tag j q K) (hK : K ≤ K') : KOb w tag j q K' := by
  obtain ⟨a, b, c, d, u, ch, rs, S, m, nn, k1, k2, k3, k4, k5⟩ := h
  exact ⟨a, b, c, d, u, ch, rs, S, m, nn, k1, by omega, by omega, by omega, by omega⟩
theorem VOb.mono (h : VOb w tag j q K T) (hK : K ≤ K') (hT : T ≤ T') : VOb w tag j q K' T' := by
  obtain ⟨rs, S, m, nn, k1, k2, k3, k4, k5⟩ := h
  exact ⟨rs, S, m, nn, k1, by omega, by omega, by omega, by omega⟩
end

/-- The row of pointers to some objects, of the mark t. -/
structure PRow (w : World) (tag : Nat → Nat) (e : TypeId) (t : Nat) (v : Value) (n : Nat) (P : Nat → Nat) : Prop where
  own : w.ownsRow 0 e 1 v n ((List.range n).map fun j => .pointer (some ⟨P j, 0, none⟩))
  tg : ∀ b, v.ownBlock = some b → tag b = t
theorem PRow.only {X : Nat → Prop} {w w' : World} {tag tag' : Nat → Nat} {e : TypeId} {t : Nat} {v : Value} {n : Nat} {P : Nat → Nat} (h : PRow w tag e t v n P) (ho : Only X w w') (hs : ∀ g, g < w.heap.size → X g → tag g ≠ t) (ht : ∀ g, g < w.heap.size → tag' g = tag g) : PRow w' tag' e t v n P :=
  ⟨ho.owns h.own fun b hb e => hs b (h.own.lt b hb).2 e (h.tg b hb), fun b hb => by rw [ht b (h.own.lt b hb).2]; exact h.tg b hb⟩
theorem PRow.push {w : World} {tag : Nat → Nat} {e : TypeId} {t : Nat} {v : Value} {n q : Nat} {P : Nat → Nat} (h : w.ownsRow 0 e 1 v (n + 1) (((List.range n).map fun j => .pointer (some ⟨P j, 0, none⟩)) ++ [.pointer (some ⟨q, 0, none⟩)])) (ht : ∀ b, v.ownBlock = some b → tag b = t) : PRow w tag e t v (n + 1) (fun j => if j = n then q else P j) := by
  refine ⟨?_, ht⟩
  have : (List.range (n + 1)).map (fun j => Value.pointer (some ⟨if j = n then q else P j, 0, none⟩)) = ((List.range n).map fun j => Value.pointer (some ⟨P j, 0, none⟩)) ++ [.pointer (some ⟨q, 0, none⟩)] := by
    rw [List.range_succ, List.map_append]
    congr 1
    · refine List.map_congr_left fun i hi => ?_
      have hi' : i < n := by simpa using hi
      rw [if_neg (by omega)]
    · simp
  rw [this]; exact h
theorem PRow.cell {w : World} {tag : Nat → Nat} {e : TypeId} {t gv bc : Nat} {n : Nat} {P : Nat → Nat} (h : PRow w tag e t (.slice (some ⟨gv, 0, none⟩) n bc) n P) (j : Nat) (hj : j < n) : w.cell? ⟨gv, j, none⟩ = some (.pointer (some ⟨P j, 0, none⟩)) := by
  rw [h.own.cellAt j (by omega)]
  simp [hj]
/-- Where there are some, the row is a slice whose cells point to them. -/
theorem PRow.at {w : World} {tag : Nat → Nat} {e : TypeId} {t : Nat} {v : Value} {n : Nat} {P : Nat → Nat} (h : PRow w tag e t v n P) (hn : 0 < n) : ∃ gv bc, v = .slice (some ⟨gv, 0, none⟩) n bc ∧ gv < w.heap.size ∧ ∀ j, j < n → w.cell? ⟨gv, j, none⟩ = some (.pointer (some ⟨P j, 0, none⟩)) := by
  rcases h.own.2 with ⟨e1, e2⟩ | ⟨g, cap, cur, e1, _⟩
  · omega
  · refine ⟨g, cap, e1, (h.own.lt g (by rw [e1]; rfl)).2, fun j hj => ?_⟩
    have ho := h.own
    rw [e1] at ho
    rw [ho.cellAt j (by omega)]
    simp [hj]

/-- Units i bear the marks of the index 2 i, voters those of 2 i + 1. -/
structure PsP (w : World) (tag : Nat → Nat) (bw : Nat) (kl vl : Value) (PK PV : Nat → Nat) (nk nv nb K T : Nat) : Prop where
  bt : Bt w tag bw kl vl nb w.heap.size
  kr : PRow w tag 46 6 kl nk PK
  vr : PRow w tag 51 9 vl nv PV
  ko : ∀ j, j < nk → KOb w tag (2 * j) (PK j) K
  vo : ∀ j, j < nv → VOb w tag (2 * j + 1) (PV j) K T
structure PsA (w : World) (tag : Nat → Nat) (bw nk nv nb K T : Nat) : Prop where
  ex : ∃ (kl vl : Value) (PK PV : Nat → Nat), PsP w tag bw kl vl PK PV nk nv nb K T
theorem PsP.bl {w w' : World} {tag : Nat → Nat} {bw : Nat} {kl vl : Value} {PK PV : Nat → Nat} {nk nv nb K T : Nat} (h : PsP w tag bw kl vl PK PV nk nv nb K T) (hb : Bl w w') (t : Nat) : PsP w' (tagTo tag w.heap.size t) bw kl vl PK PV nk nv nb K T := by
  have O : Only (fun _ => False) w w' := Only.of_bl hb
  have old : ∀ b, b < w.heap.size → tagTo tag w.heap.size t b = tag b := fun b hb => tagTo_old _ _ _ _ hb
  exact ⟨(h.bt.only O (fun _ _ e => e.elim) old (Nat.le_refl _)).mono hb.lt, h.kr.only O (fun _ _ e => e.elim) old, h.vr.only O (fun _ _ e => e.elim) old, fun j hj => (h.ko j hj).only O (fun _ _ e => e.elim) old, fun j hj => (h.vo j hj).only O (fun _ _ e => e.elim) old⟩
theorem PsA.mono {w : World} {tag : Nat → Nat} {bw nk nv nb nb' K K' T T' : Nat} (h : PsA w tag bw nk nv nb K T) (hn : nb ≤ nb') (hK : K ≤ K') (hT : T ≤ T') : PsA w tag bw nk nv nb' K' T' := by
  obtain ⟨kl, vl, PK, PV, h⟩ := h
  exact ⟨kl, vl, PK, PV, h.bt.up hn, h.kr, h.vr, fun j hj => (h.ko j hj).mono hK, fun j hj => (h.vo j hj).mono hK hT⟩
theorem PsA.bl {w w' : World} {tag : Nat → Nat} {bw nk nv nb K T : Nat} (h : PsA w tag bw nk nv nb K T) (hb : Bl w w') (t : Nat) : PsA w' (tagTo tag w.heap.size t) bw nk nv nb K T := by
  obtain ⟨kl, vl, PK, PV, h⟩ := h
  exact ⟨kl, vl, PK, PV, h.bl hb t⟩
theorem mine_nine (j t : Nat) (h : Mine j t) : 10 ≤ t := by
  unfold Mine tP tR tV tD at h
  omega

/-- What a step leaves behind. -/
def Aft (w : World) (tag : Nat → Nat) (bw nk nv nb K T : Nat) (w' : World) : Prop := (∃ tag' nk' nv' nb', (∀ b, b < w.heap.size → tag' b = tag b) ∧ PsA w' tag' bw nk' nv' nb' K T ∧ nk' ≤ nk + 1 ∧ nv' ≤ nv + 1 ∧ nb' ≤ nb) ∧ Only (fun b => tag b ≠ 0) w w'
theorem Aft.bl {w w' : World} {tag : Nat → Nat} {bw nk nv nb nb' K K' T T' : Nat} (h : PsA w tag bw nk nv nb K T) (hb : Bl w w') (hn : nb ≤ nb') (hK : K ≤ K') (hT : T ≤ T') : Aft w tag bw nk nv nb' K' T' w' :=
  ⟨⟨_, nk, nv, nb, fun b hb => tagTo_old tag w.heap.size 1 b hb, (h.bl hb 1).mono (Nat.le_refl _) hK hT, by omega, by omega, hn⟩, Only.of_bl hb⟩
theorem Aft.mono {w w' : World} {tag : Nat → Nat} {bw nk nv nb nb' K K' T T' : Nat} (h : Aft w tag bw nk nv nb K T w') (hn : nb ≤ nb') (hK : K ≤ K') (hT : T ≤ T') : Aft w tag bw nk nv nb' K' T' w' := by
  obtain ⟨⟨tag', nk', nv', nb2, o, k1, k2, k3, k4⟩, O⟩ := h
  exact ⟨⟨tag', nk', nv', nb2, o, k1.mono (Nat.le_refl _) hK hT, k2, k3, by omega⟩, O⟩
/-- The same, out of what was a little later. -/
theorem Aft.later {w W w' : World} {tag : Nat → Nat} {bw nk nv nb K T t : Nat} (hb : Bl w W) (h : Aft W (tagTo tag w.heap.size t) bw nk nv nb K T w') : Aft w tag bw nk nv nb K T w' := by
  obtain ⟨⟨tag', nk', nv', nb', o, k⟩, O⟩ := h
  have lW := hb.lt
  refine ⟨⟨tag', nk', nv', nb', fun b h => by rw [o b (by omega)]; exact tagTo_old _ _ _ _ h, k⟩, O.os.trans hb.os, O.tape.trans hb.tape, O.output.trans hb.output, by have := O.size; omega, fun i hi hn => ?_⟩
  rw [O.block i (by omega) fun e => hn (by rw [tagTo_old _ _ _ _ hi] at e; exact e), hb.heap hi]

/-- A call on the object of the index jm: the others stay. -/
theorem PsP.call {w w' : World} {tag tag' : Nat → Nat} {bw nk nv nb nb' nb2 K K' T T' jm : Nat} {kl vl : Value} {PK PV : Nat → Nat} (p : PsP w tag bw kl vl PK PV nk nv nb K T)
    (o1 : ∀ b, b < w.heap.size → tag' b = tag b) (k1 : Bt w' tag' bw kl vl nb' w'.heap.size) (O : Only (fun g => tag g = 2 ∨ Mine jm (tag g)) w w') (hk : ∀ j, j < nk → 2 * j = jm → KOb w' tag' (2 * j) (PK j) K') (hv : ∀ j, j < nv → 2 * j + 1 = jm → VOb w' tag' (2 * j + 1) (PV j) K' T') (hK : K ≤ K') (hT : T ≤ T') (hn2 : nb' ≤ nb2) : Aft w tag bw nk nv nb2 K' T' w' := by
  have hX : ∀ i, i ≠ jm → ∀ g, g < w.heap.size → (tag g = 2 ∨ Mine jm (tag g)) → ¬ Mine i (tag g) := fun i hi g _ e => by
    rcases e with e | e
    · rw [e]; exact (mine_small i).2.1
    · exact mine_ne jm i _ (Ne.symm hi) e
  have hR : ∀ t, (t = 6 ∨ t = 9) → ∀ g, g < w.heap.size → (tag g = 2 ∨ Mine jm (tag g)) → tag g ≠ t := fun t ht g _ e => by
    rcases e with e | e
    · omega
    · have := mine_nine jm _ e; omega
  refine ⟨⟨tag', nk, nv, nb', o1, ⟨kl, vl, PK, PV, k1, p.kr.only O (hR 6 (.inl rfl)) o1, p.vr.only O (hR 9 (.inr rfl)) o1, fun j hj => ?_, fun j hj => ?_⟩, by omega, by omega, hn2⟩, O.mono fun b _ e => ?_⟩
  · by_cases e : 2 * j = jm
    · exact hk j hj e
    · exact ((p.ko j hj).only O (hX _ e) o1).mono hK
  · by_cases e : 2 * j + 1 = jm
    · exact hv j hj e
    · exact ((p.vo j hj).only O (hX _ e) o1).mono hK hT
  · rcases e with e | e
    · omega
    · have := mine_nine jm _ e; omega

/-- A unit is made, or is refused. -/
theorem newK_aft {w w' : World} {tag : Nat → Nat} {bw nk nv nb K T : Nat} {kl vl : Value} {PK PV : Nat → Nat} {a b c d u : Int} (p : PsP w tag bw kl vl PK PV nk nv nb K T)
    (h : ((∃ ch kl' q tag', (∀ b, b < w.heap.size → tag' b = tag b) ∧ Bt w' tag' bw kl' vl (nb + 1) w'.heap.size ∧ w'.ownsRow 0 46 1 kl' (nk + 1) (((List.range nk).map fun j => .pointer (some ⟨PK j, 0, none⟩)) ++ [.pointer (some ⟨q, 0, none⟩)]) ∧ (∀ b, kl'.ownBlock = some b → tag' b = 6) ∧ ObC w' tag' (2 * nk) q a b c d u ch [] SK0 1 0) ∧ Only (fun b => tag b = 2 ∨ tag b = 6 ∨ Mine (2 * nk) (tag b)) w w') ∨ Bl w w') : Aft w tag bw nk nv (nb + 1) K T w' := by
  rcases h with ⟨⟨ch, kl', q, tag', o1, k1, k2, k3, k4⟩, O⟩ | hb
  · have hX : ∀ i, i ≠ 2 * nk → ∀ g, g < w.heap.size → (tag g = 2 ∨ tag g = 6 ∨ Mine (2 * nk) (tag g)) → ¬ Mine i (tag g) := fun i hi g _ e hM => by
      have := mine_nine i _ hM
      rcases e with e | e | e
      · omega
      · omega
      · exact mine_ne (2 * nk) i _ (Ne.symm hi) e hM
    refine ⟨⟨tag', nk + 1, nv, nb + 1, o1, ⟨kl', vl, _, PV, k1, PRow.push k2 k3, p.vr.only O (fun g _ e => ?_) o1, fun j hj => ?_, fun j hj => (p.vo j hj).only O (hX _ (by omega)) o1⟩, by omega, by omega, by omega⟩, O.mono fun b _ e => ?_⟩
    · rcases e with e | e | e
      · omega
      · omega
      · have := mine_nine (2 * nk) _ e; omega
    · by_cases e : j = nk
      · subst e
        simp only [if_true]
        exact ⟨_, _, _, _, _, ch, [], SK0, 1, 0, k4, by omega, by omega, by simp, by simp [flat]⟩
      · simp only [e, if_false]
        exact (p.ko j (by omega)).only O (hX _ (by omega)) o1
    · rcases e with e | e | e
      · omega
      · omega
      · have := mine_nine (2 * nk) _ e; omega
  · exact Aft.bl ⟨kl, vl, PK, PV, p⟩ hb (by omega) (Nat.le_refl _) (Nat.le_refl _)
/-- A voter is made. -/
theorem newV_aft {w w' : World} {tag : Nat → Nat} {bw nk nv nb K T : Nat} {kl vl : Value} {PK PV : Nat → Nat} (p : PsP w tag bw kl vl PK PV nk nv nb K T)
    (h : (∃ vl' q tag', (∀ b, b < w.heap.size → tag' b = tag b) ∧ Bt w' tag' bw kl vl' nb w'.heap.size ∧ w'.ownsRow 0 51 1 vl' (nv + 1) (((List.range nv).map fun j => .pointer (some ⟨PV j, 0, none⟩)) ++ [.pointer (some ⟨q, 0, none⟩)]) ∧ (∀ b, vl'.ownBlock = some b → tag' b = 9) ∧ Ob 0 w' tag' (2 * nv + 1) q [] S0 1 0) ∧ Only (fun b => tag b = 2 ∨ tag b = 9) w w') : Aft w tag bw nk nv nb K T w' := by
  obtain ⟨⟨vl', q, tag', o1, k1, k2, k3, k4⟩, O⟩ := h
  have hX : ∀ i, ∀ g, g < w.heap.size → (tag g = 2 ∨ tag g = 9) → ¬ Mine i (tag g) := fun i g _ e hM => by
    have := mine_nine i _ hM
    omega
  refine ⟨⟨tag', nk, nv + 1, nb, o1, ⟨kl, vl', PK, _, k1, p.kr.only O (fun g _ e => by omega) o1, PRow.push k2 k3, fun j hj => (p.ko j hj).only O (hX _) o1, fun j hj => ?_⟩, by omega, by omega, by omega⟩, O.mono fun b _ e => by omega⟩
  by_cases e : j = nv
  · subst e
    simp only [if_true]
    exact ⟨[], S0, 1, 0, k4, by omega, by omega, by simp, by simp [flat]⟩
  · simp only [e, if_false]
    exact (p.vo j (by omega)).only O (hX _) o1
/-- The book alone has turned. -/
theorem book_aft {w w' : World} {tag tag' : Nat → Nat} {bw nk nv nb nb' K T : Nat} {kl vl : Value} {PK PV : Nat → Nat} (p : PsP w tag bw kl vl PK PV nk nv nb K T)
    (o1 : ∀ b, b < w.heap.size → tag' b = tag b) (k1 : Bt w' tag' bw kl vl nb' w'.heap.size) (O : Only (fun b => tag b = 1 ∨ tag b = 2) w w') : Aft w tag bw nk nv nb' K T w' := by
  have hX : ∀ i, ∀ g, g < w.heap.size → (tag g = 1 ∨ tag g = 2) → ¬ Mine i (tag g) := fun i g _ e hM => by
    have := mine_nine i _ hM
    omega
  exact ⟨⟨tag', nk, nv, nb', o1, ⟨kl, vl, PK, PV, k1, p.kr.only O (fun g _ e => by omega) o1, p.vr.only O (fun g _ e => by omega) o1, fun j hj => (p.ko j hj).only O (hX _) o1, fun j hj => (p.vo j hj).only O (hX _) o1⟩, by omega, by omega, by omega⟩, O.mono fun b _ e => by omega⟩
end Go.Proofs.YtkgjpfamjedncaaGreat

namespace Go.Proofs.YtkgjpfamjedncaaGreat
open Go.RowKit Go.Maps
theorem op_cellsW {W : World} {g : Nat} {x0 x1 x2 x3 x4 x5 x6 x7 x8 x9 x10 x11 x12 x13 x14 : Value} (h : W.heap[g]? = some (.cells #[x0, x1, x2, x3, x4, x5, x6, x7, x8, x9, x10, x11, x12, x13, x14] 44 (0, 0))) : W.cell? ⟨g, 0, none⟩ = some x0 ∧ W.cell? ⟨g, 1, none⟩ = some x1 ∧ W.cell? ⟨g, 2, none⟩ = some x2 ∧ W.cell? ⟨g, 3, none⟩ = some x3 ∧ W.cell? ⟨g, 4, none⟩ = some x4 ∧ W.cell? ⟨g, 5, none⟩ = some x5 ∧ W.cell? ⟨g, 6, none⟩ = some x6 ∧ W.cell? ⟨g, 7, none⟩ = some x7 ∧ W.cell? ⟨g, 8, none⟩ = some x8 ∧ W.cell? ⟨g, 9, none⟩ = some x9 ∧ W.cell? ⟨g, 10, none⟩ = some x10 ∧ W.cell? ⟨g, 11, none⟩ = some x11 ∧ W.cell? ⟨g, 12, none⟩ = some x12 ∧ W.cell? ⟨g, 13, none⟩ = some x13 ∧ W.cell? ⟨g, 14, none⟩ = some x14 :=
  ⟨cell_of_row W g 0 _ 44 (0, 0) h, cell_of_row W g 1 _ 44 (0, 0) h, cell_of_row W g 2 _ 44 (0, 0) h, cell_of_row W g 3 _ 44 (0, 0) h, cell_of_row W g 4 _ 44 (0, 0) h, cell_of_row W g 5 _ 44 (0, 0) h, cell_of_row W g 6 _ 44 (0, 0) h, cell_of_row W g 7 _ 44 (0, 0) h, cell_of_row W g 8 _ 44 (0, 0) h, cell_of_row W g 9 _ 44 (0, 0) h, cell_of_row W g 10 _ 44 (0, 0) h, cell_of_row W g 11 _ 44 (0, 0) h, cell_of_row W g 12 _ 44 (0, 0) h, cell_of_row W g 13 _ 44 (0, 0) h, cell_of_row W g 14 _ 44 (0, 0) h⟩
end Go.Proofs.YtkgjpfamjedncaaGreat

namespace Go.Proofs.YtkgjpfamjedncaaGreat
open Go.RowKit Go.Maps
attribute [local go_sem ↓] Go.wp_at_zero Go.wp_at_succ

set_option maxRecDepth 100000 in
set_option maxHeartbeats 4000000 in
theorem stepFree1_w (bw : Nat) (R : World → Prop) (a b c q1 q2 q3 q4 : Int) (la : Option Addr) (ln lc : Nat) (ua : Option Addr) (un uc : Nat) (s : ByteArray) (t1 t2 t3 : Int) (va : Option Addr) (vn vc : Nat) (w : World) (HF : ∀ W, Bl w W → Calls Tryz.prog 10 #[.pointer (some ⟨bw, 0, none⟩), .agg #[.int .i64 1, .int .i64 a, .int .i64 b, .int .i64 c, .int .i64 q1, .int .i64 q2, .int .i64 q3, .int .i64 q4, .slice la ln lc, .slice ua un uc, .string s, .int .i64 t1, .int .i64 t2, .int .i64 t3, .slice va vn vc]] W fun en w' => en = .returned (.bool true) ∧ R w') :
    Calls Tryz.prog 8 #[.pointer (some ⟨bw, 0, none⟩), .agg #[.int .i64 1, .int .i64 a, .int .i64 b, .int .i64 c, .int .i64 q1, .int .i64 q2, .int .i64 q3, .int .i64 q4, .slice la ln lc, .slice ua un uc, .string s, .int .i64 t1, .int .i64 t2, .int .i64 t3, .slice va vn vc]] w fun en w' => en = .returned (.bool true) ∧ R w' := by
  have H := hid (HF _ ((Bl.refl w).alloc (.cells #[.int .i64 1, .int .i64 a, .int .i64 b, .int .i64 c, .int .i64 q1, .int .i64 q2, .int .i64 q3, .int .i64 q4, .slice la ln lc, .slice ua un uc, .string s, .int .i64 t1, .int .i64 t2, .int .i64 t3, .slice va vn vc] 44)))
  clear HF
  go_enter Tryz.func8, Tryz.ntmps8
  go_wp2_with fail
  refine H.out.mono ?_
  rintro en w1 ⟨rfl, hR⟩
  have HR := hid hR
  clear H hR
  go_wp2
  go_ret
  exact ⟨rfl, HR.out⟩

set_option maxRecDepth 100000 in
set_option maxHeartbeats 4000000 in
theorem stepFree2_w (bw : Nat) (R : World → Prop) (a b c q1 q2 q3 q4 : Int) (la : Option Addr) (ln lc : Nat) (ua : Option Addr) (un uc : Nat) (s : ByteArray) (t1 t2 t3 : Int) (va : Option Addr) (vn vc : Nat) (w : World) (HF : ∀ W, Bl w W → Calls Tryz.prog 10 #[.pointer (some ⟨bw, 0, none⟩), .agg #[.int .i64 2, .int .i64 a, .int .i64 b, .int .i64 c, .int .i64 q1, .int .i64 q2, .int .i64 q3, .int .i64 q4, .slice la ln lc, .slice ua un uc, .string s, .int .i64 t1, .int .i64 t2, .int .i64 t3, .slice va vn vc]] W fun en w' => en = .returned (.bool true) ∧ R w') :
    Calls Tryz.prog 8 #[.pointer (some ⟨bw, 0, none⟩), .agg #[.int .i64 2, .int .i64 a, .int .i64 b, .int .i64 c, .int .i64 q1, .int .i64 q2, .int .i64 q3, .int .i64 q4, .slice la ln lc, .slice ua un uc, .string s, .int .i64 t1, .int .i64 t2, .int .i64 t3, .slice va vn vc]] w fun en w' => en = .returned (.bool true) ∧ R w' := by
  have H := hid (HF _ ((Bl.refl w).alloc (.cells #[.int .i64 2, .int .i64 a, .int .i64 b, .int .i64 c, .int .i64 q1, .int .i64 q2, .int .i64 q3, .int .i64 q4, .slice la ln lc, .slice ua un uc, .string s, .int .i64 t1, .int .i64 t2, .int .i64 t3, .slice va vn vc] 44)))
  clear HF
  go_enter Tryz.func8, Tryz.ntmps8
  go_wp2_with fail
  refine H.out.mono ?_
  rintro en w1 ⟨rfl, hR⟩
  have HR := hid hR
  clear H hR
  go_wp2
  go_ret
  exact ⟨rfl, HR.out⟩

set_option maxRecDepth 100000 in
set_option maxHeartbeats 4000000 in
theorem stepFree3_w (bw : Nat) (R : World → Prop) (a b c q1 q2 q3 q4 : Int) (la : Option Addr) (ln lc : Nat) (ua : Option Addr) (un uc : Nat) (s : ByteArray) (t1 t2 t3 : Int) (va : Option Addr) (vn vc : Nat) (w : World) (HF : ∀ W, Bl w W → Calls Tryz.prog 10 #[.pointer (some ⟨bw, 0, none⟩), .agg #[.int .i64 3, .int .i64 a, .int .i64 b, .int .i64 c, .int .i64 q1, .int .i64 q2, .int .i64 q3, .int .i64 q4, .slice la ln lc, .slice ua un uc, .string s, .int .i64 t1, .int .i64 t2, .int .i64 t3, .slice va vn vc]] W fun en w' => en = .returned (.bool true) ∧ R w') :
    Calls Tryz.prog 8 #[.pointer (some ⟨bw, 0, none⟩), .agg #[.int .i64 3, .int .i64 a, .int .i64 b, .int .i64 c, .int .i64 q1, .int .i64 q2, .int .i64 q3, .int .i64 q4, .slice la ln lc, .slice ua un uc, .string s, .int .i64 t1, .int .i64 t2, .int .i64 t3, .slice va vn vc]] w fun en w' => en = .returned (.bool true) ∧ R w' := by
  have H := hid (HF _ ((Bl.refl w).alloc (.cells #[.int .i64 3, .int .i64 a, .int .i64 b, .int .i64 c, .int .i64 q1, .int .i64 q2, .int .i64 q3, .int .i64 q4, .slice la ln lc, .slice ua un uc, .string s, .int .i64 t1, .int .i64 t2, .int .i64 t3, .slice va vn vc] 44)))
  clear HF
  go_enter Tryz.func8, Tryz.ntmps8
  go_wp2_with fail
  refine H.out.mono ?_
  rintro en w1 ⟨rfl, hR⟩
  have HR := hid hR
  clear H hR
  go_wp2
  go_ret
  exact ⟨rfl, HR.out⟩

set_option maxRecDepth 100000 in
set_option maxHeartbeats 4000000 in
theorem stepFree9_w (bw : Nat) (R : World → Prop) (a b c q1 q2 q3 q4 : Int) (la : Option Addr) (ln lc : Nat) (ua : Option Addr) (un uc : Nat) (s : ByteArray) (t1 t2 t3 : Int) (va : Option Addr) (vn vc : Nat) (w : World) (HF : ∀ W, Bl w W → Calls Tryz.prog 10 #[.pointer (some ⟨bw, 0, none⟩), .agg #[.int .i64 9, .int .i64 a, .int .i64 b, .int .i64 c, .int .i64 q1, .int .i64 q2, .int .i64 q3, .int .i64 q4, .slice la ln lc, .slice ua un uc, .string s, .int .i64 t1, .int .i64 t2, .int .i64 t3, .slice va vn vc]] W fun en w' => en = .returned (.bool true) ∧ R w') :
    Calls Tryz.prog 8 #[.pointer (some ⟨bw, 0, none⟩), .agg #[.int .i64 9, .int .i64 a, .int .i64 b, .int .i64 c, .int .i64 q1, .int .i64 q2, .int .i64 q3, .int .i64 q4, .slice la ln lc, .slice ua un uc, .string s, .int .i64 t1, .int .i64 t2, .int .i64 t3, .slice va vn vc]] w fun en w' => en = .returned (.bool true) ∧ R w' := by
  have H := hid (HF _ ((Bl.refl w).alloc (.cells #[.int .i64 9, .int .i64 a, .int .i64 b, .int .i64 c, .int .i64 q1, .int .i64 q2, .int .i64 q3, .int .i64 q4, .slice la ln lc, .slice ua un uc, .string s, .int .i64 t1, .int .i64 t2, .int .i64 t3, .slice va vn vc] 44)))
  clear HF
  go_enter Tryz.func8, Tryz.ntmps8
  go_wp2_with fail
  refine H.out.mono ?_
  rintro en w1 ⟨rfl, hR⟩
  have HR := hid hR
  clear H hR
  go_wp2
  go_ret
  exact ⟨rfl, HR.out⟩

set_option maxRecDepth 100000 in
set_option maxHeartbeats 4000000 in
theorem stepNone4_w (bw : Nat) (ba : Option Addr) (bc : Nat) (a b c q1 q2 q3 q4 : Int) (la : Option Addr) (ln lc : Nat) (ua : Option Addr) (un uc : Nat) (s : ByteArray) (t1 t2 t3 : Int) (va : Option Addr) (vn vc : Nat) (w : World) (lbw : bw < w.heap.size) (c1 : w.cell? ⟨bw, 0, none⟩ = some (.slice ba 0 bc)) :
    Calls Tryz.prog 8 #[.pointer (some ⟨bw, 0, none⟩), .agg #[.int .i64 4, .int .i64 a, .int .i64 b, .int .i64 c, .int .i64 q1, .int .i64 q2, .int .i64 q3, .int .i64 q4, .slice la ln lc, .slice ua un uc, .string s, .int .i64 t1, .int .i64 t2, .int .i64 t3, .slice va vn vc]] w fun en w' => en = .returned (.bool true) ∧ Bl w w' := by
  have bA := (Bl.refl w).alloc (.cells #[.int .i64 4, .int .i64 a, .int .i64 b, .int .i64 c, .int .i64 q1, .int .i64 q2, .int .i64 q3, .int .i64 q4, .slice la ln lc, .slice ua un uc, .string s, .int .i64 t1, .int .i64 t2, .int .i64 t3, .slice va vn vc] 44)
  have cA := (bA.cell lbw).trans c1
  have nbw : ¬ bw = w.heap.size := by omega
  have HB := hid bA
  clear bA c1
  go_enter Tryz.func8, Tryz.ntmps8
  go_wp2
  go_ret
  exact ⟨rfl, HB.out⟩

set_option maxRecDepth 100000 in
set_option maxHeartbeats 4000000 in
theorem stepNone5_w (bw : Nat) (ba : Option Addr) (bc : Nat) (a b c q1 q2 q3 q4 : Int) (la : Option Addr) (ln lc : Nat) (ua : Option Addr) (un uc : Nat) (s : ByteArray) (t1 t2 t3 : Int) (va : Option Addr) (vn vc : Nat) (w : World) (lbw : bw < w.heap.size) (c1 : w.cell? ⟨bw, 0, none⟩ = some (.slice ba 0 bc)) :
    Calls Tryz.prog 8 #[.pointer (some ⟨bw, 0, none⟩), .agg #[.int .i64 5, .int .i64 a, .int .i64 b, .int .i64 c, .int .i64 q1, .int .i64 q2, .int .i64 q3, .int .i64 q4, .slice la ln lc, .slice ua un uc, .string s, .int .i64 t1, .int .i64 t2, .int .i64 t3, .slice va vn vc]] w fun en w' => en = .returned (.bool true) ∧ Bl w w' := by
  have bA := (Bl.refl w).alloc (.cells #[.int .i64 5, .int .i64 a, .int .i64 b, .int .i64 c, .int .i64 q1, .int .i64 q2, .int .i64 q3, .int .i64 q4, .slice la ln lc, .slice ua un uc, .string s, .int .i64 t1, .int .i64 t2, .int .i64 t3, .slice va vn vc] 44)
  have cA := (bA.cell lbw).trans c1
  have nbw : ¬ bw = w.heap.size := by omega
  have HB := hid bA
  clear bA c1
  go_enter Tryz.func8, Tryz.ntmps8
  go_wp2
  go_ret
  exact ⟨rfl, HB.out⟩

set_option maxRecDepth 100000 in
set_option maxHeartbeats 4000000 in
theorem stepNone6_w (bw : Nat) (ba : Option Addr) (bc : Nat) (a b c q1 q2 q3 q4 : Int) (la : Option Addr) (ln lc : Nat) (ua : Option Addr) (un uc : Nat) (s : ByteArray) (t1 t2 t3 : Int) (va : Option Addr) (vn vc : Nat) (w : World) (lbw : bw < w.heap.size) (c1 : w.cell? ⟨bw, 0, none⟩ = some (.slice ba 0 bc)) :
    Calls Tryz.prog 8 #[.pointer (some ⟨bw, 0, none⟩), .agg #[.int .i64 6, .int .i64 a, .int .i64 b, .int .i64 c, .int .i64 q1, .int .i64 q2, .int .i64 q3, .int .i64 q4, .slice la ln lc, .slice ua un uc, .string s, .int .i64 t1, .int .i64 t2, .int .i64 t3, .slice va vn vc]] w fun en w' => en = .returned (.bool true) ∧ Bl w w' := by
  have bA := (Bl.refl w).alloc (.cells #[.int .i64 6, .int .i64 a, .int .i64 b, .int .i64 c, .int .i64 q1, .int .i64 q2, .int .i64 q3, .int .i64 q4, .slice la ln lc, .slice ua un uc, .string s, .int .i64 t1, .int .i64 t2, .int .i64 t3, .slice va vn vc] 44)
  have cA := (bA.cell lbw).trans c1
  have nbw : ¬ bw = w.heap.size := by omega
  have HB := hid bA
  clear bA c1
  go_enter Tryz.func8, Tryz.ntmps8
  go_wp2
  go_ret
  exact ⟨rfl, HB.out⟩

set_option maxRecDepth 100000 in
set_option maxHeartbeats 4000000 in
theorem stepNone7_w (bw : Nat) (ba : Option Addr) (bc : Nat) (a b c q1 q2 q3 q4 : Int) (la : Option Addr) (ln lc : Nat) (ua : Option Addr) (un uc : Nat) (s : ByteArray) (t1 t2 t3 : Int) (va : Option Addr) (vn vc : Nat) (w : World) (lbw : bw < w.heap.size) (c1 : w.cell? ⟨bw, 0, none⟩ = some (.slice ba 0 bc)) :
    Calls Tryz.prog 8 #[.pointer (some ⟨bw, 0, none⟩), .agg #[.int .i64 7, .int .i64 a, .int .i64 b, .int .i64 c, .int .i64 q1, .int .i64 q2, .int .i64 q3, .int .i64 q4, .slice la ln lc, .slice ua un uc, .string s, .int .i64 t1, .int .i64 t2, .int .i64 t3, .slice va vn vc]] w fun en w' => en = .returned (.bool true) ∧ Bl w w' := by
  have bA := (Bl.refl w).alloc (.cells #[.int .i64 7, .int .i64 a, .int .i64 b, .int .i64 c, .int .i64 q1, .int .i64 q2, .int .i64 q3, .int .i64 q4, .slice la ln lc, .slice ua un uc, .string s, .int .i64 t1, .int .i64 t2, .int .i64 t3, .slice va vn vc] 44)
  have cA := (bA.cell lbw).trans c1
  have nbw : ¬ bw = w.heap.size := by omega
  have HB := hid bA
  clear bA c1
  go_enter Tryz.func8, Tryz.ntmps8
  go_wp2
  go_ret
  exact ⟨rfl, HB.out⟩

set_option maxRecDepth 100000 in
set_option maxHeartbeats 4000000 in
theorem stepNone8_w (bw : Nat) (ba : Option Addr) (bc : Nat) (a b c q1 q2 q3 q4 : Int) (la : Option Addr) (ln lc : Nat) (ua : Option Addr) (un uc : Nat) (s : ByteArray) (t1 t2 t3 : Int) (va : Option Addr) (vn vc : Nat) (w : World) (lbw : bw < w.heap.size) (c1 : w.cell? ⟨bw, 0, none⟩ = some (.slice ba 0 bc)) :
    Calls Tryz.prog 8 #[.pointer (some ⟨bw, 0, none⟩), .agg #[.int .i64 8, .int .i64 a, .int .i64 b, .int .i64 c, .int .i64 q1, .int .i64 q2, .int .i64 q3, .int .i64 q4, .slice la ln lc, .slice ua un uc, .string s, .int .i64 t1, .int .i64 t2, .int .i64 t3, .slice va vn vc]] w fun en w' => en = .returned (.bool true) ∧ Bl w w' := by
  have bA := (Bl.refl w).alloc (.cells #[.int .i64 8, .int .i64 a, .int .i64 b, .int .i64 c, .int .i64 q1, .int .i64 q2, .int .i64 q3, .int .i64 q4, .slice la ln lc, .slice ua un uc, .string s, .int .i64 t1, .int .i64 t2, .int .i64 t3, .slice va vn vc] 44)
  have cA := (bA.cell lbw).trans c1
  have nbw : ¬ bw = w.heap.size := by omega
  have HB := hid bA
  clear bA c1
  go_enter Tryz.func8, Tryz.ntmps8
  go_wp2
  go_ret
  exact ⟨rfl, HB.out⟩

set_option maxRecDepth 100000 in
set_option maxHeartbeats 4000000 in
theorem stepNone13_w (bw : Nat) (ba : Option Addr) (bc : Nat) (a b c q1 q2 q3 q4 : Int) (la : Option Addr) (ln lc : Nat) (ua : Option Addr) (un uc : Nat) (s : ByteArray) (t1 t2 t3 : Int) (va : Option Addr) (vn vc : Nat) (w : World) (lbw : bw < w.heap.size) (c1 : w.cell? ⟨bw, 0, none⟩ = some (.slice ba 0 bc)) :
    Calls Tryz.prog 8 #[.pointer (some ⟨bw, 0, none⟩), .agg #[.int .i64 13, .int .i64 a, .int .i64 b, .int .i64 c, .int .i64 q1, .int .i64 q2, .int .i64 q3, .int .i64 q4, .slice la ln lc, .slice ua un uc, .string s, .int .i64 t1, .int .i64 t2, .int .i64 t3, .slice va vn vc]] w fun en w' => en = .returned (.bool true) ∧ Bl w w' := by
  have bA := (Bl.refl w).alloc (.cells #[.int .i64 13, .int .i64 a, .int .i64 b, .int .i64 c, .int .i64 q1, .int .i64 q2, .int .i64 q3, .int .i64 q4, .slice la ln lc, .slice ua un uc, .string s, .int .i64 t1, .int .i64 t2, .int .i64 t3, .slice va vn vc] 44)
  have cA := (bA.cell lbw).trans c1
  have nbw : ¬ bw = w.heap.size := by omega
  have HB := hid bA
  clear bA c1
  go_enter Tryz.func8, Tryz.ntmps8
  go_wp2
  go_ret
  exact ⟨rfl, HB.out⟩

set_option maxRecDepth 100000 in
set_option maxHeartbeats 4000000 in
theorem stepNone10_w (bw : Nat) (ba : Option Addr) (bc : Nat) (a b c q1 q2 q3 q4 : Int) (la : Option Addr) (ln lc : Nat) (ua : Option Addr) (un uc : Nat) (s : ByteArray) (t1 t2 t3 : Int) (va : Option Addr) (vn vc : Nat) (w : World) (lbw : bw < w.heap.size) (c1 : w.cell? ⟨bw, 1, none⟩ = some (.slice ba 0 bc)) :
    Calls Tryz.prog 8 #[.pointer (some ⟨bw, 0, none⟩), .agg #[.int .i64 10, .int .i64 a, .int .i64 b, .int .i64 c, .int .i64 q1, .int .i64 q2, .int .i64 q3, .int .i64 q4, .slice la ln lc, .slice ua un uc, .string s, .int .i64 t1, .int .i64 t2, .int .i64 t3, .slice va vn vc]] w fun en w' => en = .returned (.bool true) ∧ Bl w w' := by
  have bA := (Bl.refl w).alloc (.cells #[.int .i64 10, .int .i64 a, .int .i64 b, .int .i64 c, .int .i64 q1, .int .i64 q2, .int .i64 q3, .int .i64 q4, .slice la ln lc, .slice ua un uc, .string s, .int .i64 t1, .int .i64 t2, .int .i64 t3, .slice va vn vc] 44)
  have cA := (bA.cell lbw).trans c1
  have nbw : ¬ bw = w.heap.size := by omega
  have HB := hid bA
  clear bA c1
  go_enter Tryz.func8, Tryz.ntmps8
  go_wp2
  go_ret
  exact ⟨rfl, HB.out⟩

set_option maxRecDepth 100000 in
set_option maxHeartbeats 4000000 in
theorem stepNone11_w (bw : Nat) (ba : Option Addr) (bc : Nat) (a b c q1 q2 q3 q4 : Int) (la : Option Addr) (ln lc : Nat) (ua : Option Addr) (un uc : Nat) (s : ByteArray) (t1 t2 t3 : Int) (va : Option Addr) (vn vc : Nat) (w : World) (lbw : bw < w.heap.size) (c1 : w.cell? ⟨bw, 1, none⟩ = some (.slice ba 0 bc)) :
    Calls Tryz.prog 8 #[.pointer (some ⟨bw, 0, none⟩), .agg #[.int .i64 11, .int .i64 a, .int .i64 b, .int .i64 c, .int .i64 q1, .int .i64 q2, .int .i64 q3, .int .i64 q4, .slice la ln lc, .slice ua un uc, .string s, .int .i64 t1, .int .i64 t2, .int .i64 t3, .slice va vn vc]] w fun en w' => en = .returned (.bool true) ∧ Bl w w' := by
  have bA := (Bl.refl w).alloc (.cells #[.int .i64 11, .int .i64 a, .int .i64 b, .int .i64 c, .int .i64 q1, .int .i64 q2, .int .i64 q3, .int .i64 q4, .slice la ln lc, .slice ua un uc, .string s, .int .i64 t1, .int .i64 t2, .int .i64 t3, .slice va vn vc] 44)
  have cA := (bA.cell lbw).trans c1
  have nbw : ¬ bw = w.heap.size := by omega
  have HB := hid bA
  clear bA c1
  go_enter Tryz.func8, Tryz.ntmps8
  go_wp2
  go_ret
  exact ⟨rfl, HB.out⟩

set_option maxRecDepth 100000 in
set_option maxHeartbeats 4000000 in
theorem stepNone12_w (bw : Nat) (ba : Option Addr) (bc : Nat) (a b c q1 q2 q3 q4 : Int) (la : Option Addr) (ln lc : Nat) (ua : Option Addr) (un uc : Nat) (s : ByteArray) (t1 t2 t3 : Int) (va : Option Addr) (vn vc : Nat) (w : World) (lbw : bw < w.heap.size) (c1 : w.cell? ⟨bw, 1, none⟩ = some (.slice ba 0 bc)) :
    Calls Tryz.prog 8 #[.pointer (some ⟨bw, 0, none⟩), .agg #[.int .i64 12, .int .i64 a, .int .i64 b, .int .i64 c, .int .i64 q1, .int .i64 q2, .int .i64 q3, .int .i64 q4, .slice la ln lc, .slice ua un uc, .string s, .int .i64 t1, .int .i64 t2, .int .i64 t3, .slice va vn vc]] w fun en w' => en = .returned (.bool true) ∧ Bl w w' := by
  have bA := (Bl.refl w).alloc (.cells #[.int .i64 12, .int .i64 a, .int .i64 b, .int .i64 c, .int .i64 q1, .int .i64 q2, .int .i64 q3, .int .i64 q4, .slice la ln lc, .slice ua un uc, .string s, .int .i64 t1, .int .i64 t2, .int .i64 t3, .slice va vn vc] 44)
  have cA := (bA.cell lbw).trans c1
  have nbw : ¬ bw = w.heap.size := by omega
  have HB := hid bA
  clear bA c1
  go_enter Tryz.func8, Tryz.ntmps8
  go_wp2
  go_ret
  exact ⟨rfl, HB.out⟩

set_option maxRecDepth 100000 in
set_option maxHeartbeats 4000000 in
theorem stepNone14_w (bw : Nat) (ba : Option Addr) (bc : Nat) (a b c q1 q2 q3 q4 : Int) (la : Option Addr) (ln lc : Nat) (ua : Option Addr) (un uc : Nat) (s : ByteArray) (t1 t2 t3 : Int) (va : Option Addr) (vn vc : Nat) (w : World) (lbw : bw < w.heap.size) (c1 : w.cell? ⟨bw, 1, none⟩ = some (.slice ba 0 bc)) :
    Calls Tryz.prog 8 #[.pointer (some ⟨bw, 0, none⟩), .agg #[.int .i64 14, .int .i64 a, .int .i64 b, .int .i64 c, .int .i64 q1, .int .i64 q2, .int .i64 q3, .int .i64 q4, .slice la ln lc, .slice ua un uc, .string s, .int .i64 t1, .int .i64 t2, .int .i64 t3, .slice va vn vc]] w fun en w' => en = .returned (.bool true) ∧ Bl w w' := by
  have bA := (Bl.refl w).alloc (.cells #[.int .i64 14, .int .i64 a, .int .i64 b, .int .i64 c, .int .i64 q1, .int .i64 q2, .int .i64 q3, .int .i64 q4, .slice la ln lc, .slice ua un uc, .string s, .int .i64 t1, .int .i64 t2, .int .i64 t3, .slice va vn vc] 44)
  have cA := (bA.cell lbw).trans c1
  have nbw : ¬ bw = w.heap.size := by omega
  have HB := hid bA
  clear bA c1
  go_enter Tryz.func8, Tryz.ntmps8
  go_wp2
  go_ret
  exact ⟨rfl, HB.out⟩
end Go.Proofs.YtkgjpfamjedncaaGreat
