-- Kind 3: a unit is made, or none.
import Derived.Test.YtkgjpfamjedncaaGreatNewKQ
namespace Go.Proofs.YtkgjpfamjedncaaGreat
open Go.RowKit Go.Maps
theorem cha_unit (a b c d u : Int) : ((fit a b c d && decide (0 ≤ u) && decide (u < a * b)) = true ∧ ∃ ch, cha a b c d u = (ch, 0)) ∨ ((fit a b c d && decide (0 ≤ u) && decide (u < a * b)) = false ∧ cha a b c d u = (0, 1)) := by
  unfold cha
  by_cases hf : fit a b c d = true
  · rw [if_pos hf, hf]
    by_cases hu : u < 0 ∨ a * b ≤ u
    · rw [if_pos hu]
      refine .inr ⟨?_, rfl⟩
      rcases hu with h | h
      · have : ¬ 0 ≤ u := by omega
        simp [this]
      · have : ¬ u < a * b := by omega
        simp [this]
    · rw [if_neg hu]
      refine .inl ⟨?_, _, rfl⟩
      have h1 : 0 ≤ u := by omega
      have h2 : u < a * b := by omega
      simp [h1, h2]
  · rw [if_neg hf]
    have : fit a b c d = false := by simpa using hf
    exact .inr ⟨by simp [this], rfl⟩

/-- Kind 3 in a step: true is told, and either a unit stands at the list's end or nothing old has turned. -/
theorem freeK_any (bw j nk : Nat) (kl vl : Value) (nb : Nat) (us : List Value) (tag : Nat → Nat) (u b c q1 q2 q3 q4 : Int) (la : Option Addr) (ln lc : Nat) (ua : Option Addr) (un uc : Nat) (s : ByteArray) (t1 t2 t3 : Int) (va : Option Addr) (vn vc : Nat) (w : World)
    (hB : Bt w tag bw kl vl nb w.heap.size) (hu : w.ownsRow 0 46 1 kl nk us) (ht : ∀ b, kl.ownBlock = some b → tag b = 6) (hnk : nk < 4000000) (hnb : nb < 4000000) :
    Calls Tryz.prog 10 #[.pointer (some ⟨bw, 0, none⟩), .agg (opR 3 u b c q1 q2 q3 q4 la ln lc ua un uc s t1 t2 t3 va vn vc)] w fun en w' => en = .returned (.bool true) ∧
      (((∃ ch kl' q tag', (∀ b, b < w.heap.size → tag' b = tag b) ∧ Bt w' tag' bw kl' vl (nb + 1) w'.heap.size ∧ w'.ownsRow 0 46 1 kl' (nk + 1) (us ++ [.pointer (some ⟨q, 0, none⟩)]) ∧ (∀ b, kl'.ownBlock = some b → tag' b = 6) ∧ ObC w' tag' j q q1 q2 q3 q4 u ch [] SK0 1 0) ∧ Only (fun b => tag b = 2 ∨ tag b = 6 ∨ Mine j (tag b)) w w') ∨ Bl w w') := by
  rcases cha_unit q1 q2 q3 q4 u with ⟨h1, ch, h2⟩ | ⟨h1, h2⟩
  · refine (freeCells_any bw j nk kl vl nb us tag u b c q1 q2 q3 q4 ch la ln lc ua un uc s t1 t2 t3 va vn vc w hB hu ht hnk hnb h2 h1).mono ?_
    rintro en w' ⟨rfl, ⟨kl', q, tag', h⟩, hO⟩
    exact ⟨rfl, .inl ⟨⟨ch, kl', q, tag', h⟩, hO⟩⟩
  · refine (freeCellsNo_any bw u b c q1 q2 q3 q4 la ln lc ua un uc s t1 t2 t3 va vn vc w h2 h1).mono ?_
    rintro en w' ⟨rfl, h⟩
    exact ⟨rfl, .inr h⟩
end Go.Proofs.YtkgjpfamjedncaaGreat
