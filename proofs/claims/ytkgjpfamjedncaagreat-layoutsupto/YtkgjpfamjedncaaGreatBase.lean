/-
  What is meant by a slice that reads as a list, and by a world in which nothing old has turned.
-/
import Derived.Test.YtkgjpfamjedncaaGreatRows
import Derived.WalkKit
import Derived.WalkSpells
import Derived.WalkLawsBesides
import Derived.Deep.QuietTactic
import Derived.BigQuiet
import Derived.Deep.RegionWith
import Derived.Deep.RegionLaw
import Derived.Deep.RegionHeld3
import Derived.Deep.AppendLies
import Derived.Deep.DrawnRows
namespace Go.Proofs.YtkgjpfamjedncaaGreat
open Go.RowKit

/-- A slice value v whose elements (one cell each) are cs. -/
def Sl (w : World) (v : Value) (cs : List Value) : Prop :=
  (∃ a c, v = .slice a 0 c ∧ cs = []) ∨ ∃ b o c, v = .slice (some ⟨b, o, none⟩) cs.length c ∧ b < w.heap.size ∧ ∀ j, (h : j < cs.length) → w.cell? ⟨b, o + j, none⟩ = some cs[j]

/-- Nothing that was there has turned. -/
def Bl (w w' : World) : Prop := Below w.heap.size w w'

theorem Bl.refl (w : World) : Bl w w := Below.refl _ _
theorem Bl.trans {a b c : World} (h : Bl a b) (k : Bl b c) : Bl a c := Below.trans h (Below.mono k h.size)
theorem Bl.drewN {a w : World} (h : Bl a w) (n : Nat) : Bl a (w.drewN n) := by
  exact ⟨h.os, h.tape, h.output, h.size, h.block⟩
theorem Bl.drew {a w : World} (h : Bl a w) : Bl a w.drew := Below.drew h
theorem Bl.alloc {a w : World} (h : Bl a w) (o : Obj) : Bl a (w.alloc o) := Below.alloc h h.size o
theorem Bl.lt {w w' : World} (h : Bl w w') : w.heap.size ≤ w'.heap.size := h.size
theorem Bl.cell {w w' : World} (h : Bl w w') {b o : Nat} (hb : b < w.heap.size) : w'.cell? ⟨b, o, none⟩ = w.cell? ⟨b, o, none⟩ := Below.cell h hb
theorem Bl.frozen {w w' : World} (h : Bl w w') {b o : Nat} (hb : b < w.heap.size) : w'.frozen? ⟨b, o, none⟩ = w.frozen? ⟨b, o, none⟩ := Below.frozen h hb
theorem Bl.heap {w w' : World} (h : Bl w w') {b : Nat} (hb : b < w.heap.size) : w'.heap[b]? = w.heap[b]? := h.block b hb

theorem Sl.bl {w w' : World} {v : Value} {cs : List Value} (h : Sl w v cs) (hb : Bl w w') : Sl w' v cs := by
  rcases h with h | ⟨b, o, c, rfl, hl, hc⟩
  · exact Or.inl h
  · refine Or.inr ⟨b, o, c, rfl, Nat.lt_of_lt_of_le hl hb.lt, fun j hj => ?_⟩
    rw [← hc j hj]; exact hb.cell hl

theorem ret_bool {a b : Bool} (h : a = b) : Ending.returned (.bool a) = .returned (.bool b) := by rw [h]
theorem ret_int {k : IntKind} {a b : Int} (h : a = b) : Ending.returned (.int k a) = .returned (.int k b) := by rw [h]

theorem not_mem_take_succ {x : Int} {zs : List Int} {k : Nat} (hk : k < zs.length) (h : ¬ x ∈ zs.take k) (hx : (zs[k] == x) = false) : ¬ x ∈ zs.take (k + 1) := by
  rw [List.take_succ_eq_append_getElem hk, List.mem_append]; rintro (e | e)
  · exact h e
  · simp at e hx; exact hx e.symm
theorem mem_of_beq {x : Int} {zs : List Int} {k : Nat} (hk : k < zs.length) (hx : (zs[k] == x) = true) : x ∈ zs := by
  simp at hx; rw [← hx]; exact List.getElem_mem hk

end Go.Proofs.YtkgjpfamjedncaaGreat
