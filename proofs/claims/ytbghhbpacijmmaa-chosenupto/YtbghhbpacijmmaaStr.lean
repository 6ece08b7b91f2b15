-- Strings as bytes, and blocks that are told by a function.
import Derived.Test.YtbghhbpacijmmaaVEq
import Derived.Test.YtbghhbpacijmmaaRec
import Derived.Laws.IdiomStrings
namespace Go.Proofs.Ytbghhbpacijmmaa
open Go.RowKit

theorem strOf_size (ys : List Int) : (strOf ys).size = ys.length := by
  have := congrArg List.length (strOf_list ys)
  simpa using this
theorem strOf_dsize (ys : List Int) : (strOf ys).data.size = ys.length := strOf_size ys
theorem bytes_of (w : World) (ys : List Int) (hys : ∀ d ∈ ys, 0 ≤ d ∧ d ≤ 255) (cap : Nat) (f : Nat × Nat) : Bs (w.alloc (.cells (bytesRow (strOf ys) cap) 5 f)) (.slice (some ⟨w.heap.size, 0, none⟩) ys.length cap) (ys.map B8) := by
  refine .inr ⟨⟨w.heap.size, 0, none⟩, cap, by simp, fun j u hj => ?_⟩
  rw [add_eq, Nat.zero_add, cell_of_row _ _ j _ 5 f (heap_alloc_new w _)]
  obtain ⟨hl, rfl⟩ := List.getElem?_eq_some_iff.1 hj
  rw [List.length_map] at hl
  rw [bytesRow_at _ _ _ (by rw [strOf_dsize]; exact hl)]
  have h1 : (strOf ys).data[j]'(by rw [strOf_dsize]; exact hl) = UInt8.ofNat (ys[j]).toNat := by
    have := strOf_list ys
    have h2 : (strOf ys).data.toList[j]? = (ys.map (fun n => UInt8.ofNat n.toNat))[j]? := by rw [this]
    rw [List.getElem?_map, List.getElem?_eq_getElem hl, Array.getElem?_toList, Array.getElem?_eq_getElem (by rw [strOf_dsize]; exact hl)] at h2
    simpa using h2
  have h3 := hys ys[j] (List.getElem_mem hl)
  rw [h1, List.getElem_map]
  simp only [B8, UInt8.toNat_ofNat', Option.some.injEq, Value.int.injEq, true_and]
  omega
end Go.Proofs.Ytbghhbpacijmmaa
