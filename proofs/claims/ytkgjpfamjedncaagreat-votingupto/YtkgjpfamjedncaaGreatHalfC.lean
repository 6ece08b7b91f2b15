-- '[]byte("half")': a row that is marked.
import Derived.Test.YtkgjpfamjedncaaGreatHalfF
import Derived.Lib.SlBytesConst
namespace Go.Proofs.YtkgjpfamjedncaaGreat
open Go.RowKit Go.Maps

theorem conv_top (w : World) (C : Array Value) (n c : Nat) : (convert 40 40 (.slice (some ⟨w.heap.size, 0, none⟩) n c)).run Tryz.prog ((w.alloc (.cells C 5)).drew) = .ok (.slice (some ⟨w.heap.size, 0, none⟩) n c) ((w.alloc (.cells C 5 (C.size, C.size + 1))).drew) :=
  Go.Lib.run_convert_bytes_const (P := Tryz.prog) w.drew 40 5 C n c Tryz.underlying40 Tryz.underlying5
theorem conv_over (w : World) (o : Go.Obj) (C : Array Value) (n c : Nat) : (convert 40 40 (.slice (some ⟨w.heap.size + 1, 0, none⟩) n c)).run Tryz.prog (((w.alloc o).alloc (.cells C 5)).drew) = .ok (.slice (some ⟨w.heap.size + 1, 0, none⟩) n c) (((w.alloc o).alloc (.cells C 5 (C.size, C.size + 1))).drew) := by
  have h := conv_top (w.alloc o) C n c
  rw [show (w.alloc o).heap.size = w.heap.size + 1 by simp] at h
  exact h
theorem conv_under (w : World) (o : Go.Obj) (C : Array Value) (n c : Nat) : (convert 40 40 (.slice (some ⟨w.heap.size, 0, none⟩) n c)).run Tryz.prog (((w.alloc (.cells C 5)).alloc o).drew) = .ok (.slice (some ⟨w.heap.size, 0, none⟩) n c) (((w.alloc (.cells C 5 (C.size, C.size + 1))).alloc o).drew) := by
  have hsh : (((w.alloc (.cells C 5)).alloc o).drew).shape? w.heap.size = some (5, C.size) := by
    have : (((w.alloc (.cells C 5)).alloc o).drew).heap[w.heap.size]? = some (.cells C 5) := heap_first w _ _
    unfold World.shape?
    rw [this]
  have hfr : ∀ (k : Nat), (((w.alloc (.cells C 5)).alloc o).drew).freeze ⟨w.heap.size, k, none⟩ 1 = ((w.alloc (.cells C 5 (k, k + 1))).alloc o).drew := fun k => by
    have hm : ∀ (a : Array Go.Obj) (x y : Go.Obj) (f : Go.Obj → Go.Obj), ((a.push x).push y).modify a.size f = (a.push (f x)).push y := by
      intro a x y f
      apply Array.ext
      · simp
      · intro i h1 h2
        simp only [Array.getElem_modify, Array.getElem_push, Array.size_push]
        by_cases h : a.size = i
        · subst h
          simp
        · by_cases hi : i < a.size
          · simp [h, hi]
          · simp at h1; have : i = a.size + 1 := by omega
            subst this; simp
    unfold World.freeze
    rw [if_neg (by decide)]
    show ({ ((w.alloc (.cells C 5)).alloc o).drew with heap := ((w.heap.push (.cells C 5)).push o).modify w.heap.size _ } : World) = _
    rw [hm]
    rfl
  simp [convert, run_underlying Tryz.underlying40, run_underlying Tryz.underlying5, markStringish, hsh]
  exact hfr _
end Go.Proofs.YtkgjpfamjedncaaGreat
