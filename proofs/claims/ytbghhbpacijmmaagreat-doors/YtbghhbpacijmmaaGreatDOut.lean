-- A client is made, at the outer door.
import Derived.Test.YtbghhbpacijmmaaGreatDMake
namespace Go.Proofs.YtbghhbpacijmmaaGreat
open Go.RowKit
attribute [local go_sem ↓] Go.wp_at_zero Go.wp_at_succ

theorem fill_size : ∀ (l : List Value) (k : Nat) (A : Array Value), (List.foldl (fun cs x => cs.setIfInBounds x.snd x.fst) A (l.zipIdx k)).size = A.size
  | [], _, _ => rfl
  | v :: l, k, A => by rw [List.zipIdx_cons, List.foldl_cons, fill_size l]; simp
theorem fill_at : ∀ (l : List Value) (k : Nat) (A : Array Value) (i : Nat), i < l.length → k + i < A.size → (List.foldl (fun cs x => cs.setIfInBounds x.snd x.fst) A (l.zipIdx k))[k + i]? = l[i]?
  | [], _, _, _, h, _ => by simp at h
  | v :: l, k, A, 0, _, hA => by
    rw [List.zipIdx_cons, List.foldl_cons]
    have key : ∀ (l : List Value) (k' : Nat) (A : Array Value) (j : Nat), j < k' → (List.foldl (fun cs x => cs.setIfInBounds x.snd x.fst) A (l.zipIdx k'))[j]? = A[j]? := by
      intro l
      induction l with
      | nil => intros; rfl
      | cons u l ih =>
        intro k' A j hj
        rw [List.zipIdx_cons, List.foldl_cons, ih _ _ _ (by omega), Array.getElem?_setIfInBounds_ne (by simp; omega)]
    rw [key _ _ _ _ (by omega)]
    simp at hA
    simp [hA]
  | v :: l, k, A, i + 1, h, hA => by
    rw [List.zipIdx_cons, List.foldl_cons, show k + (i + 1) = (k + 1) + i by omega, fill_at l (k + 1) _ i (by simpa using h) (by simp; omega)]
    simp

set_option maxRecDepth 100000 in
set_option maxHeartbeats 4000000 in
theorem newClient_yes (n m : Nat) (c d x : Int) (w : World) (hf : fit n m c d = true) (h0 : 1000 ≤ x) (h1 : x ≤ 1099) :
    Calls Tryz.prog 16 #[cfg n m c d, .int .i64 x] w fun e w' => (∃ p bm K, e = .returned (.tuple #[.pointer (some ⟨p, 0, none⟩), .int .i64 0]) ∧ Cs w' p bm n m c d x (.slice none 0 0) [] K ∧ w.heap.size ≤ p ∧ w.heap.size ≤ bm) ∧ Bl w w' := by
  have HN := hid (fun w => new_yes n m c d x w hf h0 h1)
  have hA := (Bl.refl w).alloc (.cells #[.int .i64 n, .int .i64 m, .int .i64 c, .int .i64 d] 27)
  clear hf
  go_enter Tryz.func16, Tryz.ntmps16
  go_wp2_with fail
  refine (HN.out _).mono ?_
  rintro e w1 ⟨⟨p, rfl, bm, K, hlb, hat, k0, k1, k2, k3, k4, k7, k8, hm⟩, hb⟩
  have hrg : Hid (w1.rangeAt p 0 ((List.range 55).map K)) := fun j v hv => by
    rw [List.getElem?_map, Option.map_eq_some_iff] at hv
    obtain ⟨i, hi, rfl⟩ := hv
    obtain ⟨h1, h2⟩ := List.getElem?_eq_some_iff.1 hi
    simp at h1 h2
    subst h2
    rw [Nat.zero_add]; exact hat.cell j h1
  have hin : Hid ((Tryz.prog.info? 112).map (·.size) = some ((List.range 55).map K).length) := by
    unfold Hid
    rw [List.length_map, List.length_range]; kernel_rfl
  have hc52 : ((List.range 55).map K).length = 55 := by simp
  have hK : Hid (∀ i, i < 55 → ((List.range 55).map K)[i]? = some (K i)) := fun i hi => by
    rw [List.getElem?_map, List.getElem?_range hi]; rfl
  have HK := hid (And.intro k0 (And.intro k1 (And.intro k2 (And.intro k3 (And.intro k4 (And.intro k7 k8))))))
  have HM := hid hm
  have hbm : bm < w1.heap.size := (Array.getElem?_eq_some_iff.1 hm).1
  clear k0 k1 k2 k3 k4 k7 k8 hm hat HN
  generalize (List.range 55).map K = cs at *
  go_wp2_with (refine wpList_load_mid rfl 112 (.tmp 18) rfl p 0 rfl cs _ hrg.out Tryz.underlying112 rfl hin.out ?_)
  go_ret2
  have fin : ∀ Z : Array Value, Z.size = 55 → At 55 114 (w1.alloc (.cells (List.foldl (fun cs x => cs.setIfInBounds x.snd x.fst) Z cs.zipIdx) 114)) w1.heap.size K := fun Z hZ => ⟨_, heap_alloc_new w1 _, fun i hi => by
    have := fill_at cs 0 Z i (by omega) (by omega)
    rw [Nat.zero_add] at this
    rw [this]; exact hK.out i hi⟩
  have hl1 := (hA.trans hb).lt
  have hl2 := hA.lt
  obtain ⟨k0, k1, k2, k3, k4, k7, k8⟩ := HK.out
  exact ⟨⟨w1.heap.size, bm, K, rfl, ⟨fin _ rfl, k0, k1, k2, k3, k4, k7, k8, (heap_alloc_old w1 _ hbm).trans HM.out, fun i hi => by simp at hi, World.ownsRow_nil _ _ _ _⟩, hl1, Nat.le_trans hl2 hlb⟩, (hA.trans hb).alloc _⟩
end Go.Proofs.YtbghhbpacijmmaaGreat
