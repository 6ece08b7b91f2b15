-- OpenCells.
import Derived.Test.YtbghhbpacijmmaaOpens
import Derived.Deep.MidRow
namespace Go.Proofs.Ytbghhbpacijmmaa
open Go.RowKit
attribute [local go_sem ↓] Go.wp_at_zero Go.wp_at_succ

theorem fill_size : ∀ (l : List Value) (k : Nat) (A : Array Value), (List.foldl (fun cs x => cs.setIfInBounds x.snd x.fst) A (l.zipIdx k)).size = A.size
  | [], _, _ => rfl
  | v :: l, k, A => by rw [List.zipIdx_cons, List.foldl_cons, fill_size l]; simp
theorem fill_at : ∀ (l : List Value) (k : Nat) (A : Array Value) (i : Nat), i < l.length → k + i < A.size → (List.foldl (fun cs x => cs.setIfInBounds x.snd x.fst) A (l.zipIdx k))[k + i]? = l[i]?
  | [], _, _, _, h, _ => by simp at h
  | v :: l, k, A, 0, _, hA => by
    rw [List.zipIdx_cons, List.foldl_cons]
    have key : ∀ (l : List Value) (k' : Nat) (A : Array Value) (j : Nat), j < k' → (List.foldl (fun cs x => cs.setIfInBounds x.snd x.fst) A (l.zipIdx k'))[j]? = A[j]? := by
      intro l
      induction l with
      | nil => intros; rfl
      | cons u l ih =>
        intro k' A j hj
        rw [List.zipIdx_cons, List.foldl_cons, ih _ _ _ (by omega), Array.getElem?_setIfInBounds_ne (by simp; omega)]
    rw [key _ _ _ _ (by omega)]
    simp at hA
    simp [hA]
  | v :: l, k, A, i + 1, h, hA => by
    rw [List.zipIdx_cons, List.foldl_cons, show k + (i + 1) = (k + 1) + i by omega, fill_at l (k + 1) _ i (by simpa using h) (by simp; omega)]
    simp

set_option maxRecDepth 100000 in
set_option maxHeartbeats 4000000 in
theorem openCells_any (a b c d u ch : Int) (ad : Option Addr) (n cc : Nat) (rs : List Rc) (S : Nat → St) (w : World) (hch : cha a b c d u = (ch, 0)) (hw : Way a b c d ch rs S) (hl : (flat rs).length ≤ 3000000) (hd : Cut w ad n cc rs) :
    Calls Try.prog 21 #[.agg #[.int .i64 a, .int .i64 b, .int .i64 c, .int .i64 d], .int .i64 u, .slice ad n cc] w fun e w' => ∃ k p K, e = .returned (.tuple #[.pointer (some ⟨p, 0, none⟩), .int .i64 0]) ∧ k ≤ rs.length ∧ off rs k ≤ n ∧ (∀ h : k < rs.length, n < off rs k + rs[k].bytes.length) ∧ w.heap.size ≤ p ∧ Ks w.heap.size w' p a b c d ch (S k).ep (S k).mark (S k).ct (flat (rs.take k)) K ∧ (k = 0 → ∀ B, Ks B w' p a b c d ch (S k).ep (S k).mark (S k).ct (flat (rs.take k)) K) ∧ Bl w w' := by
  have bA := hid ((Bl.refl w).alloc (.cells #[.int .i64 a, .int .i64 b, .int .i64 c, .int .i64 d] 24))
  have HO := hid (open_any a b c d u ch ad n cc rs S _ hch hw hl (hd.bl bA.out))
  clear hch hw hd
  go_enter Try.func21, Try.ntmps21
  go_wp2_with fail
  refine HO.out.mono ?_
  rintro e w1 ⟨k, p, K, rfl, r1, r2, r3, r4, r5, r7, r6⟩
  have R1 := hid r1
  have R2 := hid r2
  have R3 := hid r3
  have R4 := hid r4
  have R5 := hid r5
  have R6 := hid r6
  have R7 := hid r7
  have hp := r5.at'.lt
  clear r1 r2 r3 r4 r5 r6 r7 HO
  have hrg : Hid (w1.rangeAt p 0 ((List.range 72).map K)) := fun j v hv => by
    rw [List.getElem?_map, Option.map_eq_some_iff] at hv
    obtain ⟨i, hi, rfl⟩ := hv
    obtain ⟨h1, h2⟩ := List.getElem?_eq_some_iff.1 hi
    simp at h1 h2
    subst h2
    rw [Nat.zero_add]; exact R5.out.at'.cell j h1
  have hin : Hid ((Try.prog.info? 68).map (·.size) = some ((List.range 72).map K).length) := by
    unfold Hid
    rw [List.length_map, List.length_range]; kernel_rfl
  have hc72 : ((List.range 72).map K).length = 72 := by simp
  have hK : Hid (∀ i, i < 72 → ((List.range 72).map K)[i]? = some (K i)) := fun i hi => by
    rw [List.getElem?_map, List.getElem?_range hi]; rfl
  generalize (List.range 72).map K = cs at *
  go_wp2_with (refine wpList_load_mid rfl 68 (.tmp 21) rfl p 0 rfl cs _ hrg.out Try.underlying68 rfl hin.out ?_)
  go_ret2
  have hz70 : Try.zeroCells70.size = 72 := by kernel_rfl
  have bC := (Bl.refl w1).alloc (.cells (List.foldl (fun cs x => cs.setIfInBounds x.snd x.fst) Try.zeroCells70 cs.zipIdx) 70)
  have hat : At (w1.alloc (.cells (List.foldl (fun cs x => cs.setIfInBounds x.snd x.fst) Try.zeroCells70 cs.zipIdx) 70)) w1.heap.size K := ⟨_, 70, heap_alloc_new w1 _, .inr rfl, fun i hi => by
    have := fill_at cs 0 Try.zeroCells70 i (by omega) (by omega)
    rw [Nat.zero_add] at this
    rw [this]; exact hK.out i hi⟩
  refine ⟨k, w1.heap.size, K, rfl, R1.out, R2.out, R3.out, Nat.le_trans bA.out.lt R6.out.lt, ?_, ?_, (bA.out.trans R6.out).alloc _⟩
  · have h5 := (R5.out.bl bC).base (base' := w.heap.size) bA.out.lt
    exact ⟨hat, h5.k0, h5.k1, h5.k2, h5.k3, h5.k4, h5.k5, h5.k6, h5.own, h5.kd, h5.cl, h5.ca, h5.val, h5.apart⟩
  · intro e B
    have h5 := (R7.out e B).bl bC
    exact ⟨hat, h5.k0, h5.k1, h5.k2, h5.k3, h5.k4, h5.k5, h5.k6, h5.own, h5.kd, h5.cl, h5.ca, h5.val, h5.apart⟩
end Go.Proofs.Ytbghhbpacijmmaa
