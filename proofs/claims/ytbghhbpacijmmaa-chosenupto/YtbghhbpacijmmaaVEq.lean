-- bytes.Equal, of any two lists.
import Derived.Test.YtbghhbpacijmmaaBytes
namespace Go.Proofs.Ytbghhbpacijmmaa
open Go.RowKit
attribute [local go_sem ↓] Go.wp_at_zero Go.wp_at_succ

theorem strOf_list (ys : List Int) : (strOf ys).data.toList = ys.map (fun n => UInt8.ofNat n.toNat) := by
  have key : ∀ (ys : List Int) (r : ByteArray), (ys.foldl (fun r n => r.push (UInt8.ofNat n.toNat)) r).data.toList = r.data.toList ++ ys.map (fun n => UInt8.ofNat n.toNat) := by
    intro ys
    induction ys with
    | nil => intro r; simp
    | cons y ys ih => intro r; rw [List.foldl_cons, ih]; simp [ByteArray.push]
  have := key ys ByteArray.empty
  unfold strOf
  rw [this]; rfl
theorem strOf_inj : ∀ {xs ys : List Int}, (∀ d ∈ xs, 0 ≤ d ∧ d ≤ 255) → (∀ d ∈ ys, 0 ≤ d ∧ d ≤ 255) → (strOf xs).toList = (strOf ys).toList → xs = ys := by
  intro xs ys hx hy h
  have h1 : xs.map (fun n : Int => UInt8.ofNat n.toNat) = ys.map (fun n => UInt8.ofNat n.toNat) := by rw [← strOf_list, ← strOf_list, ← Go.ByteArray.toList_eq, ← Go.ByteArray.toList_eq, h]
  clear h
  induction xs generalizing ys with
  | nil =>
    cases ys with
    | nil => rfl
    | cons y ys => simp at h1
  | cons x xs ih =>
    cases ys with
    | nil => simp at h1
    | cons y ys =>
      simp only [List.map_cons, List.cons.injEq] at h1
      have e := congrArg UInt8.toNat h1.1
      simp only [UInt8.toNat_ofNat'] at e
      have a1 := hx x (List.mem_cons_self ..)
      have a2 := hy y (List.mem_cons_self ..)
      rw [ih (fun d hd => hx d (List.mem_cons_of_mem _ hd)) (fun d hd => hy d (List.mem_cons_of_mem _ hd)) h1.2]
      congr 1
      omega

set_option maxRecDepth 100000 in
set_option maxHeartbeats 400000 in
theorem equalNo_any (u v : Value) (xs ys : List Int) (w : World) (hu : Sl w u (xs.map B8)) (hv : Sl w v (ys.map B8)) (hx : ∀ d ∈ xs, 0 ≤ d ∧ d ≤ 255) (hy : ∀ d ∈ ys, 0 ≤ d ∧ d ≤ 255) (hne : xs ≠ ys) :
    Calls Try.prog 46 #[u, v] w fun e w' => e = .returned (.bool false) ∧ w' = w := by
  obtain ⟨a, c, e⟩ := hu.len
  obtain ⟨a', c', e'⟩ := hv.len
  have k1 := conv_any u xs w hu
  have k2 := conv_any v ys w hv
  have hs : ¬ (strOf xs).toList = (strOf ys).toList := fun h => hne (strOf_inj hx hy h)
  subst e e'
  simp only [List.length_map] at k1 k2 ⊢
  generalize strOf xs = st at *
  generalize strOf ys = st2 at *
  clear hu hv hx hy hne
  go_enter Try.func46, Try.ntmps46
  go_wp2
  go_ret
  exact ⟨ret_bool (by simp [hs]), rfl⟩
end Go.Proofs.Ytbghhbpacijmmaa
