-- count; a voter's records go on.
import Derived.Test.YtbghhbpacijmmaaPax
import Derived.Test.YtbghhbpacijmmaaVOpen
namespace Go.Proofs.Ytbghhbpacijmmaa
open Go.RowKit
attribute [local go_sem ↓] Go.wp_at_zero Go.wp_at_succ

theorem cnt_succ (n : Nat) (f : Nat → Bool) : cnt (n + 1) f = cnt n f + (if f n = true then 1 else 0) := by
  unfold cnt
  rw [List.range_succ, List.countP_append]
  simp [List.countP_cons]
theorem cnt_le (n : Nat) (f : Nat → Bool) : cnt n f ≤ n := by
  unfold cnt
  have := List.countP_le_length (p := f) (l := List.range n)
  simpa using this

set_option maxRecDepth 100000 in
set_option maxHeartbeats 1000000 in
theorem count_any (f : Nat → Bool) (w : World) :
    Calls Try.prog 18 #[.agg #[.bool (f 0), .bool (f 1), .bool (f 2), .bool (f 3), .bool (f 4)]] w fun e w' => e = .returned (.int .i64 (cnt 5 f : Nat)) ∧ Bl w w' := by
  have hb := hid ((Bl.refl w).alloc (.cells #[.bool (f 0), .bool (f 1), .bool (f 2), .bool (f 3), .bool (f 4)] 51))
  have hc : Hid (∀ k, k < 5 → (w.alloc (.cells #[.bool (f 0), .bool (f 1), .bool (f 2), .bool (f 3), .bool (f 4)] 51)).cell? ⟨w.heap.size, k, none⟩ = some (.bool (f k))) := fun k hk => by
    rw [cell_of_row _ _ k _ 51 (0, 0) (heap_alloc_new w _)]
    match k, hk with
    | 0, _ => rfl
    | 1, _ => rfl
    | 2, _ => rfl
    | 3, _ => rfl
    | 4, _ => rfl
    | n + 5, h => omega
  go_enter Try.func18, Try.ntmps18
  go_wp2
  generalize w.alloc (.cells #[.bool (f 0), .bool (f 1), .bool (f 2), .bool (f 3), .bool (f 4)] 51) = W0 at *
  go_loopw [3, 4] (fun a b wr => ∃ k : Nat, k ≤ 5 ∧ a = .int .i64 (cnt k f : Nat) ∧ b = .int .i64 k ∧ wr = W0) (fun _ b _ => 5 - (intOf b).toNat)
  case atStart => exact ⟨0, by omega, rfl, rfl, rfl⟩
  case round =>
    obtain ⟨k, hk, rfl, rfl, rfl⟩ := hrel
    have hle := cnt_le k f
    by_cases hlt : k < 5
    · have c := hc.out k hlt
      have hs := hid (cnt_succ k f)
      cases hf : f k with
      | true =>
        rw [hf] at c
        have Hf := hid hf
        clear hf
        go_wp2
        go_roundw
        case rel => exact ⟨k + 1, by omega, by rw [hs.out, Hf.out]; go_num, by go_num, trivial⟩
        case measure => simp [intOf]; omega
      | false =>
        rw [hf] at c
        have Hf := hid hf
        clear hf
        go_wp2
        go_roundw
        case rel => exact ⟨k + 1, by omega, by rw [hs.out, Hf.out]; simp, by go_num, trivial⟩
        case measure => simp [intOf]; omega
    · obtain rfl : k = 5 := by omega
      go_wp2
      go_ret
      exact ⟨rfl, hb.out⟩

/-- A record more. -/
theorem VWay.snoc {rs : List Rc} {S : Nat → Int → Ep} (h : VWay rs S) {r : Rc} {E' : Int → Ep} (hp : VPlays (S rs.length) r E') (ho : r.Ok vshs) : VWay (rs ++ [r]) (fun j => if j = rs.length + 1 then E' else S j) where
  zero := by simp [h.zero]
  step := fun j hj => by
    rw [List.length_append, List.length_singleton] at hj
    by_cases e : j < rs.length
    · rw [if_neg (by omega), if_neg (by omega), List.getElem_append_left e]
      exact h.step j e
    · obtain rfl : j = rs.length := by omega
      rw [if_neg (by omega), if_pos rfl]
      simpa using hp
  ok := fun x hx => by
    rcases List.mem_append.1 hx with hx | hx
    · exact h.ok x hx
    · simp at hx; subst hx; exact ho
theorem VWay.last {rs : List Rc} {S : Nat → Int → Ep} {r : Rc} {E' : Int → Ep} : (fun j => if j = rs.length + 1 then E' else S j) (rs ++ [r]).length = E' := by simp
theorem vok_prep (e b : Int) (he : (Lit.int .i64 e).wf = true) (hb : (Lit.int .i64 b).wf = true) : Rc.Ok vshs ⟨1, [e, b], []⟩ :=
  ⟨by simp, by simp, by simp, by simp, by simp, by simp; exact ⟨he, hb⟩, by simp, (1, 2, 0), by decide, rfl, rfl, by simp⟩
theorem vok_acc (e b : Int) (ys : List Int) (he : (Lit.int .i64 e).wf = true) (hb : (Lit.int .i64 b).wf = true) (hy : ys.length ≤ 255) (hys : ∀ d ∈ ys, 0 ≤ d ∧ d ≤ 255) : Rc.Ok vshs ⟨2, [e, b], ys⟩ :=
  ⟨by simp, by simp, by simp, by simp, hy, by simp; exact ⟨he, hb⟩, hys, (2, 2, 255), by decide, rfl, rfl, by simp; omega⟩
end Go.Proofs.Ytbghhbpacijmmaa
