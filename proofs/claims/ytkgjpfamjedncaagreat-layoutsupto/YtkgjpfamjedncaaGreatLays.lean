/-
  Lists of lists: sameLayout, leavable.
-/
import Derived.Test.YtkgjpfamjedncaaGreatReads
namespace Go.Proofs.YtkgjpfamjedncaaGreat
open Go.RowKit

/-- A slice of slices of numbers that reads as xss. -/
def Sll (w : World) (v : Value) (xss : List (List Int)) : Prop :=
  ∃ ms, Sl w v ms ∧ ms.length = xss.length ∧ ∀ i (h : i < ms.length) (h' : i < xss.length), Sl w ms[i] (xss[i].map (Value.int .i64))

theorem Sll.bl {w w' : World} {v : Value} {xss : List (List Int)} (h : Sll w v xss) (hb : Bl w w') : Sll w' v xss := by
  obtain ⟨ms, h1, h2, h3⟩ := h
  exact ⟨ms, h1.bl hb, h2, fun i h h' => (h3 i h h').bl hb⟩

theorem Sll.empty {w : World} {v : Value} (h : Sll w v []) : ∃ a c, v = .slice a 0 c := by
  obtain ⟨ms, h1, h2, h3⟩ := h
  have : ms = [] := List.length_eq_zero_iff.1 h2
  subst this
  exact h1.empty

/-- What is known of a slice of slices that has a row at least. -/
theorem Sll.some {w : World} {v : Value} {xss : List (List Int)} (h : Sll w v xss) (h0 : 0 < xss.length) :
    ∃ b o c, v = .slice (some ⟨b, o, none⟩) xss.length c ∧ b < w.heap.size ∧ ∀ j, (h : j < xss.length) → ∃ m, w.cell? ⟨b, o + j, none⟩ = some m ∧ Sl w m (xss[j].map (Value.int .i64)) := by
  obtain ⟨ms, h1, h2, h3⟩ := h
  rcases h1 with ⟨a9, c9, rfl, hz⟩ | ⟨b, o, c, rfl, hb, hc⟩
  · simp [hz] at h2; omega
  · exact ⟨b, o, c, by rw [h2], hb, fun j hj => ⟨ms[j], hc j (by omega), h3 j _ _⟩⟩

set_option maxHeartbeats 400000 in
theorem sameLayout_any (v u : Value) (xss : List (List Int)) (w : World) (hv : Sll w v xss) (hu : Sll w u xss) (hn : xss.length ≤ 4000000) (hs : ∀ x ∈ xss, x.length ≤ 4000000) :
    Calls Tryz.prog 27 #[v, u] w fun e w' => e = .returned (.bool true) ∧ Bl w w' := by
  by_cases h0 : xss.length = 0
  · have hz : xss = [] := List.length_eq_zero_iff.1 h0
    subst hz
    obtain ⟨a, c, rfl⟩ := hv.empty
    obtain ⟨a', c', rfl⟩ := hu.empty
    go_enter Tryz.func27, Tryz.ntmps27
    go_wp2
    refine wp_loop_rounds 1 ?_; rw [rounds_succ]; go_wp2
    go_ret
    exact ⟨rfl, Bl.refl _⟩
  obtain ⟨b, o, c, rfl, hb, hc⟩ := hv.some (by omega)
  obtain ⟨b', o', c', rfl, hb', hc'⟩ := hu.some (by omega)
  clear hv hu
  go_enter Tryz.func27, Tryz.ntmps27
  go_wp2
  go_loopw [5] (fun i wr => ∃ k : Nat, k ≤ xss.length ∧ i = .int .i64 k ∧ Bl w wr) (fun i _ => xss.length - (intOf i).toNat)
  case atStart => exact ⟨0, Nat.zero_le _, rfl, Bl.refl _⟩
  case round =>
    obtain ⟨k, hk, rfl, hbl⟩ := hrel
    by_cases hlt : k < xss.length
    · obtain ⟨m, hm, hml⟩ := hc k hlt
      obtain ⟨m', hm', hml'⟩ := hc' k hlt
      have hcell := (hbl.cell hb).trans hm
      have hcell' := (hbl.cell hb').trans hm'
      have hz := hs _ (List.getElem_mem hlt)
      have h1 : (k : Int) < (xss.length : Int) := by omega
      have h0 : (0 : Int) ≤ (k : Int) := by omega
      have H1 : Hid (Sl wr m (xss[k].map (Value.int .i64))) := hml.bl hbl
      have H2 : Hid (Sl wr m' (xss[k].map (Value.int .i64))) := hml'.bl hbl
      clear hc hc' hm hm' hml hml'
      go_wp2
      go_region_with (go_at_call 63; refine (sameInts_any _ _ _ _ (by exact H1.out.bl ((Bl.refl _).drewN _)) (by exact H2.out.bl ((Bl.refl _).drewN _)) hz).mono ?_; rintro e w' ⟨rfl, hbl'⟩)
      go_wp2
      all_goals
        go_roundw
        case rel => exact ⟨k + 1, by omega, by go_num, hbl.trans (((Bl.refl _).drew).trans hbl')⟩
        case measure => simp [intOf]; omega
    · go_wp2
      go_ret
      exact ⟨rfl, hbl⟩
/-- Of the first k chains: does one of them hold the number; is one of them this number alone? -/
def anyHas (L : List (List Int)) (x : Int) : Bool := L.any fun c => decide (x ∈ c)
def anyOne (L : List (List Int)) (x : Int) : Bool := L.any fun c => decide (x ∈ c) && decide (c.length = 1)

theorem anyHas_succ (L : List (List Int)) (x : Int) (k : Nat) (h : k < L.length) : anyHas (L.take (k + 1)) x = (anyHas (L.take k) x || decide (x ∈ L[k])) := by
  unfold anyHas; rw [List.take_succ_eq_append_getElem h, List.any_append]; simp only [List.any_cons, List.any_nil, Bool.or_false]
theorem anyOne_succ (L : List (List Int)) (x : Int) (k : Nat) (h : k < L.length) : anyOne (L.take (k + 1)) x = (anyOne (L.take k) x || (decide (x ∈ L[k]) && decide (L[k].length = 1))) := by
  unfold anyOne; rw [List.take_succ_eq_append_getElem h, List.any_append]; simp only [List.any_cons, List.any_nil, Bool.or_false]

def leaves (L : List (List Int)) (x : Int) : Int := if anyHas L x = false then 3 else if anyOne L x = true then 4 else 0

theorem Sl.len {w : World} {v : Value} {cs : List Value} (h : Sl w v cs) : ∃ a c, v = .slice a cs.length c := by
  rcases h with ⟨a9, c9, rfl, rfl⟩ | ⟨b, o, c, rfl, _⟩
  · exact ⟨_, _, rfl⟩
  · exact ⟨_, _, rfl⟩

set_option maxHeartbeats 1000000 in
theorem leavable_any (v : Value) (L : List (List Int)) (x : Int) (w : World) (hv : Sll w v L) (hn : L.length ≤ 4000000) (hs : ∀ c ∈ L, c.length ≤ 4000000) :
    Calls Tryz.prog 84 #[v, .int .i64 x] w fun e w' => e = .returned (.int .i64 (leaves L x)) ∧ w' = w := by
  by_cases h0 : L.length = 0
  · have hz : L = [] := List.length_eq_zero_iff.1 h0
    subst hz
    obtain ⟨a, c, rfl⟩ := hv.empty
    go_enter Tryz.func84, Tryz.ntmps84
    go_wp2
    refine wp_loop_rounds 1 ?_; rw [rounds_succ]; go_wp2
    go_ret
    exact ⟨rfl, rfl⟩
  obtain ⟨b, o, c, rfl, hb, hc⟩ := hv.some (by omega)
  clear hv
  go_enter Tryz.func84, Tryz.ntmps84
  go_wp2
  go_loop [5, 6, 12] (fun s l i => ∃ k : Nat, k ≤ L.length ∧ i = .int .i64 k ∧ s = .bool (anyHas (L.take k) x) ∧ l = .bool (anyOne (L.take k) x)) (fun _ _ i => L.length - (intOf i).toNat)
  case atStart => exact ⟨0, Nat.zero_le _, rfl, rfl, rfl⟩
  case round =>
    obtain ⟨k, hk, rfl, rfl, rfl⟩ := hrel
    by_cases hlt : k < L.length
    · obtain ⟨m, hm, hml⟩ := hc k hlt
      have hz := hs _ (List.getElem_mem hlt)
      have H1 := anyHas_succ L x k hlt
      have H2 := anyOne_succ L x k hlt
      obtain ⟨s', hs'⟩ : ∃ q, anyHas (L.take (k + 1)) x = q := ⟨_, rfl⟩
      obtain ⟨l', hl'⟩ : ∃ q, anyOne (L.take (k + 1)) x = q := ⟨_, rfl⟩
      rw [hs'] at H1; rw [hl'] at H2
      have HS : Hid (anyHas (L.take (k + 1)) x = s') := hs'
      have HL : Hid (anyOne (L.take (k + 1)) x = l') := hl'
      clear hs' hl'
      obtain ⟨a, c', hmv⟩ := hml.len
      simp only [List.length_map] at hmv
      have Hml : Hid (Sl w m (L[k].map (Value.int .i64))) := hml
      generalize hch : L[k] = ch at *
      clear hch hc hml hs
      subst hmv
      generalize anyHas (L.take k) x = s0 at *
      generalize anyOne (L.take k) x = l0 at *
      have hd : ((ch.length : Int) == 1) = decide (ch.length = 1) := by
        by_cases h : ch.length = 1
        · simp [h]
        · simp [h]; omega
      generalize decide (ch.length = 1) = q1 at *
      go_wp2_with fail
      refine (contains_any _ ch x _ Hml.out hz).mono ?_
      generalize decide (x ∈ ch) = q0 at *
      rintro e w' ⟨rfl, rfl⟩
      subst H1 H2
      cases s0 <;> cases l0 <;> cases q0 <;> cases q1
      all_goals
        go_wp2
        go_round
        case rel => exact ⟨k + 1, by omega, by go_num, by rw [HS.out]; rfl, by rw [HL.out]; rfl⟩
        case measure => simp [intOf]; omega
    · have ht : L.take k = L := List.take_of_length_le (by omega)
      rw [ht]
      have hl : Hid (leaves L x = if anyHas L x = false then 3 else if anyOne L x = true then 4 else 0) := rfl
      generalize anyHas L x = s0 at *
      generalize anyOne L x = l0 at *
      cases s0 <;> cases l0
      all_goals
        go_wp2
        go_ret
        refine ⟨?_, rfl⟩
        rw [hl.out]
        rfl

end Go.Proofs.YtkgjpfamjedncaaGreat
