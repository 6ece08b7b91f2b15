/-
  The calls that only read lists.
-/
import Derived.Test.YtkgjpfamjedncaaGreatBase
namespace Go.Proofs.YtkgjpfamjedncaaGreat
open Go.RowKit

theorem Sl.empty {w : World} {v : Value} (h : Sl w v []) : ∃ a c, v = .slice a 0 c := by
  rcases h with ⟨a, c, rfl, _⟩ | ⟨b, o, c, rfl, _⟩
  · exact ⟨_, _, rfl⟩
  · exact ⟨_, _, rfl⟩
theorem not_mem_take_succ' {x : Int} {zs : List Int} {k : Nat} (hk : k < zs.length) (h : ¬ x ∈ zs.take k) (hx : (x == zs[k]) = false) : ¬ x ∈ zs.take (k + 1) :=
  not_mem_take_succ hk h (by rw [BEq.comm]; exact hx)
theorem mem_of_beq' {x : Int} {zs : List Int} {k : Nat} (hk : k < zs.length) (hx : (x == zs[k]) = true) : x ∈ zs :=
  mem_of_beq hk (by rw [BEq.comm]; exact hx)

set_option maxHeartbeats 400000 in
theorem within_any (v : Value) (zs : List Int) (x : Int) (w : World) (hv : Sl w v (zs.map (Value.int .i64))) (hs : zs.length ≤ 4000000) :
    Calls Tryz.prog 64 #[v, .int .i64 x] w fun e w' => e = .returned (.bool (decide (x ∈ zs))) ∧ w' = w := by
  rcases hv with ⟨a9, c9, rfl, hz⟩ | ⟨b, o, c, rfl, _, hc⟩
  · simp at hz; subst hz
    go_enter Tryz.func64, Tryz.ntmps64
    go_wp2
    refine wp_loop_rounds 1 ?_; rw [rounds_succ]; go_wp2
    go_ret
    exact ⟨ret_bool (by simp), rfl⟩
  · simp only [List.length_map] at hc ⊢
    go_enter Tryz.func64, Tryz.ntmps64
    go_wp2
    go_loop [5] (fun i => ∃ k : Nat, k ≤ zs.length ∧ i = .int .i64 k ∧ ¬ x ∈ zs.take k) (fun i => zs.length - (intOf i).toNat)
    case atStart => exact ⟨0, Nat.zero_le _, rfl, by simp⟩
    case round =>
      obtain ⟨k, hk, rfl, hx⟩ := hrel
      by_cases hlt : k < zs.length
      · have hcell := hc k hlt
        simp only [List.getElem_map] at hcell
        go_wp2
        · have hz := mem_of_beq hlt (by assumption)
          go_ret
          exact ⟨ret_bool (by simp [hz]), rfl⟩
        · have hz := not_mem_take_succ hlt hx (by assumption)
          go_round
          case rel => exact ⟨k + 1, by omega, by go_num, hz⟩
          case measure => simp [intOf]; omega
      · go_wp2
        go_ret
        have : zs.take k = zs := List.take_of_length_le (by omega)
        rw [this] at hx
        exact ⟨ret_bool (by simp [hx]), rfl⟩

set_option maxHeartbeats 400000 in
theorem index_any (v : Value) (zs : List Int) (x : Int) (w : World) (hv : Sl w v (zs.map (Value.int .i64))) (hs : zs.length ≤ 4000000) :
    Calls Tryz.prog 115 #[v, .int .i64 x] w fun e w' => ∃ n : Int, e = .returned (.int .i64 n) ∧ (0 ≤ n ↔ x ∈ zs) ∧ w' = w := by
  rcases hv with ⟨a9, c9, rfl, hz⟩ | ⟨b, o, c, rfl, _, hc⟩
  · simp at hz; subst hz
    go_enter Tryz.func115, Tryz.ntmps115
    go_wp2
    refine wp_loop_rounds 1 ?_; rw [rounds_succ]; go_wp2
    go_ret
    exact ⟨_, rfl, by simp, rfl⟩
  · simp only [List.length_map] at hc ⊢
    go_enter Tryz.func115, Tryz.ntmps115
    go_wp2
    go_loop [8] (fun i => ∃ k : Nat, k ≤ zs.length ∧ i = .int .i64 k ∧ ¬ x ∈ zs.take k) (fun i => zs.length - (intOf i).toNat)
    case atStart => exact ⟨0, Nat.zero_le _, rfl, by simp⟩
    case round =>
      obtain ⟨k, hk, rfl, hx⟩ := hrel
      by_cases hlt : k < zs.length
      · have hcell := hc k hlt
        simp only [List.getElem_map] at hcell
        go_wp2
        · have hz := mem_of_beq' hlt (by assumption)
          go_ret
          exact ⟨_, rfl, by simp [hz], rfl⟩
        · have hz := not_mem_take_succ' hlt hx (by assumption)
          go_round
          case rel => exact ⟨k + 1, by omega, by go_num, hz⟩
          case measure => simp [intOf]; omega
      · go_wp2
        go_ret
        have : zs.take k = zs := List.take_of_length_le (by omega)
        rw [this] at hx
        exact ⟨_, rfl, by simp [hx], rfl⟩

set_option maxHeartbeats 400000 in
theorem allInts_any (v : Value) (n : Nat) (m : Nat) (w : World) (hv : Sl w v (List.replicate n (Value.int .i64 (-1000 - m)))) (hs : n ≤ 4000000) (hm : m ≤ 4000000) :
    Calls Tryz.prog 58 #[v, .int .i64 m] w fun e w' => e = .returned (.bool true) ∧ w' = w := by
  rcases hv with ⟨a9, c9, rfl, hz⟩ | ⟨b, o, c, rfl, _, hc⟩
  · go_enter Tryz.func58, Tryz.ntmps58
    go_wp2
    refine wp_loop_rounds 1 ?_; rw [rounds_succ]; go_wp2
    go_ret
    exact ⟨rfl, rfl⟩
  · simp only [List.length_replicate, List.getElem_replicate] at hc ⊢
    go_enter Tryz.func58, Tryz.ntmps58
    go_wp2
    go_loop [5] (fun i => ∃ k : Nat, k ≤ n ∧ i = .int .i64 k) (fun i => n - (intOf i).toNat)
    case atStart => exact ⟨0, Nat.zero_le _, rfl⟩
    case round =>
      obtain ⟨k, hk, rfl⟩ := hrel
      by_cases hlt : k < n
      · have hcell := hc k hlt
        go_wp2
        go_round
        case rel => exact ⟨k + 1, by omega, by go_num⟩
        case measure => simp [intOf]; omega
      · go_wp2
        go_ret
        exact ⟨rfl, rfl⟩

set_option maxHeartbeats 400000 in
theorem sameInts_any (v u : Value) (zs : List Int) (w : World) (hv : Sl w v (zs.map (Value.int .i64))) (hu : Sl w u (zs.map (Value.int .i64))) (hs : zs.length ≤ 4000000) :
    Calls Tryz.prog 63 #[v, u] w fun e w' => e = .returned (.bool true) ∧ Bl w w' := by
  by_cases h0 : zs.length = 0
  · have hz : zs = [] := List.length_eq_zero_iff.1 h0
    subst hz
    obtain ⟨a, c, rfl⟩ := hv.empty
    obtain ⟨a', c', rfl⟩ := hu.empty
    go_enter Tryz.func63, Tryz.ntmps63
    go_wp2
    refine wp_loop_rounds 1 ?_; rw [rounds_succ]; go_wp2
    go_ret
    exact ⟨rfl, Bl.refl _⟩
  rcases hv with ⟨a9, c9, rfl, hz⟩ | ⟨b, o, c, rfl, hb, hc⟩
  · simp at hz; simp [hz] at h0
  · rcases hu with ⟨a9, c9, rfl, hz⟩ | ⟨b', o', c', rfl, hb', hc'⟩
    · simp at hz; simp [hz] at h0
    simp only [List.length_map] at hc hc' ⊢
    go_enter Tryz.func63, Tryz.ntmps63
    go_wp2
    go_loopw [5] (fun i wr => ∃ k : Nat, k ≤ zs.length ∧ i = .int .i64 k ∧ Bl w wr) (fun i _ => zs.length - (intOf i).toNat)
    case atStart => exact ⟨0, Nat.zero_le _, rfl, Bl.refl _⟩
    case round =>
      obtain ⟨k, hk, rfl, hbl⟩ := hrel
      by_cases hlt : k < zs.length
      · have hcell := (hbl.cell hb).trans (hc k hlt)
        have hcell' := (hbl.cell hb').trans (hc' k hlt)
        simp only [List.getElem_map] at hcell hcell'
        clear hc hc'
        have h1 : (k : Int) < (zs.length : Int) := by omega
        have h0 : (0 : Int) ≤ (k : Int) := by omega
        go_wp2
        go_quiet (fail)
        go_wp2
        go_roundw
        case rel => exact ⟨k + 1, by omega, by go_num, hbl.drewN _⟩
        case measure => simp [intOf]; omega
      · go_wp2
        go_ret
        exact ⟨rfl, hbl⟩
set_option maxHeartbeats 400000 in
theorem contains_any (v : Value) (zs : List Int) (x : Int) (w : World) (hv : Sl w v (zs.map (Value.int .i64))) (hs : zs.length ≤ 4000000) :
    Calls Tryz.prog 108 #[v, .int .i64 x] w fun e w' => e = .returned (.bool (decide (x ∈ zs))) ∧ w' = w := by
  go_enter Tryz.func108, Tryz.ntmps108
  go_wp2_with fail
  refine (index_any v zs x _ hv hs).mono ?_
  rintro e w' ⟨n, rfl, hn, rfl⟩
  go_wp2
  go_ret
  exact ⟨ret_bool (by simp), rfl⟩

set_option maxHeartbeats 400000 in
theorem allChains_any (v u : Value) (n : Nat) (zs : List Int) (w : World) (hv : Sl w v (List.replicate n u)) (hu : Sl w u (zs.map (Value.int .i64))) (hn : n ≤ 4000000) (hs : zs.length ≤ 4000000) :
    Calls Tryz.prog 59 #[v, u] w fun e w' => e = .returned (.bool true) ∧ Bl w w' := by
  by_cases h0 : n = 0
  · subst h0
    obtain ⟨a, c, rfl⟩ := hv.empty
    go_enter Tryz.func59, Tryz.ntmps59
    go_wp2
    refine wp_loop_rounds 1 ?_; rw [rounds_succ]; go_wp2
    go_ret
    exact ⟨rfl, Bl.refl _⟩
  rcases hv with ⟨a9, c9, rfl, hz⟩ | ⟨b, o, c, rfl, hb, hc⟩
  · simp at hz; omega
  simp only [List.length_replicate, List.getElem_replicate] at hc ⊢
  go_enter Tryz.func59, Tryz.ntmps59
  go_wp2
  go_loopw [5] (fun i wr => ∃ k : Nat, k ≤ n ∧ i = .int .i64 k ∧ Bl w wr) (fun i _ => n - (intOf i).toNat)
  case atStart => exact ⟨0, Nat.zero_le _, rfl, Bl.refl _⟩
  case round =>
    obtain ⟨k, hk, rfl, hbl⟩ := hrel
    by_cases hlt : k < n
    · have hcell := (hbl.cell hb).trans (hc k hlt)
      clear hc
      go_wp2_with fail
      refine (sameInts_any u u zs _ (hu.bl hbl) (hu.bl hbl) hs).mono ?_
      rintro e w' ⟨rfl, hbl'⟩
      go_wp2
      go_roundw
      case rel => exact ⟨k + 1, by omega, by go_num, hbl.trans hbl'⟩
      case measure => simp [intOf]; omega
    · go_wp2
      go_ret
      exact ⟨rfl, hbl⟩

end Go.Proofs.YtkgjpfamjedncaaGreat
