/-
  The book of bytes is looked at.
-/
import Derived.Test.YtkgjpfamjedncaaGreatBookB
namespace Go.Proofs.YtkgjpfamjedncaaGreat
open Go.RowKit

theorem mark_x (m : Nat) : Int.tmod (m : Int) 251 = ((m % 251 : Nat) : Int) ∧ IntKind.u8.wrap ((m % 251 : Nat) : Int) = ((m % 251 : Nat) : Int) := by
  refine ⟨by rw [Int.tmod_eq_emod_of_nonneg (by omega)]; omega, ?_⟩
  simp [IntKind.wrap, IntKind.bits, IntKind.signed]
  omega

set_option maxHeartbeats 400000 in
theorem allBytes_any (v : Value) (n m : Nat) (w : World) (hv : Sl w v (List.replicate n (Value.int .u8 (m % 251 : Nat)))) (hs : n ≤ 50000000) (_hm : m ≤ 4000000) :
    Calls Tryz.prog 57 #[v, .int .i64 m] w fun e w' => e = .returned (.bool true) ∧ w' = w := by
  obtain ⟨hx2, hx3⟩ := mark_x m
  have hx1 : m % 251 < 251 := Nat.mod_lt _ (by decide)
  rcases hv with ⟨a9, c9, rfl, hz⟩ | ⟨b, o, c, rfl, _, hc⟩
  · go_enter Tryz.func57, Tryz.ntmps57
    go_wp2
    refine wp_loop_rounds 1 ?_; rw [rounds_succ]; go_wp2
    go_ret
    exact ⟨rfl, rfl⟩
  · simp only [List.length_replicate, List.getElem_replicate] at hc ⊢
    generalize m % 251 = x at *
    go_enter Tryz.func57, Tryz.ntmps57
    go_wp2
    go_loop [5] (fun i => ∃ k : Nat, k ≤ n ∧ i = .int .i64 k) (fun i => n - (intOf i).toNat)
    case atStart => exact ⟨0, Nat.zero_le _, rfl⟩
    case round =>
      obtain ⟨k, hk, rfl⟩ := hrel
      by_cases hlt : k < n
      · have hcell := hc k hlt
        go_wp2
        go_round
        case rel => exact ⟨k + 1, by omega, by go_num⟩
        case measure => simp [intOf]; omega
      · go_wp2
        go_ret
        exact ⟨rfl, rfl⟩

set_option maxRecDepth 100000 in
set_option maxHeartbeats 1000000 in
theorem stillBytes_any (n k : Nat) (v o1 o2 o3 : Value) (w : World) (hm : MarkI w 0 n 5 (.int .u8 (k % 251 : Nat)) v o1 o2 o3) (hn : n ≤ 40000000) (hk : k ≤ 4000000) :
    Calls Tryz.prog 16 #[.agg #[v, o1, o2, o3, .int .i64 k]] w fun e w' => e = .returned (.bool true) ∧ Bl w w' := by
  obtain ⟨a0, c0, e0⟩ := (ownsRow_sl hm.h0).len
  obtain ⟨a1, c1, e1⟩ := (ownsRow_sl hm.h1).len
  obtain ⟨a2, c2, e2⟩ := (ownsRow_sl hm.h2).len
  obtain ⟨a3, c3, e3⟩ := (ownsRow_sl hm.h3).len
  simp only [List.length_replicate] at e0 e1 e2 e3
  subst e0 e1 e2 e3
  have Hm := hid hm
  clear hm
  go_enter Tryz.func16, Tryz.ntmps16
  go_wp2_with fail
  refine (allBytes_any _ n k _ ((ownsRow_sl Hm.out.h0).bl ((Bl.refl _).alloc _)) (by omega) hk).mono ?_; rintro e w' ⟨rfl, rfl⟩
  go_wp2_with fail
  refine (allBytes_any _ (n + 1) k _ ((ownsRow_sl Hm.out.h1).bl ((Bl.refl _).alloc _)) (by omega) hk).mono ?_; rintro e w' ⟨rfl, rfl⟩
  go_wp2_with fail
  refine (allBytes_any _ (n + 2) k _ ((ownsRow_sl Hm.out.h2).bl ((Bl.refl _).alloc _)) (by omega) hk).mono ?_; rintro e w' ⟨rfl, rfl⟩
  go_wp2_with fail
  refine (allBytes_any _ (n + 3) k _ ((ownsRow_sl Hm.out.h3).bl ((Bl.refl _).alloc _)) (by omega) hk).mono ?_; rintro e w' ⟨rfl, rfl⟩
  go_wp2
  go_ret
  exact ⟨rfl, (Bl.refl _).alloc _⟩
theorem own_shape5 {w : World} {base : Nat} {e : TypeId} {v : Value} {n : Nat} {xs : List Value} (h : w.ownsRow base e 5 v n xs) (hn : 0 < n) : ∃ g cap, v = .slice (some ⟨g, 0, none⟩) n cap := by
  rcases h.2 with ⟨_, h'⟩ | ⟨g, cap, cur, h', _⟩
  · omega
  · exact ⟨g, cap, h'⟩
theorem own_len5 {w : World} {base : Nat} {e : TypeId} {v : Value} {n : Nat} {xs : List Value} (h : w.ownsRow base e 5 v n xs) : ∃ a c, v = .slice a n c := by
  rcases h.2 with ⟨e, e'⟩ | ⟨g, cap, cur, e, _⟩
  · exact ⟨_, _, by rw [e, e']⟩
  · exact ⟨_, _, e⟩

set_option maxRecDepth 100000 in
set_option maxHeartbeats 2000000 in
theorem looksB_any (B0 bw : Nat) (kl vl bl : Value) (nb : Nat) (xb : List Value) (w : World) (hB : BookB B0 w bw kl vl bl (.slice none 0 0) (.slice none 0 0) nb xb) (hnb : nb ≤ 4000000) :
    Calls Tryz.prog 9 #[.pointer (some ⟨bw, 2, none⟩)] w fun e w' => e = .returned (.bool true) ∧ Bl w w' := by
  obtain ⟨ai, ci, hvi⟩ := own_len5 hB.ob
  subst hvi
  have c2 := cell_of_row w bw 2 _ 35 (0, 0) hB.blk
  have c3 := cell_of_row w bw 3 _ 35 (0, 0) hB.blk
  have c4 := cell_of_row w bw 4 _ 35 (0, 0) hB.blk
  simp at c2 c3 c4
  have lbw := hB.lt
  have HB := hid hB
  have C2 := hid c2
  have C3 := hid c3
  have C4 := hid c4
  clear hB
  go_enter Tryz.func9, Tryz.ntmps9
  go_wp2
  go_loopw [3, 4] (fun ok i wr => ∃ k : Nat, k ≤ nb ∧ i = .int .i64 k ∧ ok = .bool true ∧ Bl w wr) (fun _ i _ => nb - (intOf i).toNat)
  case atStart => exact ⟨0, Nat.zero_le _, rfl, rfl, Bl.refl _⟩
  case round =>
    clear c2 c3 c4
    obtain ⟨k, hk, rfl, rfl, hbl⟩ := hrel
    have c2 := (hbl.cell lbw).trans C2.out
    by_cases hlt : k < nb
    · obtain ⟨g, cap, hsh⟩ := own_shape5 HB.out.ob (by omega)
      simp only [Value.slice.injEq] at hsh
      obtain ⟨rfl, _, rfl⟩ := hsh
      obtain ⟨n, v, o1, o2, o3, hn, e0, e1, e2, e3, e4, hm⟩ := HB.out.eb k hlt
      have hgl := (HB.out.ob.lt g rfl).2
      have d0 := ((hbl.cell hgl).trans (HB.out.ob.cellAt (k * 5) (by omega))).trans e0
      have d1 := ((hbl.cell hgl).trans (HB.out.ob.cellAt (k * 5 + 1) (by omega))).trans e1
      have d2 := ((hbl.cell hgl).trans (HB.out.ob.cellAt (k * 5 + 2) (by omega))).trans e2
      have d3 := ((hbl.cell hgl).trans (HB.out.ob.cellAt (k * 5 + 3) (by omega))).trans e3
      have d4 := ((hbl.cell hgl).trans (HB.out.ob.cellAt (k * 5 + 4) (by omega))).trans e4
      have hm2 := hid (hm.only (Only.of_bl (S := fun _ => False) hbl) (fun _ _ _ _ e => e))
      obtain ⟨a0, c0, f0⟩ := (ownsRow_sl hm.h0).len
      obtain ⟨a1, c1, f1⟩ := (ownsRow_sl hm.h1).len
      obtain ⟨a2, c2', f2⟩ := (ownsRow_sl hm.h2).len
      obtain ⟨a3, c3', f3⟩ := (ownsRow_sl hm.h3).len
      simp only [List.length_replicate] at f0 f1 f2 f3
      subst f0 f1 f2 f3
      clear e0 e1 e2 e3 e4 hm
      go_wp2_with fail
      refine (stillBytes_any n k _ _ _ _ _ hm2.out hn (by omega)).mono ?_
      rintro e w2 ⟨rfl, hb2⟩
      go_wp2
      go_roundw
      case rel => exact ⟨k + 1, by omega, by go_num, rfl, hbl.trans hb2⟩
      case measure => simp [intOf]; omega
    · have c3 := (hbl.cell lbw).trans C3.out
      have c4 := (hbl.cell lbw).trans C4.out
      go_wp2
      refine wp_loop_rounds 1 ?_; rw [rounds_succ]; go_wp2
      refine wp_loop_rounds 1 ?_; rw [rounds_succ]; go_wp2
      go_ret
      exact ⟨rfl, hbl⟩
end Go.Proofs.YtkgjpfamjedncaaGreat
