/-
  The book is looked at.
-/
import Derived.Test.YtkgjpfamjedncaaGreatChain
namespace Go.Proofs.YtkgjpfamjedncaaGreat
open Go.RowKit

set_option maxHeartbeats 400000 in
theorem allInts_wide (v : Value) (n : Nat) (m : Nat) (w : World) (hv : Sl w v (List.replicate n (Value.int .i64 (-1000 - m)))) (hs : n ≤ 5000000) (hm : m ≤ 4000000) :
    Calls Tryz.prog 58 #[v, .int .i64 m] w fun e w' => e = .returned (.bool true) ∧ w' = w := by
  rcases hv with ⟨a9, c9, rfl, hz⟩ | ⟨b, o, c, rfl, _, hc⟩
  · go_enter Tryz.func58, Tryz.ntmps58
    go_wp2
    refine wp_loop_rounds 1 ?_; rw [rounds_succ]; go_wp2
    go_ret
    exact ⟨rfl, rfl⟩
  · simp only [List.length_replicate, List.getElem_replicate] at hc ⊢
    go_enter Tryz.func58, Tryz.ntmps58
    go_wp2
    go_loop [5] (fun i => ∃ k : Nat, k ≤ n ∧ i = .int .i64 k) (fun i => n - (intOf i).toNat)
    case atStart => exact ⟨0, Nat.zero_le _, rfl⟩
    case round =>
      obtain ⟨k, hk, rfl⟩ := hrel
      by_cases hlt : k < n
      · have hcell := hc k hlt
        go_wp2
        go_round
        case rel => exact ⟨k + 1, by omega, by go_num⟩
        case measure => simp [intOf]; omega
      · go_wp2
        go_ret
        exact ⟨rfl, rfl⟩

set_option maxHeartbeats 400000 in
theorem allChains_wide (v u : Value) (n : Nat) (zs : List Int) (w : World) (hv : Sl w v (List.replicate n u)) (hu : Sl w u (zs.map (Value.int .i64))) (hn : n ≤ 5000000) (hs : zs.length ≤ 4000000) :
    Calls Tryz.prog 59 #[v, u] w fun e w' => e = .returned (.bool true) ∧ Bl w w' := by
  by_cases h0 : n = 0
  · subst h0
    obtain ⟨a, c, rfl⟩ := hv.empty
    go_enter Tryz.func59, Tryz.ntmps59
    go_wp2
    refine wp_loop_rounds 1 ?_; rw [rounds_succ]; go_wp2
    go_ret
    exact ⟨rfl, Bl.refl _⟩
  rcases hv with ⟨a9, c9, rfl, hz⟩ | ⟨b, o, c, rfl, hb, hc⟩
  · simp at hz; omega
  simp only [List.length_replicate, List.getElem_replicate] at hc ⊢
  go_enter Tryz.func59, Tryz.ntmps59
  go_wp2
  go_loopw [5] (fun i wr => ∃ k : Nat, k ≤ n ∧ i = .int .i64 k ∧ Bl w wr) (fun i _ => n - (intOf i).toNat)
  case atStart => exact ⟨0, Nat.zero_le _, rfl, Bl.refl _⟩
  case round =>
    obtain ⟨k, hk, rfl, hbl⟩ := hrel
    by_cases hlt : k < n
    · have hcell := (hbl.cell hb).trans (hc k hlt)
      clear hc
      go_wp2_with fail
      refine (sameInts_any u u zs _ (hu.bl hbl) (hu.bl hbl) hs).mono ?_
      rintro e w' ⟨rfl, hbl'⟩
      go_wp2
      go_roundw
      case rel => exact ⟨k + 1, by omega, by go_num, hbl.trans hbl'⟩
      case measure => simp [intOf]; omega
    · go_wp2
      go_ret
      exact ⟨rfl, hbl⟩


set_option maxRecDepth 100000 in
set_option maxHeartbeats 1000000 in
theorem stillInts_any (n k : Nat) (v o1 o2 o3 : Value) (w : World) (hm : MarkI w 0 n 3 (.int .i64 (-1000 - k)) v o1 o2 o3) (hn : n ≤ 4000000) (hk : k ≤ 4000000) :
    Calls Tryz.prog 17 #[.agg #[v, o1, o2, o3, .int .i64 k]] w fun e w' => e = .returned (.bool true) ∧ Bl w w' := by
  obtain ⟨a0, c0, e0⟩ := (ownsRow_sl hm.h0).len
  obtain ⟨a1, c1, e1⟩ := (ownsRow_sl hm.h1).len
  obtain ⟨a2, c2, e2⟩ := (ownsRow_sl hm.h2).len
  obtain ⟨a3, c3, e3⟩ := (ownsRow_sl hm.h3).len
  simp only [List.length_replicate] at e0 e1 e2 e3
  subst e0 e1 e2 e3
  have Hm := hid hm
  clear hm
  go_enter Tryz.func17, Tryz.ntmps17
  go_wp2_with fail
  refine (allInts_wide _ n k _ ((ownsRow_sl Hm.out.h0).bl ((Bl.refl _).alloc _)) (by omega) hk).mono ?_; rintro e w' ⟨rfl, rfl⟩
  go_wp2_with fail
  refine (allInts_wide _ (n + 1) k _ ((ownsRow_sl Hm.out.h1).bl ((Bl.refl _).alloc _)) (by omega) hk).mono ?_; rintro e w' ⟨rfl, rfl⟩
  go_wp2_with fail
  refine (allInts_wide _ (n + 2) k _ ((ownsRow_sl Hm.out.h2).bl ((Bl.refl _).alloc _)) (by omega) hk).mono ?_; rintro e w' ⟨rfl, rfl⟩
  go_wp2_with fail
  refine (allInts_wide _ (n + 3) k _ ((ownsRow_sl Hm.out.h3).bl ((Bl.refl _).alloc _)) (by omega) hk).mono ?_; rintro e w' ⟨rfl, rfl⟩
  go_wp2
  go_ret
  exact ⟨rfl, (Bl.refl _).alloc _⟩

set_option maxRecDepth 100000 in
set_option maxHeartbeats 1000000 in
theorem stillChains_any (n k M : Nat) (v o1 o2 o3 : Value) (w : World) (hm : MarkI w 0 n 24 (.slice (some ⟨M, 0, none⟩) 2 2) v o1 o2 o3) (hM : w.heap[M]? = some (.cells #[.int .i64 (-1000 - k), .int .i64 99] 3 (0, 0))) (hn : n ≤ 4000000) :
    Calls Tryz.prog 18 #[.agg #[v, o1, o2, o3, .slice (some ⟨M, 0, none⟩) 2 2]] w fun e w' => e = .returned (.bool true) ∧ Bl w w' := by
  obtain ⟨a0, c0, e0⟩ := (ownsRow_sl hm.h0).len
  obtain ⟨a1, c1, e1⟩ := (ownsRow_sl hm.h1).len
  obtain ⟨a2, c2, e2⟩ := (ownsRow_sl hm.h2).len
  obtain ⟨a3, c3, e3⟩ := (ownsRow_sl hm.h3).len
  simp only [List.length_replicate] at e0 e1 e2 e3
  subst e0 e1 e2 e3
  have Hm := hid hm
  have HM : Hid (Sl w (.slice (some ⟨M, 0, none⟩) 2 2) ([-1000 - (k : Int), 99].map (Value.int .i64))) := ownsRow_sl (base := 0) (e := 3) (ownsRow_heap (xs := [.int .i64 (-1000 - k), .int .i64 99]) hM (Nat.zero_le _) rfl (by unfold maxLen; omega))
  clear hm hM
  go_enter Tryz.func18, Tryz.ntmps18
  go_wp2_with fail
  refine (allChains_wide _ _ n _ _ ((ownsRow_sl Hm.out.h0).bl ((Bl.refl _).alloc _)) (HM.out.bl ((Bl.refl _).alloc _)) (by omega) (by simp)).mono ?_; rintro e w1 ⟨rfl, b1⟩
  have q1 := hid (((Bl.refl w).alloc _).trans b1)
  have s1 : w.heap.size < w1.heap.size := Nat.lt_of_lt_of_le (by simp) b1.lt
  have z11 := b1.cell (b := w.heap.size) (o := 1) (by simp)
  have z12 := b1.cell (b := w.heap.size) (o := 2) (by simp)
  have z13 := b1.cell (b := w.heap.size) (o := 3) (by simp)
  have z14 := b1.cell (b := w.heap.size) (o := 4) (by simp)
  simp at z11 z12 z13 z14
  go_wp2_with fail
  refine (allChains_wide _ _ (n + 1) _ _ ((ownsRow_sl Hm.out.h1).bl (q1.out)) (HM.out.bl (q1.out)) (by omega) (by simp)).mono ?_; rintro e w2 ⟨rfl, b2⟩
  have q2 := hid ((q1.out).trans b2)
  have s2 : w.heap.size < w2.heap.size := Nat.lt_of_lt_of_le (by omega) b2.lt
  have z22 := (b2.cell (b := w.heap.size) (o := 2) (by omega)).trans z12
  have z23 := (b2.cell (b := w.heap.size) (o := 3) (by omega)).trans z13
  have z24 := (b2.cell (b := w.heap.size) (o := 4) (by omega)).trans z14
  go_wp2_with fail
  refine (allChains_wide _ _ (n + 2) _ _ ((ownsRow_sl Hm.out.h2).bl (q2.out)) (HM.out.bl (q2.out)) (by omega) (by simp)).mono ?_; rintro e w3 ⟨rfl, b3⟩
  have q3 := hid ((q2.out).trans b3)
  have s3 : w.heap.size < w3.heap.size := Nat.lt_of_lt_of_le (by omega) b3.lt
  have z33 := (b3.cell (b := w.heap.size) (o := 3) (by omega)).trans z23
  have z34 := (b3.cell (b := w.heap.size) (o := 4) (by omega)).trans z24
  go_wp2_with fail
  refine (allChains_wide _ _ (n + 3) _ _ ((ownsRow_sl Hm.out.h3).bl (q3.out)) (HM.out.bl (q3.out)) (by omega) (by simp)).mono ?_; rintro e w4 ⟨rfl, b4⟩
  have q4 := hid ((q3.out).trans b4)
  have s4 : w.heap.size < w4.heap.size := Nat.lt_of_lt_of_le (by omega) b4.lt
  go_wp2
  go_ret
  exact ⟨rfl, q4.out⟩
theorem own_shape5 {w : World} {base : Nat} {e : TypeId} {v : Value} {n : Nat} {xs : List Value} (h : w.ownsRow base e 5 v n xs) (hn : 0 < n) : ∃ g cap, v = .slice (some ⟨g, 0, none⟩) n cap := by
  rcases h.2 with ⟨_, h'⟩ | ⟨g, cap, cur, h', _⟩
  · omega
  · exact ⟨g, cap, h'⟩
theorem own_len5 {w : World} {base : Nat} {e : TypeId} {v : Value} {n : Nat} {xs : List Value} (h : w.ownsRow base e 5 v n xs) : ∃ a c, v = .slice a n c := by
  rcases h.2 with ⟨e, e'⟩ | ⟨g, cap, cur, e, _⟩
  · exact ⟨_, _, by rw [e, e']⟩
  · exact ⟨_, _, e⟩

set_option maxRecDepth 100000 in
set_option maxHeartbeats 2000000 in
theorem looks_any (B0 bw : Nat) (vi vc : Value) (ni nc : Nat) (xi xc : List Value) (w : World) (hB : Book B0 w bw vi vc ni nc xi xc) (hni : ni ≤ 4000000) (hnc : nc ≤ 4000000) :
    Calls Tryz.prog 9 #[.pointer (some ⟨bw, 2, none⟩)] w fun e w' => e = .returned (.bool true) ∧ Bl w w' := by
  obtain ⟨ai, ci, hvi⟩ := own_len5 hB.oi
  obtain ⟨ac, cc, hvc⟩ := own_len5 hB.oc
  subst hvi hvc
  have c2 := cell_of_row w bw 2 _ 35 (0, 0) hB.blk
  have c3 := cell_of_row w bw 3 _ 35 (0, 0) hB.blk
  have c4 := cell_of_row w bw 4 _ 35 (0, 0) hB.blk
  simp at c2 c3 c4
  have lbw := hB.lt
  have HB := hid hB
  have C3 := hid c3
  have C4 := hid c4
  clear hB
  go_enter Tryz.func9, Tryz.ntmps9
  go_wp2
  refine wp_loop_rounds 1 ?_; rw [rounds_succ]; go_wp2
  go_loopw [3, 6] (fun ok i wr => ∃ k : Nat, k ≤ ni ∧ i = .int .i64 k ∧ ok = .bool true ∧ Bl w wr) (fun _ i _ => ni - (intOf i).toNat)
  case atStart => exact ⟨0, Nat.zero_le _, rfl, rfl, Bl.refl _⟩
  case round =>
    clear c2 c3 c4
    obtain ⟨k, hk, rfl, rfl, hbl⟩ := hrel
    have c3 := (hbl.cell lbw).trans C3.out
    by_cases hlt : k < ni
    · obtain ⟨g, cap, hsh⟩ := own_shape5 HB.out.oi (by omega)
      simp only [Value.slice.injEq] at hsh
      obtain ⟨rfl, _, rfl⟩ := hsh
      obtain ⟨n, v, o1, o2, o3, hn, e0, e1, e2, e3, e4, hm⟩ := HB.out.ei k hlt
      have hgl := (HB.out.oi.lt g rfl).2
      have d0 := ((hbl.cell hgl).trans (HB.out.oi.cellAt (k * 5) (by omega))).trans e0
      have d1 := ((hbl.cell hgl).trans (HB.out.oi.cellAt (k * 5 + 1) (by omega))).trans e1
      have d2 := ((hbl.cell hgl).trans (HB.out.oi.cellAt (k * 5 + 2) (by omega))).trans e2
      have d3 := ((hbl.cell hgl).trans (HB.out.oi.cellAt (k * 5 + 3) (by omega))).trans e3
      have d4 := ((hbl.cell hgl).trans (HB.out.oi.cellAt (k * 5 + 4) (by omega))).trans e4
      have hm2 := hid (hm.only (Only.of_bl (S := fun _ => False) hbl) (fun _ _ _ _ e => e))
      obtain ⟨a0, c0, f0⟩ := (ownsRow_sl hm.h0).len
      obtain ⟨a1, c1, f1⟩ := (ownsRow_sl hm.h1).len
      obtain ⟨a2, c2, f2⟩ := (ownsRow_sl hm.h2).len
      obtain ⟨a3, c3', f3⟩ := (ownsRow_sl hm.h3).len
      simp only [List.length_replicate] at f0 f1 f2 f3
      subst f0 f1 f2 f3
      clear e0 e1 e2 e3 e4 hm
      go_wp2_with fail
      refine (stillInts_any n k _ _ _ _ _ hm2.out hn (by omega)).mono ?_
      rintro e w2 ⟨rfl, hb2⟩
      go_wp2
      go_roundw
      case rel => exact ⟨k + 1, by omega, by go_num, rfl, hbl.trans hb2⟩
      case measure => simp [intOf]; omega
    · go_wp2
      go_loopw [3, 8] (fun ok i wr => ∃ k : Nat, k ≤ nc ∧ i = .int .i64 k ∧ ok = .bool true ∧ Bl w wr) (fun _ i _ => nc - (intOf i).toNat)
      case atStart => exact ⟨0, Nat.zero_le _, rfl, rfl, hbl⟩
      case round =>
        clear c3 hbl
        obtain ⟨m, hm, rfl, rfl, hbl⟩ := hrel
        have c4 := (hbl.cell lbw).trans C4.out
        by_cases hlt2 : m < nc
        · obtain ⟨g, cap, hsh⟩ := own_shape5 HB.out.oc (by omega)
          simp only [Value.slice.injEq] at hsh
          obtain ⟨rfl, _, rfl⟩ := hsh
          obtain ⟨n, v, o1, o2, o3, M, hn, e0, e1, e2, e3, e4, hmk, hM⟩ := HB.out.ec m hlt2
          have hgl := (HB.out.oc.lt g rfl).2
          have d0 := ((hbl.cell hgl).trans (HB.out.oc.cellAt (m * 5) (by omega))).trans e0
          have d1 := ((hbl.cell hgl).trans (HB.out.oc.cellAt (m * 5 + 1) (by omega))).trans e1
          have d2 := ((hbl.cell hgl).trans (HB.out.oc.cellAt (m * 5 + 2) (by omega))).trans e2
          have d3 := ((hbl.cell hgl).trans (HB.out.oc.cellAt (m * 5 + 3) (by omega))).trans e3
          have d4 := ((hbl.cell hgl).trans (HB.out.oc.cellAt (m * 5 + 4) (by omega))).trans e4
          have hm2 := hid (hmk.only (Only.of_bl (S := fun _ => False) hbl) (fun _ _ _ _ e => e))
          have hM2 := hid ((hbl.heap (Array.getElem?_eq_some_iff.1 hM).1).trans hM)
          obtain ⟨a0, c0, f0⟩ := (ownsRow_sl hmk.h0).len
          obtain ⟨a1, c1, f1⟩ := (ownsRow_sl hmk.h1).len
          obtain ⟨a2, c2, f2⟩ := (ownsRow_sl hmk.h2).len
          obtain ⟨a3, c3', f3⟩ := (ownsRow_sl hmk.h3).len
          simp only [List.length_replicate] at f0 f1 f2 f3
          subst f0 f1 f2 f3
          clear e0 e1 e2 e3 e4 hmk hM
          go_wp2_with fail
          refine (stillChains_any n m M _ _ _ _ _ hm2.out hM2.out hn).mono ?_
          rintro e w2 ⟨rfl, hb2⟩
          go_wp2
          go_roundw
          case rel => exact ⟨m + 1, by omega, by go_num, rfl, hbl.trans hb2⟩
          case measure => simp [intOf]; omega
        · go_wp2
          go_ret
          exact ⟨rfl, hbl⟩

end Go.Proofs.YtkgjpfamjedncaaGreat
