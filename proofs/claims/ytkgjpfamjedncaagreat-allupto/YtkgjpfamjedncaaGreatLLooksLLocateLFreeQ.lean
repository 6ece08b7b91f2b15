/-
  The book is looked at.
-/
/-
  Locate, of the program and of the document: one answer.
-/
/-
  A step of the kinds Locate and Next.
-/
import Derived.Test.YtkgjpfamjedncaaGreatLBookLChainQ
import Derived.Test.YtkgjpfamjedncaaGreatLooksBRefVRefCRefDQ
import Derived.Test.YtkgjpfamjedncaaGreatBytesRead
import Derived.Test.YtkgjpfamjedncaaGreatLocateSmallKeepReachQ
namespace Go.Proofs.YtkgjpfamjedncaaGreat
open Go.RowKit

set_option maxHeartbeats 400000 in
theorem allInts_wide (v : Value) (n : Nat) (m : Nat) (w : World) (hv : Sl w v (List.replicate n (Value.int .i64 (-1000 - m)))) (hs : n ≤ 5000000) (hm : m ≤ 4000000) :
    Calls Tryz.prog 58 #[v, .int .i64 m] w fun e w' => e = .returned (.bool true) ∧ w' = w := by
  rcases hv with ⟨a9, c9, rfl, hz⟩ | ⟨b, o, c, rfl, _, hc⟩
  · go_enter Tryz.func58, Tryz.ntmps58
    go_wp2
    refine wp_loop_rounds 1 ?_; rw [rounds_succ]; go_wp2
    go_ret
    exact ⟨rfl, rfl⟩
  · simp only [List.length_replicate, List.getElem_replicate] at hc ⊢
    go_enter Tryz.func58, Tryz.ntmps58
    go_wp2
    go_loop [5] (fun i => ∃ k : Nat, k ≤ n ∧ i = .int .i64 k) (fun i => n - (intOf i).toNat)
    case atStart => exact ⟨0, Nat.zero_le _, rfl⟩
    case round =>
      obtain ⟨k, hk, rfl⟩ := hrel
      by_cases hlt : k < n
      · have hcell := hc k hlt
        go_wp2
        go_round
        case rel => exact ⟨k + 1, by omega, by go_num⟩
        case measure => simp [intOf]; omega
      · go_wp2
        go_ret
        exact ⟨rfl, rfl⟩

set_option maxHeartbeats 400000 in
theorem allChains_wide (v u : Value) (n : Nat) (zs : List Int) (w : World) (hv : Sl w v (List.replicate n u)) (hu : Sl w u (zs.map (Value.int .i64))) (hn : n ≤ 5000000) (hs : zs.length ≤ 4000000) :
    Calls Tryz.prog 59 #[v, u] w fun e w' => e = .returned (.bool true) ∧ Bl w w' := by
  by_cases h0 : n = 0
  · subst h0
    obtain ⟨a, c, rfl⟩ := hv.empty
    go_enter Tryz.func59, Tryz.ntmps59
    go_wp2
    refine wp_loop_rounds 1 ?_; rw [rounds_succ]; go_wp2
    go_ret
    exact ⟨rfl, Bl.refl _⟩
  rcases hv with ⟨a9, c9, rfl, hz⟩ | ⟨b, o, c, rfl, hb, hc⟩
  · simp at hz; omega
  simp only [List.length_replicate, List.getElem_replicate] at hc ⊢
  go_enter Tryz.func59, Tryz.ntmps59
  go_wp2
  go_loopw [5] (fun i wr => ∃ k : Nat, k ≤ n ∧ i = .int .i64 k ∧ Bl w wr) (fun i _ => n - (intOf i).toNat)
  case atStart => exact ⟨0, Nat.zero_le _, rfl, Bl.refl _⟩
  case round =>
    obtain ⟨k, hk, rfl, hbl⟩ := hrel
    by_cases hlt : k < n
    · have hcell := (hbl.cell hb).trans (hc k hlt)
      clear hc
      go_wp2_with fail
      refine (sameInts_any u u zs _ (hu.bl hbl) (hu.bl hbl) hs).mono ?_
      rintro e w' ⟨rfl, hbl'⟩
      go_wp2
      go_roundw
      case rel => exact ⟨k + 1, by omega, by go_num, hbl.trans hbl'⟩
      case measure => simp [intOf]; omega
    · go_wp2
      go_ret
      exact ⟨rfl, hbl⟩


set_option maxRecDepth 100000 in
set_option maxHeartbeats 1000000 in
theorem stillInts_any (n k : Nat) (v o1 o2 o3 : Value) (w : World) (hm : MarkI w 0 n 3 (.int .i64 (-1000 - k)) v o1 o2 o3) (hn : n ≤ 4000000) (hk : k ≤ 4000000) :
    Calls Tryz.prog 17 #[.agg #[v, o1, o2, o3, .int .i64 k]] w fun e w' => e = .returned (.bool true) ∧ Bl w w' := by
  obtain ⟨a0, c0, e0⟩ := (ownsRow_sl hm.h0).len
  obtain ⟨a1, c1, e1⟩ := (ownsRow_sl hm.h1).len
  obtain ⟨a2, c2, e2⟩ := (ownsRow_sl hm.h2).len
  obtain ⟨a3, c3, e3⟩ := (ownsRow_sl hm.h3).len
  simp only [List.length_replicate] at e0 e1 e2 e3
  subst e0 e1 e2 e3
  have Hm := hid hm
  clear hm
  go_enter Tryz.func17, Tryz.ntmps17
  go_wp2_with fail
  refine (allInts_wide _ n k _ ((ownsRow_sl Hm.out.h0).bl ((Bl.refl _).alloc _)) (by omega) hk).mono ?_; rintro e w' ⟨rfl, rfl⟩
  go_wp2_with fail
  refine (allInts_wide _ (n + 1) k _ ((ownsRow_sl Hm.out.h1).bl ((Bl.refl _).alloc _)) (by omega) hk).mono ?_; rintro e w' ⟨rfl, rfl⟩
  go_wp2_with fail
  refine (allInts_wide _ (n + 2) k _ ((ownsRow_sl Hm.out.h2).bl ((Bl.refl _).alloc _)) (by omega) hk).mono ?_; rintro e w' ⟨rfl, rfl⟩
  go_wp2_with fail
  refine (allInts_wide _ (n + 3) k _ ((ownsRow_sl Hm.out.h3).bl ((Bl.refl _).alloc _)) (by omega) hk).mono ?_; rintro e w' ⟨rfl, rfl⟩
  go_wp2
  go_ret
  exact ⟨rfl, (Bl.refl _).alloc _⟩

set_option maxRecDepth 100000 in
set_option maxHeartbeats 1000000 in
theorem stillChains_any (n k M : Nat) (v o1 o2 o3 : Value) (w : World) (hm : MarkI w 0 n 24 (.slice (some ⟨M, 0, none⟩) 2 2) v o1 o2 o3) (hM : w.heap[M]? = some (.cells #[.int .i64 (-1000 - k), .int .i64 99] 3 (0, 0))) (hn : n ≤ 4000000) :
    Calls Tryz.prog 18 #[.agg #[v, o1, o2, o3, .slice (some ⟨M, 0, none⟩) 2 2]] w fun e w' => e = .returned (.bool true) ∧ Bl w w' := by
  obtain ⟨a0, c0, e0⟩ := (ownsRow_sl hm.h0).len
  obtain ⟨a1, c1, e1⟩ := (ownsRow_sl hm.h1).len
  obtain ⟨a2, c2, e2⟩ := (ownsRow_sl hm.h2).len
  obtain ⟨a3, c3, e3⟩ := (ownsRow_sl hm.h3).len
  simp only [List.length_replicate] at e0 e1 e2 e3
  subst e0 e1 e2 e3
  have Hm := hid hm
  have HM : Hid (Sl w (.slice (some ⟨M, 0, none⟩) 2 2) ([-1000 - (k : Int), 99].map (Value.int .i64))) := ownsRow_sl (base := 0) (e := 3) (ownsRow_heap (xs := [.int .i64 (-1000 - k), .int .i64 99]) hM (Nat.zero_le _) rfl (by unfold maxLen; omega))
  clear hm hM
  go_enter Tryz.func18, Tryz.ntmps18
  go_wp2_with fail
  refine (allChains_wide _ _ n _ _ ((ownsRow_sl Hm.out.h0).bl ((Bl.refl _).alloc _)) (HM.out.bl ((Bl.refl _).alloc _)) (by omega) (by simp)).mono ?_; rintro e w1 ⟨rfl, b1⟩
  have q1 := hid (((Bl.refl w).alloc _).trans b1)
  have s1 : w.heap.size < w1.heap.size := Nat.lt_of_lt_of_le (by simp) b1.lt
  have z11 := b1.cell (b := w.heap.size) (o := 1) (by simp)
  have z12 := b1.cell (b := w.heap.size) (o := 2) (by simp)
  have z13 := b1.cell (b := w.heap.size) (o := 3) (by simp)
  have z14 := b1.cell (b := w.heap.size) (o := 4) (by simp)
  simp at z11 z12 z13 z14
  go_wp2_with fail
  refine (allChains_wide _ _ (n + 1) _ _ ((ownsRow_sl Hm.out.h1).bl (q1.out)) (HM.out.bl (q1.out)) (by omega) (by simp)).mono ?_; rintro e w2 ⟨rfl, b2⟩
  have q2 := hid ((q1.out).trans b2)
  have s2 : w.heap.size < w2.heap.size := Nat.lt_of_lt_of_le (by omega) b2.lt
  have z22 := (b2.cell (b := w.heap.size) (o := 2) (by omega)).trans z12
  have z23 := (b2.cell (b := w.heap.size) (o := 3) (by omega)).trans z13
  have z24 := (b2.cell (b := w.heap.size) (o := 4) (by omega)).trans z14
  go_wp2_with fail
  refine (allChains_wide _ _ (n + 2) _ _ ((ownsRow_sl Hm.out.h2).bl (q2.out)) (HM.out.bl (q2.out)) (by omega) (by simp)).mono ?_; rintro e w3 ⟨rfl, b3⟩
  have q3 := hid ((q2.out).trans b3)
  have s3 : w.heap.size < w3.heap.size := Nat.lt_of_lt_of_le (by omega) b3.lt
  have z33 := (b3.cell (b := w.heap.size) (o := 3) (by omega)).trans z23
  have z34 := (b3.cell (b := w.heap.size) (o := 4) (by omega)).trans z24
  go_wp2_with fail
  refine (allChains_wide _ _ (n + 3) _ _ ((ownsRow_sl Hm.out.h3).bl (q3.out)) (HM.out.bl (q3.out)) (by omega) (by simp)).mono ?_; rintro e w4 ⟨rfl, b4⟩
  have q4 := hid ((q3.out).trans b4)
  have s4 : w.heap.size < w4.heap.size := Nat.lt_of_lt_of_le (by omega) b4.lt
  go_wp2
  go_ret
  exact ⟨rfl, q4.out⟩
set_option maxRecDepth 100000 in
set_option maxHeartbeats 2000000 in
theorem looksA_any (B0 bw : Nat) (kl vl bl vi vc : Value) (nb ni nc : Nat) (xb xi xc : List Value) (w : World) (hB : BookB B0 w bw kl vl bl vi vc nb xb) (hL : Book B0 w bw kl vl bl vi vc ni nc xi xc) (hnb : nb ≤ 4000000) (hni : ni ≤ 4000000) (hnc : nc ≤ 4000000) :
    Calls Tryz.prog 9 #[.pointer (some ⟨bw, 2, none⟩)] w fun e w' => e = .returned (.bool true) ∧ Bl w w' := by
  obtain ⟨ab, cb, hvb⟩ := own_len5 hB.ob
  obtain ⟨ai, ci, hvi⟩ := own_len5 hL.oi
  obtain ⟨ac, cc, hvc⟩ := own_len5 hL.oc
  subst hvb hvi hvc
  have c2 := cell_of_row w bw 2 _ 35 (0, 0) hB.blk
  have c3 := cell_of_row w bw 3 _ 35 (0, 0) hB.blk
  have c4 := cell_of_row w bw 4 _ 35 (0, 0) hB.blk
  simp at c2 c3 c4
  have lbw := hB.lt
  have HB := hid hB
  have HL := hid hL
  have C2 := hid c2
  have C3 := hid c3
  have C4 := hid c4
  clear hB hL
  go_enter Tryz.func9, Tryz.ntmps9
  go_wp2
  go_loopw [3, 4] (fun ok i wr => ∃ k : Nat, k ≤ nb ∧ i = .int .i64 k ∧ ok = .bool true ∧ Bl w wr) (fun _ i _ => nb - (intOf i).toNat)
  case atStart => exact ⟨0, Nat.zero_le _, rfl, rfl, Bl.refl _⟩
  case round =>
    clear c2 c3 c4
    obtain ⟨k, hk, rfl, rfl, hbl⟩ := hrel
    have c2 := (hbl.cell lbw).trans C2.out
    by_cases hlt : k < nb
    · obtain ⟨g, cap, hsh⟩ := own_shape5 HB.out.ob (by omega)
      simp only [Value.slice.injEq] at hsh
      obtain ⟨rfl, _, rfl⟩ := hsh
      obtain ⟨n, v, o1, o2, o3, hn, e0, e1, e2, e3, e4, hm⟩ := HB.out.eb k hlt
      have hgl := (HB.out.ob.lt g rfl).2
      have d0 := ((hbl.cell hgl).trans (HB.out.ob.cellAt (k * 5) (by omega))).trans e0
      have d1 := ((hbl.cell hgl).trans (HB.out.ob.cellAt (k * 5 + 1) (by omega))).trans e1
      have d2 := ((hbl.cell hgl).trans (HB.out.ob.cellAt (k * 5 + 2) (by omega))).trans e2
      have d3 := ((hbl.cell hgl).trans (HB.out.ob.cellAt (k * 5 + 3) (by omega))).trans e3
      have d4 := ((hbl.cell hgl).trans (HB.out.ob.cellAt (k * 5 + 4) (by omega))).trans e4
      have hm2 := hid (hm.only (Only.of_bl (S := fun _ => False) hbl) (fun _ _ _ _ e => e))
      obtain ⟨a0, c0, f0⟩ := (ownsRow_sl hm.h0).len
      obtain ⟨a1, c1, f1⟩ := (ownsRow_sl hm.h1).len
      obtain ⟨a2, c2', f2⟩ := (ownsRow_sl hm.h2).len
      obtain ⟨a3, c3', f3⟩ := (ownsRow_sl hm.h3).len
      simp only [List.length_replicate] at f0 f1 f2 f3
      subst f0 f1 f2 f3
      clear e0 e1 e2 e3 e4 hm
      go_wp2_with fail
      refine (stillBytes_any n k _ _ _ _ _ hm2.out hn (by omega)).mono ?_
      rintro e w2 ⟨rfl, hb2⟩
      go_wp2
      go_roundw
      case rel => exact ⟨k + 1, by omega, by go_num, rfl, hbl.trans hb2⟩
      case measure => simp [intOf]; omega
    · have c3 := (hbl.cell lbw).trans C3.out
      have c4 := (hbl.cell lbw).trans C4.out
      go_wp2
      go_loopw [3, 6] (fun ok i wr => ∃ k : Nat, k ≤ ni ∧ i = .int .i64 k ∧ ok = .bool true ∧ Bl w wr) (fun _ i _ => ni - (intOf i).toNat)
      case atStart => exact ⟨0, Nat.zero_le _, rfl, rfl, hbl⟩
      case round =>
        clear c3 c4 hbl
        obtain ⟨k, hk, rfl, rfl, hbl⟩ := hrel
        have c3 := (hbl.cell lbw).trans C3.out
        by_cases hlt : k < ni
        · obtain ⟨g, cap, hsh⟩ := own_shape5 HL.out.oi (by omega)
          simp only [Value.slice.injEq] at hsh
          obtain ⟨rfl, _, rfl⟩ := hsh
          obtain ⟨n, v, o1, o2, o3, hn, e0, e1, e2, e3, e4, hm⟩ := HL.out.ei k hlt
          have hgl := (HL.out.oi.lt g rfl).2
          have d0 := ((hbl.cell hgl).trans (HL.out.oi.cellAt (k * 5) (by omega))).trans e0
          have d1 := ((hbl.cell hgl).trans (HL.out.oi.cellAt (k * 5 + 1) (by omega))).trans e1
          have d2 := ((hbl.cell hgl).trans (HL.out.oi.cellAt (k * 5 + 2) (by omega))).trans e2
          have d3 := ((hbl.cell hgl).trans (HL.out.oi.cellAt (k * 5 + 3) (by omega))).trans e3
          have d4 := ((hbl.cell hgl).trans (HL.out.oi.cellAt (k * 5 + 4) (by omega))).trans e4
          have hm2 := hid (hm.only (Only.of_bl (S := fun _ => False) hbl) (fun _ _ _ _ e => e))
          obtain ⟨a0, c0, f0⟩ := (ownsRow_sl hm.h0).len
          obtain ⟨a1, c1, f1⟩ := (ownsRow_sl hm.h1).len
          obtain ⟨a2, c2, f2⟩ := (ownsRow_sl hm.h2).len
          obtain ⟨a3, c3', f3⟩ := (ownsRow_sl hm.h3).len
          simp only [List.length_replicate] at f0 f1 f2 f3
          subst f0 f1 f2 f3
          clear e0 e1 e2 e3 e4 hm
          go_wp2_with fail
          refine (stillInts_any n k _ _ _ _ _ hm2.out hn (by omega)).mono ?_
          rintro e w2 ⟨rfl, hb2⟩
          go_wp2
          go_roundw
          case rel => exact ⟨k + 1, by omega, by go_num, rfl, hbl.trans hb2⟩
          case measure => simp [intOf]; omega
        · go_wp2
          go_loopw [3, 8] (fun ok i wr => ∃ k : Nat, k ≤ nc ∧ i = .int .i64 k ∧ ok = .bool true ∧ Bl w wr) (fun _ i _ => nc - (intOf i).toNat)
          case atStart => exact ⟨0, Nat.zero_le _, rfl, rfl, hbl⟩
          case round =>
            clear c3 hbl
            obtain ⟨m, hm, rfl, rfl, hbl⟩ := hrel
            have c4 := (hbl.cell lbw).trans C4.out
            by_cases hlt2 : m < nc
            · obtain ⟨g, cap, hsh⟩ := own_shape5 HL.out.oc (by omega)
              simp only [Value.slice.injEq] at hsh
              obtain ⟨rfl, _, rfl⟩ := hsh
              obtain ⟨n, v, o1, o2, o3, M, hn, e0, e1, e2, e3, e4, hmk, hM⟩ := HL.out.ec m hlt2
              have hgl := (HL.out.oc.lt g rfl).2
              have d0 := ((hbl.cell hgl).trans (HL.out.oc.cellAt (m * 5) (by omega))).trans e0
              have d1 := ((hbl.cell hgl).trans (HL.out.oc.cellAt (m * 5 + 1) (by omega))).trans e1
              have d2 := ((hbl.cell hgl).trans (HL.out.oc.cellAt (m * 5 + 2) (by omega))).trans e2
              have d3 := ((hbl.cell hgl).trans (HL.out.oc.cellAt (m * 5 + 3) (by omega))).trans e3
              have d4 := ((hbl.cell hgl).trans (HL.out.oc.cellAt (m * 5 + 4) (by omega))).trans e4
              have hm2 := hid (hmk.only (Only.of_bl (S := fun _ => False) hbl) (fun _ _ _ _ e => e))
              have hM2 := hid ((hbl.heap (Array.getElem?_eq_some_iff.1 hM).1).trans hM)
              obtain ⟨a0, c0, f0⟩ := (ownsRow_sl hmk.h0).len
              obtain ⟨a1, c1, f1⟩ := (ownsRow_sl hmk.h1).len
              obtain ⟨a2, c2, f2⟩ := (ownsRow_sl hmk.h2).len
              obtain ⟨a3, c3', f3⟩ := (ownsRow_sl hmk.h3).len
              simp only [List.length_replicate] at f0 f1 f2 f3
              subst f0 f1 f2 f3
              clear e0 e1 e2 e3 e4 hmk hM
              go_wp2_with fail
              refine (stillChains_any n m M _ _ _ _ _ hm2.out hM2.out hn).mono ?_
              rintro e w2 ⟨rfl, hb2⟩
              go_wp2
              go_roundw
              case rel => exact ⟨m + 1, by omega, by go_num, rfl, hbl.trans hb2⟩
              case measure => simp [intOf]; omega
            · go_wp2
              go_ret
              exact ⟨rfl, hbl⟩
end Go.Proofs.YtkgjpfamjedncaaGreat

namespace Go.Proofs.YtkgjpfamjedncaaGreat
open Go.RowKit


set_option maxHeartbeats 400000 in
theorem Locate_any (a b c d x : Int) (w : World) :
    Calls Tryz.prog 19 #[.agg #[.int .i64 a, .int .i64 b, .int .i64 c, .int .i64 d], .int .i64 x] w fun e w' => e = tup (loc a b c d x) ∧ Bl w w' := by
  obtain ⟨r, hr⟩ : ∃ r, Hid (loc a b c d x = r) := ⟨_, rfl⟩
  rw [hr.out]
  go_enter Tryz.func19, Tryz.ntmps19
  go_wp2_with fail
  refine (locate_any a b c d x _).mono ?_; rw [hr.out]; rintro e w' ⟨rfl, hb⟩
  unfold tup
  go_wp2
  go_ret3
  exact ⟨rfl, ((Bl.refl _).alloc _).trans hb⟩

end Go.Proofs.YtkgjpfamjedncaaGreat

namespace Go.Proofs.YtkgjpfamjedncaaGreat
open Go.RowKit

set_option maxRecDepth 100000 in
set_option maxHeartbeats 1000000 in
theorem freeLocate_any (bw : Nat) (a b c q1 q2 q3 q4 : Int) (la : Option Addr) (ln lc : Nat) (ua : Option Addr) (un uc : Nat) (s : ByteArray) (t1 t2 t3 : Int) (va : Option Addr) (vn vc : Nat) (w : World) :
    Calls Tryz.prog 10 #[.pointer (some ⟨bw, 0, none⟩), .agg #[.int .i64 1, .int .i64 a, .int .i64 b, .int .i64 c, .int .i64 q1, .int .i64 q2, .int .i64 q3, .int .i64 q4, .slice la ln lc, .slice ua un uc, .string s, .int .i64 t1, .int .i64 t2, .int .i64 t3, .slice va vn vc]] w fun e w' => e = .returned (.bool true) ∧ Bl w w' := by
  obtain ⟨r, hr⟩ : ∃ r, Hid (loc q1 q2 q3 q4 a = r) := ⟨_, hid rfl⟩
  go_enter Tryz.func10, Tryz.ntmps10
  go_wp2_with fail
  refine (Locate_any q1 q2 q3 q4 a _).mono ?_
  rw [hr.out]
  rintro e w1 ⟨rfl, b1⟩
  unfold tup
  have z1 := b1.cell (b := w.heap.size) (o := 1) (by simp)
  have z4 := b1.cell (b := w.heap.size) (o := 4) (by simp)
  have z5 := b1.cell (b := w.heap.size) (o := 5) (by simp)
  have z6 := b1.cell (b := w.heap.size) (o := 6) (by simp)
  have z7 := b1.cell (b := w.heap.size) (o := 7) (by simp)
  simp at z1 z4 z5 z6 z7
  have q1' := hid (((Bl.refl w).alloc _).trans b1)
  go_wp2_with fail
  refine (locate_ref q1 q2 q3 q4 a _).mono ?_
  rw [hr.out]
  rintro e w2 ⟨rfl, b2⟩
  unfold tup
  go_wp2
  go_ret
  exact ⟨rfl, q1'.out.trans b2⟩
theorem LentK.sll {base : Nat} {w : World} {G : Nat} {ls : List Value} {L : List (List Int)} {ms : List Value} (h : LentK base w G ls L (L.length + 8) ms) : Sll w (.slice (some ⟨G, 0, none⟩) L.length (L.length + 8)) L := by
  have hl := ownsRow_len h.own
  have hc := ownsRow_cut h.own L.length (by omega)
  refine ⟨ms.take L.length, ownsRow_sl hc, by simp; omega, fun i hi hi' => ?_⟩
  rw [List.getElem_take]
  exact ((h.row i (by omega) (by omega)).1 hi' (by rw [h.ll]; exact hi')).sl
theorem Outl.only {S : Nat → Prop} {base : Nat} {w w' : World} {r : Value} {R : List (List Int)} (h : Outl base w r R) (ho : Only S w w') (hs : ∀ b, base ≤ b → ¬ S b) : Outl base w' r R := by
  rcases h with h | ⟨g, n, ms, e, hr⟩
  · exact .inl h
  · exact .inr ⟨g, n, ms, e, hr.only ho fun b hb _ => hs b hb⟩
theorem Outl.bl {base : Nat} {w w' : World} {r : Value} {R : List (List Int)} (h : Outl base w r R) (ho : Bl w w') : Outl base w' r R := h.only (Only.of_bl (S := fun _ => False) ho) fun _ _ e => e
theorem Outl.sll {base : Nat} {w : World} {r : Value} {R : List (List Int)} (h : Outl base w r R) : Sll w r R := by
  rcases h with ⟨rfl, rfl⟩ | ⟨g, n, ms, rfl, hr⟩
  · exact ⟨[], .inl ⟨_, _, rfl, rfl⟩, rfl, fun i h => by simp at h⟩
  · exact hr.sll
theorem nres_len (L : List (List Int)) (x : Int) (zs : List Int) : (nres L x zs).length ≤ L.length := by
  unfold nres; split <;> simp
theorem nres_row {L : List (List Int)} (x : Int) (zs : List Int) {B : Nat} (h : ∀ c ∈ L, c.length ≤ B) : ∀ c ∈ nres L x zs, c.length ≤ B := by
  intro c hc
  unfold nres at hc
  split at hc
  · obtain ⟨d, hd, rfl⟩ := List.mem_map.1 hc
    exact Nat.le_trans (rm_le x d) (h d hd)
  · simp at hc

set_option maxRecDepth 100000 in
set_option maxHeartbeats 4000000 in
theorem freeNextL_any (B0 bw : Nat) (kl vl bl vi vcc : Value) (ni nc : Nat) (xi xc : List Value) (a b c q1 q2 q3 q4 : Int) (lay : Value) (ls : List Value) (L : List (List Int)) (l : Value) (zs : List Int) (s : ByteArray) (t1 t2 t3 : Int) (va : Option Addr) (vn vc : Nat) (w : World)
    (hB : Book B0 w bw kl vl bl vi vcc ni nc xi xc) (hfree : ∀ u ∈ xi ++ xc, ∀ b, u.ownBlock = some b → b < w.heap.size)
    (hlay : Sl w lay ls) (hll : ls.length = L.length) (hrows : ∀ i (h : i < ls.length) (h' : i < L.length), Sl w ls[i] (L[i].map (Value.int .i64))) (hl : Sl w l (zs.map (Value.int .i64)))
    (hL : L.length ≤ 2000000) (hLs : ∀ c ∈ L, c.length ≤ 4000000 ∧ wfAll c) (hz : zs.length ≤ 4000000) (hzw : wfAll zs) (hni : ni + L.length < 4000000) (hnc : nc < 4000000) :
    Calls Tryz.prog 10 #[.pointer (some ⟨bw, 0, none⟩), .agg #[.int .i64 2, .int .i64 a, .int .i64 b, .int .i64 c, .int .i64 q1, .int .i64 q2, .int .i64 q3, .int .i64 q4, lay, l, .string s, .int .i64 t1, .int .i64 t2, .int .i64 t3, .slice va vn vc]] w fun e w' =>
      ∃ vi' vc' xi' xc', e = .returned (.bool true) ∧ Book B0 w' bw kl vl bl vi' vc' (ni + (nres L a zs).length) (nc + 1) xi' xc' ∧ Only (fun b => b = bw ∨ vi.ownBlock = some b ∨ vcc.ownBlock = some b) w w' ∧ (∀ b, vi'.ownBlock = some b → vi.ownBlock = some b ∨ w.heap.size ≤ b) ∧ (∀ b, vc'.ownBlock = some b → vcc.ownBlock = some b ∨ w.heap.size ≤ b) ∧ ∀ u ∈ xi' ++ xc', u ∈ xi ++ xc ∨ ∀ b, u.ownBlock = some b → w.heap.size ≤ b := by
  have hLs1 : ∀ c ∈ L, c.length ≤ 4000000 := fun c hc => (hLs c hc).1
  obtain ⟨la, lc, hla⟩ := hlay.len
  obtain ⟨ua, uc, hua⟩ := hl.len
  rw [hll] at hla
  simp only [List.length_map] at hua
  subst hla hua
  have HB := hid hB
  have Hfree := hid hfree
  have Hlay := hid hlay
  have Hrows := hid hrows
  have Hl := hid hl
  have HLs := hid hLs
  have HLs1 := hid hLs1
  have Hll := hid hll
  have Hzw := hid hzw
  have lbw := hB.lt
  clear hB hfree hlay hrows hl hLs hLs1 hll hzw
  go_enter Tryz.func10, Tryz.ntmps10
  go_wp2_with fail
  have bB : Bl w (w.alloc (.cells #[.int .i64 2, .int .i64 a, .int .i64 b, .int .i64 c, .int .i64 q1, .int .i64 q2, .int .i64 q3, .int .i64 q4, .slice la L.length lc, .slice ua zs.length uc, .string s, .int .i64 t1, .int .i64 t2, .int .i64 t3, .slice va vn vc] 44)) := (Bl.refl _).alloc _
  have hbox := heap_alloc_new w (.cells #[.int .i64 2, .int .i64 a, .int .i64 b, .int .i64 c, .int .i64 q1, .int .i64 q2, .int .i64 q3, .int .i64 q4, .slice la L.length lc, .slice ua zs.length uc, .string s, .int .i64 t1, .int .i64 t2, .int .i64 t3, .slice va vn vc] 44)
  have lB : w.heap.size < (w.alloc (.cells #[.int .i64 2, .int .i64 a, .int .i64 b, .int .i64 c, .int .i64 q1, .int .i64 q2, .int .i64 q3, .int .i64 q4, .slice la L.length lc, .slice ua zs.length uc, .string s, .int .i64 t1, .int .i64 t2, .int .i64 t3, .slice va vn vc] 44)).heap.size := by simp
  generalize w.alloc (.cells #[.int .i64 2, .int .i64 a, .int .i64 b, .int .i64 c, .int .i64 q1, .int .i64 q2, .int .i64 q3, .int .i64 q4, .slice la L.length lc, .slice ua zs.length uc, .string s, .int .i64 t1, .int .i64 t2, .int .i64 t3, .slice va vn vc] 44) = wB at *
  have y1 := cell_of_row wB w.heap.size 1 _ 44 (0, 0) hbox
  have y8 := cell_of_row wB w.heap.size 8 _ 44 (0, 0) hbox
  have y9 := cell_of_row wB w.heap.size 9 _ 44 (0, 0) hbox
  simp at y1 y8 y9
  have Y1 := hid y1
  have Y8 := hid y8
  have Y9 := hid y9
  have BB := hid bB
  clear hbox y1 y8 y9 bB
  generalize hbx : w.heap.size = bx at *
  have Hbx := hid hbx
  clear hbx
  -- the layout is lent
  refine (lentLayout_any _ ls L _ (Hlay.out.bl BB.out) Hll.out (fun i h h' => (Hrows.out i h h').bl BB.out) (by omega) HLs1.out).mono ?_
  rintro e w1 ⟨G, ms, rfl, b1, hK1⟩
  have K1 := hid hK1
  have x1 := (b1.cell (o := 9) lB).trans Y9.out
  have B1 := hid b1
  clear hK1 b1
  go_wp2_with fail
  -- the numbers are lent
  refine (lentInts_any _ zs _ (Hl.out.bl (BB.out.trans B1.out)) hz).mono ?_
  rintro e w2 ⟨r, rfl, b2, hI2⟩
  have I2 := hid hI2
  have B2 := hid b2
  have K2 := hid (K1.out.bl b2)
  have x2 := ((B1.out.trans b2).cell (o := 1) lB).trans Y1.out
  clear hI2 b2
  go_wp2_with fail
  -- Next of the program
  refine (Next_any _ r L a zs _ K2.out.sll I2.out.sl (by omega) HLs.out hz Hzw.out).mono ?_
  rintro e w3 ⟨m, rfl, b3, hO3⟩
  have O3 := hid hO3
  have B3 := hid b3
  have K3 := hid (K2.out.bl b3)
  have I3 := hid (I2.out.bl b3)
  have x3 := (((B1.out.trans B2.out).trans b3).cell (o := 8) lB).trans Y8.out
  clear hO3 b3 x1 x2
  go_wp2_with fail
  -- the layout comes back
  refine (backLayout_any wB _ G _ ls L ms (fun b => wB.heap.size ≤ b ∧ b < w1.heap.size) ((B1.out.trans B2.out).trans B3.out) K3.out (Hlay.out.bl BB.out) (fun i h h' => (Hrows.out i h h').bl BB.out) (by omega) HLs1.out (by exact ⟨(K1.out.own.lt G rfl).1, (K1.out.own.lt G rfl).2⟩)
    (fun i h b hb => (K1.out.row i h (by have := ownsRow_len K1.out.own; omega)).lt Hll.out b hb) (fun b hb => hb.1)).mono ?_
  rintro e w4 ⟨rfl, o4⟩
  have B04 := hid (((B1.out.trans B2.out).trans B3.out).trans_only o4 (fun b hb => hb.1))
  have I4 := hid (I3.out.only o4 fun b hb e => by have := (I2.out.lt b hb).1; omega)
  have O4 := hid (O3.out.only o4 fun b hb e => by have := B2.out.lt; omega)
  have x4 := (B04.out.cell (o := 9) lB).trans Y9.out
  have S4 := hid o4.size
  clear o4 x3
  go_wp2_with fail
  -- the numbers come back
  refine (backInts_any w1.heap.size r _ zs _ I4.out (Hl.out.bl (BB.out.trans B04.out)) hz).mono ?_
  rintro e w5 ⟨rfl, o5⟩
  have B05 := hid (B04.out.trans_only o5 (fun b hb => by have := (I2.out.lt b hb).1; have := B1.out.lt; omega))
  have O5 := hid (O4.out.only o5 fun b hb e => by have := (I2.out.lt b e).2; omega)
  have x51 := (B05.out.cell (o := 1) lB).trans Y1.out
  have x58 := (B05.out.cell (o := 8) lB).trans Y8.out
  have x59 := (B05.out.cell (o := 9) lB).trans Y9.out
  have S5 := hid o5.size
  clear o5 x4
  go_wp2_with fail
  -- Next of the document
  refine (refNext_any _ _ L a zs _ ⟨ls, Hlay.out.bl (BB.out.trans B05.out), Hll.out, fun i h h' => (Hrows.out i h h').bl (BB.out.trans B05.out)⟩ (Hl.out.bl (BB.out.trans B05.out)) (by omega) HLs1.out hz).mono ?_
  rintro e w6 ⟨m2, rfl, b6, hS6⟩
  have S6 := hid hS6
  have O6 := hid (O5.out.bl b6)
  have B06 := hid (B05.out.trans b6)
  have S6' := hid b6.lt
  clear hS6 b6 x51 x58 x59
  go_wp2_with fail
  refine (sameLayout_any _ _ (nres L a zs) _ O6.out.sll S6.out (by have := nres_len L a zs; omega) (nres_row a zs HLs1.out)).mono ?_
  rintro e w7 ⟨rfl, b7⟩
  have O7 := hid (O6.out.bl b7)
  have B07 := hid ((BB.out.trans B06.out).trans b7)
  have S7 := hid b7.lt
  clear b7
  have hnl := nres_len L a zs
  have Hb2 : Hid (w2.heap.size ≤ w7.heap.size) := by
    have h1 := B3.out.lt
    have h2 := S4.out
    have h3 := S5.out
    have h4 := S6'.out
    have h5 := S7.out
    unfold Hid
    omega
  go_wp2_with fail
  -- what came out is booked
  refine (bookChain_any B0 bw kl vl bl vi vcc ni nc xi xc w2.heap.size m (nres L a zs) _ (HB.out.bl B07.out) O7.out Hb2.out ?h1 (nres_row a zs HLs1.out) ?h2 hnc ?h3).mono ?_
  case h1 => omega
  case h2 => omega
  case h3 => intro u hu b hb; have := Hfree.out u hu b hb; have := BB.out.lt; have := B1.out.lt; have := B2.out.lt; omega
  rintro e w8 ⟨vi', vc', xi', xc', rfl, hB8, hO8, hv8, hc8, hu8⟩
  have HB8 := hid hB8
  have Hle : w.heap.size ≤ w2.heap.size := by have := BB.out.lt; have := B1.out.lt; have := B2.out.lt; have := Hbx.out; omega
  have hO9 : Only (fun b => b = bw ∨ vi.ownBlock = some b ∨ vcc.ownBlock = some b) w w8 := by
    have O := (Only.of_bl (S := fun b => b = bw ∨ vi.ownBlock = some b ∨ vcc.ownBlock = some b ∨ w2.heap.size ≤ b) B07.out).trans hO8
    refine ⟨O.os, O.tape, O.output, O.size, fun i hi hn => O.block i hi fun e => ?_⟩
    rcases e with e | e | e | e
    · exact hn (.inl e)
    · exact hn (.inr (.inl e))
    · exact hn (.inr (.inr e))
    · have := Hbx.out; omega
  have HO8 := hid (And.intro hO9 (And.intro (fun b e => (hv8 b e).imp id fun h => Nat.le_trans Hle h) (And.intro (fun b e => (hc8 b e).imp id fun h => Nat.le_trans Hle h) (fun u hu => (hu8 u hu).imp id fun h b e => Nat.le_trans Hle (h b e)))))
  clear hB8 hO8 hO9 hv8 hc8 hu8
  go_wp2
  go_ret
  exact ⟨_, _, _, _, rfl, HB8.out, HO8.out.1, HO8.out.2.1, HO8.out.2.2.1, HO8.out.2.2.2⟩
theorem Book.used {B0 : Nat} {w : World} {bw : Nat} {kl vl bl vi vc : Value} {ni nc : Nat} {xi xc : List Value} (h : Book B0 w bw kl vl bl vi vc ni nc xi xc) : ∀ u ∈ xi ++ xc, ∀ b, u.ownBlock = some b → b < w.heap.size := by
  intro u hu b hb
  rcases List.mem_append.1 hu with hu | hu
  · obtain ⟨i, hi, rfl⟩ := List.mem_iff_getElem.1 hu
    have hl : xi.length = ni * 5 := h.oi.1
    obtain ⟨n, v, o1, o2, o3, hn, e0, e1, e2, e3, e4, hm⟩ := h.ei (i / 5) (by omega)
    have hg := List.getElem?_eq_getElem hi
    have hcase : i = i / 5 * 5 ∨ i = i / 5 * 5 + 1 ∨ i = i / 5 * 5 + 2 ∨ i = i / 5 * 5 + 3 ∨ i = i / 5 * 5 + 4 := by omega
    rcases hcase with e | e | e | e | e
    · rw [← e, hg] at e0; simp at e0; rw [e0] at hb; exact (hm.h0.lt b hb).2
    · rw [← e, hg] at e1; simp at e1; rw [e1] at hb; exact (hm.h1.lt b hb).2
    · rw [← e, hg] at e2; simp at e2; rw [e2] at hb; exact (hm.h2.lt b hb).2
    · rw [← e, hg] at e3; simp at e3; rw [e3] at hb; exact (hm.h3.lt b hb).2
    · rw [← e, hg] at e4; simp at e4; rw [e4] at hb; simp [Value.ownBlock] at hb
  · obtain ⟨i, hi, rfl⟩ := List.mem_iff_getElem.1 hu
    have hl : xc.length = nc * 5 := h.oc.1
    obtain ⟨n, v, o1, o2, o3, M, hn, e0, e1, e2, e3, e4, hm, hM⟩ := h.ec (i / 5) (by omega)
    have hg := List.getElem?_eq_getElem hi
    have hcase : i = i / 5 * 5 ∨ i = i / 5 * 5 + 1 ∨ i = i / 5 * 5 + 2 ∨ i = i / 5 * 5 + 3 ∨ i = i / 5 * 5 + 4 := by omega
    rcases hcase with e | e | e | e | e
    · rw [← e, hg] at e0; simp at e0; rw [e0] at hb; exact (hm.h0.lt b hb).2
    · rw [← e, hg] at e1; simp at e1; rw [e1] at hb; exact (hm.h1.lt b hb).2
    · rw [← e, hg] at e2; simp at e2; rw [e2] at hb; exact (hm.h2.lt b hb).2
    · rw [← e, hg] at e3; simp at e3; rw [e3] at hb; exact (hm.h3.lt b hb).2
    · rw [← e, hg] at e4; simp at e4; rw [e4] at hb; simp [Value.ownBlock] at hb; subst hb; exact (Array.getElem?_eq_some_iff.1 hM).1
end Go.Proofs.YtkgjpfamjedncaaGreat
