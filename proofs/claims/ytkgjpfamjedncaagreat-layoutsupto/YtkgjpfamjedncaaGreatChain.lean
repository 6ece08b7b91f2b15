/-
  A layout that came out is booked.
-/
import Derived.Test.YtkgjpfamjedncaaGreatBook
namespace Go.Proofs.YtkgjpfamjedncaaGreat
open Go.RowKit
attribute [local go_sem ↓] Go.wp_at_zero Go.wp_at_succ

theorem Book.pushC {B0 : Nat} {W W' w3 : World} {bw : Nat} {vi vc : Value} {ni nc : Nat} {xi xc : List Value} (h : Book B0 W bw vi vc ni nc xi xc) {base n M : Nat} {v o1 o2 o3 : Value} (hm : MarkI W base n 24 (.slice (some ⟨M, 0, none⟩) 2 2) v o1 o2 o3) (hM : W.heap[M]? = some (.cells #[.int .i64 (-1000 - nc), .int .i64 99] 3 (0, 0))) (hn : n ≤ 4000000) (hb : Bl W W') (hg : W'.grownBy w3 vc.ownBlock) {gg cap : Nat}
    (ho : w3.ownsRow B0 58 5 (.slice (some ⟨gg, 0, none⟩) (nc + 1) cap) (nc + 1) (xc ++ [v, o1, o2, o3, .slice (some ⟨M, 0, none⟩) 2 2])) :
    Book B0 (w3.setCell ⟨bw, 4, none⟩ (.slice (some ⟨gg, 0, none⟩) (nc + 1) cap)) bw vi (.slice (some ⟨gg, 0, none⟩) (nc + 1) cap) ni (nc + 1) xi (xc ++ [v, o1, o2, o3, .slice (some ⟨M, 0, none⟩) 2 2]) ∧
    Only (fun b => b = bw ∨ vc.ownBlock = some b) W (w3.setCell ⟨bw, 4, none⟩ (.slice (some ⟨gg, 0, none⟩) (nc + 1) cap)) := by
  have nvc := own_ne_block h.oc h.blk (by decide)
  have o1' : Only (fun b => b = bw ∨ vc.ownBlock = some b) W w3 := (Only.of_bl hb).trans ((Only.of_grown hg).mono fun k _ e => .inr e.symm)
  have O := o1'.setCell ⟨bw, 4, none⟩ (.inl (.inl rfl)) (.slice (some ⟨gg, 0, none⟩) (nc + 1) cap)
  have hbw3 : w3.heap[bw]? = some (.cells #[.slice none 0 0, .slice none 0 0, .slice none 0 0, vi, vc] 35 (0, 0)) := by
    have h1 := hg.block bw (Nat.lt_of_lt_of_le h.lt hb.lt) (fun e => nvc e.symm)
    rw [h1, hb.heap h.lt]; exact h.blk
  have hS : Other W (fun b => b = bw ∨ vc.ownBlock = some b) := by
    rintro b (rfl | hb')
    · exact ⟨_, _, _, h.blk, by decide, by decide⟩
    · obtain ⟨c, hc⟩ := own_type h.oc b hb'
      exact ⟨_, _, _, hc, by decide, by decide⟩
  have hxl : xc.length = nc * 5 := h.oc.1
  refine ⟨⟨h.b0, ?_, ?_, ?_, fun k hk => (h.ei k hk).other O hS, fun k hk => ?_⟩, O⟩
  · exact heap_setCell_same w3 bw 4 _ 35 _ hbw3
  · refine O.owns h.oi fun b hb' e => ?_
    rcases e with rfl | e
    · exact own_ne_block h.oi h.blk (by decide) hb'
    · exact ownsRow_type h.oi h.oc (by decide) b hb' e
  · exact ownsRow_of ho fun b hb' => Below.heap_setCell _ _ _ _ (fun e => own_ne_block ho hbw3 (by decide) (by rw [hb', e]))
  · by_cases e : k < nc
    · exact ((h.ec k e).other O hS).app
    · have : k = nc := by omega
      subst this
      refine ⟨n, v, o1, o2, o3, M, hn, ?_, ?_, ?_, ?_, ?_, (hm.other (.inr rfl) O hS).base (Nat.zero_le _), ?_⟩
      any_goals (rw [List.getElem?_append_right (by omega)]; simp [hxl])
      rw [O.block M (Array.getElem?_eq_some_iff.1 hM).1 (fun hs => by obtain ⟨c, e', f, h1, h2, h3⟩ := hS M hs; rw [hM] at h1; simp at h1; exact h2 h1.2.1.symm)]
      exact hM

/-- Rows of numbers, each in a block of its own, and the list of them, which is nil where there are none. -/
structure Rows2 (base : Nat) (w : World) (r : Value) (n : Nat) (ms : List Value) (R : List (List Int)) : Prop where
  own : w.ownsRow base 24 1 r n ms
  len : R.length = n
  row : ∀ i (h : i < ms.length) (h' : i < R.length), w.ownsRow base 3 1 ms[i] R[i].length (R[i].map (Value.int .i64))
  apart : ∀ i j (hi : i < ms.length) (hj : j < ms.length) b, i ≠ j → ms[i].ownBlock = some b → ms[j].ownBlock ≠ some b

theorem Outl.rows {base : Nat} {w : World} {r : Value} {R : List (List Int)} (h : Outl base w r R) : ∃ n ms, Rows2 base w r n ms R := by
  rcases h with ⟨rfl, rfl⟩ | ⟨g, n, ms, rfl, hr⟩
  · exact ⟨0, [], World.ownsRow_nil _ _ _ _, rfl, fun i h => by simp at h, fun i j h => by simp at h⟩
  · exact ⟨n, ms, hr.own, hr.len, hr.row, hr.apart⟩

/-- What is left of the rows while they are booked. -/
structure Left (base : Nat) (w : World) (r : Value) (n : Nat) (ms : List Value) (R : List (List Int)) (k : Nat) (us : List Value) : Prop where
  own : w.ownsRow base 24 1 r n ms
  row : ∀ i (h : i < ms.length) (h' : i < R.length), k ≤ i → w.ownsRow base 3 1 ms[i] R[i].length (R[i].map (Value.int .i64))
  free : ∀ u ∈ us, ∀ b, u.ownBlock = some b → r.ownBlock ≠ some b ∧ ∀ i (h : i < ms.length), k ≤ i → ms[i].ownBlock ≠ some b

theorem Left.step {B0 base : Nat} {w w2 : World} {r : Value} {n : Nat} {ms : List Value} {R : List (List Int)} {k : Nat} {xi xc : List Value} {bw : Nat} {vi vc : Value} {ni nc : Nat} (h : Left base w r n ms R k (xi ++ xc)) (hB : Book B0 w bw vi vc ni nc xi xc) (hk : k < ms.length) (hkR : k < R.length) (hl : R.length = ms.length)
    (hap : ∀ i j (hi : i < ms.length) (hj : j < ms.length) b, i ≠ j → ms[i].ownBlock = some b → ms[j].ownBlock ≠ some b)
    (ho : Only (fun b => b = bw ∨ vi.ownBlock = some b ∨ ms[k].ownBlock = some b) w w2) {o1 o2 o3 : Value} {q : Int} (hnew : ∀ u ∈ [o1, o2, o3], ∀ b, u.ownBlock = some b → ms[k].ownBlock = some b ∨ w.heap.size ≤ b) :
    Left base w2 r n ms R (k + 1) ((xi ++ [ms[k], o1, o2, o3, .int .i64 q]) ++ xc) := by
  have hrk := h.row k hk hkR (Nat.le_refl _)
  have hG : ∀ b, r.ownBlock = some b → ms[k].ownBlock ≠ some b := fun b hb => ownsRow_type h.own hrk (by decide) b hb
  refine ⟨ho.owns h.own fun b hb e => ?_, fun i hi hi' hik => ho.owns (h.row i hi hi' (by omega)) fun b hb e => ?_, fun u hu b hb => ?_⟩
  · rcases e with rfl | e | e
    · exact own_ne_block h.own hB.blk (by decide) hb
    · exact ownsRow_type h.own hB.oi (by decide) b hb e
    · exact hG b hb e
  · have hri := h.row i hi hi' (by omega)
    rcases e with rfl | e | e
    · exact own_ne_block hri hB.blk (by decide) hb
    · exact ownsRow_type hri hB.oi (by decide) b hb e
    · exact hap i k hi hk b (by omega) hb e
  · have old : u ∈ xi ++ xc → r.ownBlock ≠ some b ∧ ∀ i (h : i < ms.length), k + 1 ≤ i → ms[i].ownBlock ≠ some b := fun hu => by
      obtain ⟨f1, f2⟩ := h.free u hu b hb
      exact ⟨f1, fun i hi hik => f2 i hi (by omega)⟩
    have same : ms[k].ownBlock = some b → r.ownBlock ≠ some b ∧ ∀ i (h : i < ms.length), k + 1 ≤ i → ms[i].ownBlock ≠ some b := fun hb =>
      ⟨fun e => hG b e hb, fun i hi hik => hap k i hk hi b (by omega) hb⟩
    have newer : w.heap.size ≤ b → r.ownBlock ≠ some b ∧ ∀ i (h : i < ms.length), k + 1 ≤ i → ms[i].ownBlock ≠ some b := fun hb =>
      ⟨fun e => by have := (h.own.lt b e).2; omega, fun i hi hik e => by have := ((h.row i hi (by omega) (by omega)).lt b e).2; omega⟩
    simp only [List.mem_append, List.mem_cons, List.not_mem_nil, or_false] at hu
    rcases hu with (hu | rfl | rfl | rfl | rfl | rfl) | hu
    · exact old (List.mem_append_left _ hu)
    · exact same hb
    · exact (hnew _ (by simp) b hb).elim same newer
    · exact (hnew _ (by simp) b hb).elim same newer
    · exact (hnew _ (by simp) b hb).elim same newer
    · simp [Value.ownBlock] at hb
    · exact old (List.mem_append_right _ hu)

set_option maxRecDepth 100000 in
set_option maxHeartbeats 4000000 in
theorem chain_any (B0 bw : Nat) (vi vc : Value) (ni nc : Nat) (xi xc : List Value) (base : Nat) (r : Value) (R : List (List Int)) (w : World) (hB : Book B0 w bw vi vc ni nc xi xc) (ho : Outl base w r R) (hb0 : B0 ≤ base) (hb : base ≤ w.heap.size) (hn : R.length ≤ 4000000) (hR : ∀ c ∈ R, c.length ≤ 4000000) (hni : ni + R.length < 4000000) (hnc : nc < 4000000)
    (hfree : ∀ u ∈ xi ++ xc, ∀ b, u.ownBlock = some b → b < base) :
    Calls Tryz.prog 28 #[.pointer (some ⟨bw, 2, none⟩), r] w fun e w' => ∃ vi' vc' xi' xc', e = .returned (.tuple #[]) ∧ Book B0 w' bw vi' vc' (ni + R.length) (nc + 1) xi' xc' ∧ Only (fun b => B0 ≤ b) w w' := by
  obtain ⟨i58, hi, hz0, hz1, hz2⟩ := info_parts Tryz.info58
  obtain ⟨n, ms, hr⟩ := ho.rows
  obtain ⟨a0, c0, hr0⟩ : ∃ a c, r = .slice a n c := by
    obtain ⟨a, c, h⟩ := (ownsRow_sl hr.own).len
    exact ⟨a, c, by rw [ownsRow_len hr.own] at h; exact h⟩
  subst hr0
  have hmn := hid (ownsRow_len hr.own)
  have hRn := hid hr.len
  have Hap := hid hr.apart
  have L0 : Hid (Left base w (.slice a0 n c0) n ms R 0 (xi ++ xc)) := ⟨hr.own, fun i h h' _ => hr.row i h h', fun u hu b hb' => ⟨fun e => by have := hfree u hu b hb'; have := (hr.own.lt b e).1; omega, fun i h _ e => by have := hfree u hu b hb'; have := ((hr.row i h (by rw [hr.len, ← ownsRow_len hr.own]; exact h)).lt b e).1; omega⟩⟩
  have HB := hid hB
  have HR := hid hR
  have hn2 : n ≤ 4000000 := by rw [← hr.len]; exact hn
  clear ho hB hR hr hfree
  go_enter Tryz.func28, Tryz.ntmps28
  go_wp2
  go_loopw [4] (fun i wr => ∃ (k : Nat) (vi' : Value) (xi' : List Value), k ≤ n ∧ i = .int .i64 k ∧ Book B0 wr bw vi' vc (ni + k) nc xi' xc ∧ Only (fun b => B0 ≤ b) w wr ∧ Left base wr (.slice a0 n c0) n ms R k (xi' ++ xc)) (fun i _ => n - (intOf i).toNat)
  case atStart => exact ⟨0, _, _, Nat.zero_le _, rfl, HB.out, Only.refl _ _, L0.out⟩
  case round =>
    clear L0 HB
    obtain ⟨k, vi1, xi1, hk, rfl, hB, hO, hL⟩ := hrel
    have HB := hid hB
    have HO := hid hO
    have HL := hid hL
    clear hB hO hL
    by_cases hlt : k < n
    · have hkm : k < ms.length := by rw [hmn.out]; exact hlt
      have hkR : k < R.length := by rw [hRn.out]; exact hlt
      have hrow := hid (HL.out.row k hkm hkR (Nat.le_refl _))
      have hlen := HR.out _ (List.getElem_mem hkR)
      obtain ⟨g, cap, hsh⟩ := own_shape HL.out.own (by omega)
      simp only [Value.slice.injEq] at hsh
      obtain ⟨rfl, _, rfl⟩ := hsh
      have hcell := HL.out.own.cellAt k (by omega)
      rw [List.getElem?_eq_getElem hkm] at hcell
      have hfr : Hid (∀ u ∈ xi1 ++ xc, ∀ b, ms[k].ownBlock = some b → u.ownBlock ≠ some b) := fun u hu b hb' e => (HL.out.free u hu b e).2 k hkm (Nat.le_refl _) hb'
      have hszb : base ≤ wr.heap.size := Nat.le_trans hb HO.out.size
      have hb0k : Hid (∀ b, ms[k].ownBlock = some b → B0 ≤ b) := fun b hb' => Nat.le_trans hb0 ((hrow.out.lt b hb').1)
      go_wp2_with fail
      refine (bookInt_any B0 bw vi1 vc (ni + k) nc xi1 xc base ms[k] _ _ _ HB.out hrow.out hszb hlen (by have := hRn.out; omega) hfr.out).mono ?_
      rintro e w2 ⟨vi2, o1, o2, o3, rfl, hB2, hO2, hnew⟩
      have HL2 := hid (HL.out.step HB.out hkm hkR (by rw [hRn.out, hmn.out]) Hap.out hO2 (q := ((ni + k : Nat) : Int)) hnew)
      have HB2 := hid hB2
      have HO2 := hid (HO.out.trans (hO2.mono fun b _ e => by
        rcases e with rfl | e | e
        · exact HB.out.b0
        · exact (HB.out.oi.lt b e).1
        · exact hb0k.out b e))
      clear hB2 hO2 hnew HB HO HL hfr hb0k hrow
      go_wp2
      go_roundw
      case rel => exact ⟨k + 1, _, _, by omega, by go_num, HB2.out, HO2.out, HL2.out⟩
      case measure => simp [intOf]; omega
    · have hkn : k = n := by omega
      subst hkn
      have hRk : Hid (ni + R.length = ni + k) := by unfold Hid; rw [hRn.out]
      obtain ⟨ai, ci, hvc⟩ : ∃ a c, vc = .slice a nc c := by
        rcases HB.out.oc.2 with ⟨e, e'⟩ | ⟨g, cap, cur, e, _⟩
        · exact ⟨_, _, by rw [e, e']⟩
        · exact ⟨_, _, e⟩
      subst hvc
      have c4 := cell_of_row wr bw 4 _ 35 (0, 0) HB.out.blk
      simp at c4
      have hszb : base ≤ wr.heap.size := Nat.le_trans hb HO.out.size
      have hown := hid HL.out.own
      go_wp2_with fail
      refine (ownChains_any base _ k ms nc _ hown.out hszb hn2 (by omega)).mono ?_
      rintro e w1 ⟨o1, o2, o3, rfl, ho1, hm1, hbl1, ⟨a1, c1, a2, c2, a3, c3', rfl, rfl, rfl⟩, hMb⟩
      have hBn : ∀ b, (Value.slice a0 k c0).ownBlock = some b → ¬ b = bw := fun b hb e => own_ne_block hown.out HB.out.blk (by decide) (by rw [hb, e])
      have hB1 : Book B0 w1 bw vi1 _ (ni + k) nc xi1 xc := HB.out.only ho1 (fun e => hBn bw e rfl) (fun b hb e => ownsRow_type hown.out HB.out.oi (by decide) b e hb) (fun b hb e => ownsRow_type hown.out HB.out.oc (by decide) b e hb) (fun u hu b hb e => (HL.out.free u hu b hb).1 e)
      have hB2 := hB1.bl ((Bl.refl _).alloc (.cells #[.slice a0 k c0, .slice (some a1) (k + 1) c1, .slice (some a2) (k + 2) c2, .slice (some a3) (k + 3) c3', .slice (some ⟨wr.heap.size + 1, 0, none⟩) 2 2] 58))
      have hX := heap_alloc_new w1 (.cells #[.slice a0 k c0, .slice (some a1) (k + 1) c1, .slice (some a2) (k + 2) c2, .slice (some a3) (k + 3) c3', .slice (some ⟨wr.heap.size + 1, 0, none⟩) 2 2] 58)
      have hO2 := ho1.alloc (.cells #[.slice a0 k c0, .slice (some a1) (k + 1) c1, .slice (some a2) (k + 2) c2, .slice (some a3) (k + 3) c3', .slice (some ⟨wr.heap.size + 1, 0, none⟩) 2 2] 58)
      have hM2 := hm1.only (Only.of_bl (S := fun _ => False) ((Bl.refl _).alloc (.cells #[.slice a0 k c0, .slice (some a1) (k + 1) c1, .slice (some a2) (k + 2) c2, .slice (some a3) (k + 3) c3', .slice (some ⟨wr.heap.size + 1, 0, none⟩) 2 2] 58))) (fun _ _ _ _ e => e)
      have hs2 : w1.heap.size < (w1.alloc (.cells #[.slice a0 k c0, .slice (some a1) (k + 1) c1, .slice (some a2) (k + 2) c2, .slice (some a3) (k + 3) c3', .slice (some ⟨wr.heap.size + 1, 0, none⟩) 2 2] 58)).heap.size := by simp
      have hMb2 := (Below.heap_alloc w1 (.cells #[.slice a0 k c0, .slice (some a1) (k + 1) c1, .slice (some a2) (k + 2) c2, .slice (some a3) (k + 3) c3', .slice (some ⟨wr.heap.size + 1, 0, none⟩) 2 2] 58) _ (Array.getElem?_eq_some_iff.1 hMb).1).trans hMb
      have H0 := hid hO2
      have H1 := hid hM2
      have H2 := hid hB2
      have H5 := hid hMb2
      have nxb := hid (fun (e : (Value.slice ai nc ci).ownBlock = some w1.heap.size) => Nat.lt_irrefl _ (hB1.oc.lt _ e).2)
      clear hB1 hO2 hM2 hbl1 hm1 ho1 c4 hBn hMb hMb2
      go_wp2
      generalize w1.alloc (.cells #[.slice a0 k c0, .slice (some a1) (k + 1) c1, .slice (some a2) (k + 2) c2, .slice (some a3) (k + 3) c3', .slice (some ⟨wr.heap.size + 1, 0, none⟩) 2 2] 58) = W at *
      generalize w1.heap.size = xb at *
      generalize wr.heap.size + 1 = MM at *
      have p0 := cell_of_row W xb 0 _ 58 (0, 0) hX
      have p1 := cell_of_row W xb 1 _ 58 (0, 0) hX
      have p2 := cell_of_row W xb 2 _ 58 (0, 0) hX
      have p3 := cell_of_row W xb 3 _ 58 (0, 0) hX
      have p4 := cell_of_row W xb 4 _ 58 (0, 0) hX
      have pb := cell_of_row W bw 4 _ 35 (0, 0) hB2.blk
      have pf := frozen_of_row W bw 4 _ 35 hB2.blk
      simp at p0 p1 p2 p3 p4 pb
      have hoi := hid hB2.oc
      have lbw := hB2.lt
      have lb0 := hB2.b0
      have nbw := hid (own_ne_block hB2.oc hB2.blk (by decide))
      have hby : Hid ((nc + 1) * 120 ≤ 140737488355328) := by unfold Hid; omega
      have hml : Hid (nc + 1 ≤ maxLen) := by unfold Hid maxLen; omega
      clear hB2 hX
      go_region_law
        ((refine step_append_lies _ (by rfl) _ _ _ (by rfl) B0 58 i58 _ 5 120 Tryz.underlying31 hi hz0 hz1 hz2 rfl (by omega) _ nc xc (by rfl) ((hoi.out.alloc _).drew)
              ⟨W.heap.size, 0, none⟩ 1 1 [.slice a0 k c0, .slice (some a1) (k + 1) c1, .slice (some a2) (k + 2) c2, .slice (some a3) (k + 3) c3', .slice (some ⟨MM, 0, none⟩) 2 2] (by rfl) (by rfl) (World.news_of_block (cs := #[.slice a0 k c0, .slice (some a1) (k + 1) c1, .slice (some a2) (k + 2) c2, .slice (some a3) (k + 3) c3', .slice (some ⟨MM, 0, none⟩) 2 2]) (t := 58) (fr := (0, 0)) (heap_alloc_new W _)) (by simp [Value.oneCell'])
              (by omega) hml.out hby.out (by simp; omega) (W.heap.size + 1) (by simp) ?_; intro gg cap w3 hown3 hgrow hat hlt; have kc := (far (((Bl.refl W).alloc _).drew) hgrow (o := 4) lbw nbw.out).1.trans pb; have kf := (far (((Bl.refl W).alloc _).drew) hgrow (o := 4) lbw nbw.out).2.trans pf; have k0 := (far (((Bl.refl W).alloc _).drew) hgrow (o := 0) hs2 nxb.out).1.trans p0; have k1 := (far (((Bl.refl W).alloc _).drew) hgrow (o := 1) hs2 nxb.out).1.trans p1; have k2 := (far (((Bl.refl W).alloc _).drew) hgrow (o := 2) hs2 nxb.out).1.trans p2; have k3 := (far (((Bl.refl W).alloc _).drew) hgrow (o := 3) hs2 nxb.out).1.trans p3; have k4 := (far (((Bl.refl W).alloc _).drew) hgrow (o := 4) hs2 nxb.out).1.trans p4))
      all_goals
        go_end0
        obtain ⟨B1, B2⟩ := H2.out.pushC H1.out H5.out hn2 (((Bl.refl W).alloc _).drew) hgrow hown3
        refine ⟨_, _, _, _, rfl, by rw [hRk.out]; exact B1, ?_⟩
        refine HO.out.trans ((H0.out.mono fun b _ e => ?_).trans (B2.mono fun b _ e => ?_))
        · exact Nat.le_trans hb0 (hown.out.lt b e).1
        · rcases e with rfl | e
          · exact lb0
          · exact (HB.out.oc.lt b e).1

end Go.Proofs.YtkgjpfamjedncaaGreat
