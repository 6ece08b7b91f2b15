/-
  The book of the lists of bytes that came out.
-/
import Derived.Test.YtkgjpfamjedncaaGreatOwnB
namespace Go.Proofs.YtkgjpfamjedncaaGreat
open Go.RowKit
attribute [local go_sem ↓] Go.wp_at_zero Go.wp_at_succ
theorem Tryz.info54 : (Tryz.prog.info? 54).map (fun i => (i.zero, i.size, i.bytes)) = some (some (.agg #[.slice none 0 0, .slice none 0 0, .slice none 0 0, .slice none 0 0, .int .i64 0]), 5, 104) := by kernel_rfl

/-- Place k of the list of marked lists of bytes. -/
def EntB (w : World) (k : Nat) (xb : List Value) : Prop :=
  ∃ n v o1 o2 o3, n ≤ 40000000 ∧ xb[k * 5]? = some v ∧ xb[k * 5 + 1]? = some o1 ∧ xb[k * 5 + 2]? = some o2 ∧ xb[k * 5 + 3]? = some o3 ∧ xb[k * 5 + 4]? = some (.int .i64 k) ∧ MarkI w 0 n 5 (.int .u8 (k % 251 : Nat)) v o1 o2 o3
/-- The book of bytes, in the world's block bw. -/
structure BookB (B0 : Nat) (w : World) (bw : Nat) (kl vl bl il cl : Value) (nb : Nat) (xb : List Value) : Prop where
  b0 : B0 ≤ bw
  blk : w.heap[bw]? = some (.cells #[kl, vl, bl, il, cl] 35 (0, 0))
  ob : w.ownsRow B0 54 5 bl nb xb
  eb : ∀ k, k < nb → EntB w k xb
theorem MarkI.only {S : Nat → Prop} {w w' : World} {base n : Nat} {e : TypeId} {x v o1 o2 o3 : Value} (h : MarkI w base n e x v o1 o2 o3) (ho : Only S w w') (hs : ∀ u ∈ [v, o1, o2, o3], ∀ b, u.ownBlock = some b → ¬ S b) : MarkI w' base n e x v o1 o2 o3 :=
  ⟨ho.owns h.h0 (hs v (by simp)), ho.owns h.h1 (hs o1 (by simp)), ho.owns h.h2 (hs o2 (by simp)), ho.owns h.h3 (hs o3 (by simp))⟩
theorem MarkI.base {w : World} {base base' n : Nat} {e : TypeId} {x v o1 o2 o3 : Value} (h : MarkI w base n e x v o1 o2 o3) (hb : base' ≤ base) : MarkI w base' n e x v o1 o2 o3 :=
  ⟨ownsRow_base h.h0 fun b hb' => Nat.le_trans hb (h.h0.lt b hb').1, ownsRow_base h.h1 fun b hb' => Nat.le_trans hb (h.h1.lt b hb').1, ownsRow_base h.h2 fun b hb' => Nat.le_trans hb (h.h2.lt b hb').1, ownsRow_base h.h3 fun b hb' => Nat.le_trans hb (h.h3.lt b hb').1⟩
theorem mem_of_get {xs : List Value} {k : Nat} {v : Value} (h : xs[k]? = some v) : v ∈ xs := by
  obtain ⟨hk, rfl⟩ := List.getElem?_eq_some_iff.1 h
  exact List.getElem_mem hk
theorem EntB.only {S : Nat → Prop} {w w' : World} {k : Nat} {xb : List Value} (h : EntB w k xb) (ho : Only S w w') (hs : ∀ u ∈ xb, ∀ b, u.ownBlock = some b → ¬ S b) : EntB w' k xb := by
  obtain ⟨n, v, o1, o2, o3, hn, e0, e1, e2, e3, e4, hm⟩ := h
  refine ⟨n, v, o1, o2, o3, hn, e0, e1, e2, e3, e4, hm.only ho fun u hu => ?_⟩
  simp at hu
  rcases hu with rfl | rfl | rfl | rfl
  · exact hs _ (mem_of_get e0)
  · exact hs _ (mem_of_get e1)
  · exact hs _ (mem_of_get e2)
  · exact hs _ (mem_of_get e3)
theorem get_app {xs ys : List Value} {i : Nat} {v : Value} (h : xs[i]? = some v) : (xs ++ ys)[i]? = some v := by
  rw [List.getElem?_append_left (List.getElem?_eq_some_iff.1 h).1]; exact h
theorem EntB.app {w : World} {k : Nat} {xb ys : List Value} (h : EntB w k xb) : EntB w k (xb ++ ys) := by
  obtain ⟨n, v, o1, o2, o3, hn, e0, e1, e2, e3, e4, hm⟩ := h
  exact ⟨n, v, o1, o2, o3, hn, get_app e0, get_app e1, get_app e2, get_app e3, get_app e4, hm⟩
theorem BookB.lt {B0 : Nat} {w : World} {bw : Nat} {kl vl bl il cl : Value} {nb : Nat} {xb : List Value} (h : BookB B0 w bw kl vl bl il cl nb xb) : bw < w.heap.size := (Array.getElem?_eq_some_iff.1 h.blk).1
theorem BookB.only {S : Nat → Prop} {B0 : Nat} {w w' : World} {bw : Nat} {kl vl bl il cl : Value} {nb : Nat} {xb : List Value} (h : BookB B0 w bw kl vl bl il cl nb xb) (ho : Only S w w') (hbw : ¬ S bw) (hbl : ∀ b, bl.ownBlock = some b → ¬ S b) (hs : ∀ u ∈ xb, ∀ b, u.ownBlock = some b → ¬ S b) : BookB B0 w' bw kl vl bl il cl nb xb :=
  ⟨h.b0, by rw [ho.block bw h.lt hbw]; exact h.blk, ho.owns h.ob hbl, fun k hk => (h.eb k hk).only ho hs⟩
theorem BookB.bl {B0 : Nat} {w w' : World} {bw : Nat} {kl vl bl il cl : Value} {nb : Nat} {xb : List Value} (h : BookB B0 w bw kl vl bl il cl nb xb) (ho : Bl w w') : BookB B0 w' bw kl vl bl il cl nb xb :=
  h.only (Only.of_bl (S := fun _ => False) ho) (fun e => e) (fun _ _ e => e) (fun _ _ _ _ e => e)
/-- What a mark owns is of bytes. -/
theorem EntB.type {w : World} {k : Nat} {xb : List Value} (h : EntB w k xb) {S : Nat → Prop} {w' : World} (hS : ∀ x, S x → ∃ c t f, w.heap[x]? = some (.cells c t f) ∧ t ≠ 5) (ho : Only S w w') : EntB w' k xb := by
  obtain ⟨n, v, o1, o2, o3, hn, e0, e1, e2, e3, e4, hm⟩ := h
  have key : ∀ v n xs, w.ownsRow 0 5 1 v n xs → ∀ b, v.ownBlock = some b → ¬ S b := by
    intro v n xs hv b hb hs
    obtain ⟨c, t, f, h1, h2⟩ := hS b hs
    exact own_ne_block hv h1 (Ne.symm h2) hb
  exact ⟨n, v, o1, o2, o3, hn, e0, e1, e2, e3, e4, ⟨ho.owns hm.h0 (key _ _ _ hm.h0), ho.owns hm.h1 (key _ _ _ hm.h1), ho.owns hm.h2 (key _ _ _ hm.h2), ho.owns hm.h3 (key _ _ _ hm.h3)⟩⟩
theorem BookB.push {B0 : Nat} {W W' w3 : World} {bw : Nat} {kl vl bl il cl : Value} {nb : Nat} {xb : List Value} (h : BookB B0 W bw kl vl bl il cl nb xb) {base n : Nat} {v o1 o2 o3 : Value} (hm : MarkI W base n 5 (.int .u8 (nb % 251 : Nat)) v o1 o2 o3) (hn : n ≤ 40000000) (hb : Bl W W') (hg : W'.grownBy w3 bl.ownBlock) {gg cap : Nat}
    (ho : w3.ownsRow B0 54 5 (.slice (some ⟨gg, 0, none⟩) (nb + 1) cap) (nb + 1) (xb ++ [v, o1, o2, o3, .int .i64 nb])) :
    BookB B0 (w3.setCell ⟨bw, 2, none⟩ (.slice (some ⟨gg, 0, none⟩) (nb + 1) cap)) bw kl vl (.slice (some ⟨gg, 0, none⟩) (nb + 1) cap) il cl (nb + 1) (xb ++ [v, o1, o2, o3, .int .i64 nb]) ∧
    Only (fun b => b = bw ∨ bl.ownBlock = some b) W (w3.setCell ⟨bw, 2, none⟩ (.slice (some ⟨gg, 0, none⟩) (nb + 1) cap)) := by
  have nvi := own_ne_block h.ob h.blk (by decide)
  have o1' : Only (fun b => b = bw ∨ bl.ownBlock = some b) W w3 := (Only.of_bl hb).trans ((Only.of_grown hg).mono fun k _ e => .inr e.symm)
  have O := o1'.setCell ⟨bw, 2, none⟩ (.inl (.inl rfl)) (.slice (some ⟨gg, 0, none⟩) (nb + 1) cap)
  have hbw3 : w3.heap[bw]? = some (.cells #[kl, vl, bl, il, cl] 35 (0, 0)) := by
    have h1 := hg.block bw (Nat.lt_of_lt_of_le h.lt hb.lt) (fun e => nvi e.symm)
    rw [h1, hb.heap h.lt]; exact h.blk
  have hS : ∀ x, (x = bw ∨ bl.ownBlock = some x) → ∃ c t f, W.heap[x]? = some (.cells c t f) ∧ t ≠ 5 := by
    rintro b (rfl | hb')
    · exact ⟨_, _, _, h.blk, by decide⟩
    · obtain ⟨c, hc⟩ := own_type h.ob b hb'
      exact ⟨_, _, _, hc, by decide⟩
  have hxl : xb.length = nb * 5 := h.ob.1
  have key : ∀ v n xs, W.ownsRow base 5 1 v n xs → ∀ b, v.ownBlock = some b → ¬ (b = bw ∨ bl.ownBlock = some b) := by
    intro v n xs hv b hb hs
    obtain ⟨c, t, f, h1, h2⟩ := hS b hs
    exact own_ne_block hv h1 (Ne.symm h2) hb
  refine ⟨⟨h.b0, ?_, ?_, fun k hk => ?_⟩, O⟩
  · exact heap_setCell_same w3 bw 2 _ 35 _ hbw3
  · exact ownsRow_of ho fun b hb' => Below.heap_setCell _ _ _ _ (fun e => own_ne_block ho hbw3 (by decide) (by rw [hb', e]))
  · by_cases e : k < nb
    · exact ((h.eb k e).type hS O).app
    · have : k = nb := by omega
      subst this
      have hm' : MarkI (w3.setCell ⟨bw, 2, none⟩ (.slice (some ⟨gg, 0, none⟩) (k + 1) cap)) base n 5 (.int .u8 (k % 251 : Nat)) v o1 o2 o3 := ⟨O.owns hm.h0 (key _ _ _ hm.h0), O.owns hm.h1 (key _ _ _ hm.h1), O.owns hm.h2 (key _ _ _ hm.h2), O.owns hm.h3 (key _ _ _ hm.h3)⟩
      refine ⟨n, v, o1, o2, o3, hn, ?_, ?_, ?_, ?_, ?_, hm'.base (Nat.zero_le _)⟩ <;> (rw [List.getElem?_append_right (by omega)]; simp [hxl])

set_option maxRecDepth 100000 in
set_option maxHeartbeats 2000000 in
theorem bookByte_any (B0 bw : Nat) (kl vl bl il cl : Value) (nb : Nat) (xb : List Value) (base : Nat) (v : Value) (n : Nat) (xs : List Value) (w : World) (hB : BookB B0 w bw kl vl bl il cl nb xb) (hown : w.ownsRow base 5 1 v n xs) (hb : base ≤ w.heap.size) (hn : n ≤ 40000000) (hni : nb < 4000000) (hfree : ∀ u ∈ xb, ∀ b, v.ownBlock = some b → u.ownBlock ≠ some b) :
    Calls Tryz.prog 36 #[.pointer (some ⟨bw, 2, none⟩), v] w fun e w' => ∃ bl' o1 o2 o3, e = .returned (.tuple #[]) ∧ BookB B0 w' bw kl vl bl' il cl (nb + 1) (xb ++ [v, o1, o2, o3, .int .i64 nb]) ∧ (∀ b, bl'.ownBlock = some b → bl.ownBlock = some b ∨ w.heap.size ≤ b) ∧
      Only (fun b => b = bw ∨ bl.ownBlock = some b ∨ v.ownBlock = some b) w w' ∧ (∀ u ∈ [o1, o2, o3], ∀ b, u.ownBlock = some b → v.ownBlock = some b ∨ w.heap.size ≤ b) := by
  obtain ⟨i56, hi, hz0, hz1, hz2⟩ := info_parts Tryz.info54
  obtain ⟨ai, ci, hbl0⟩ : ∃ a c, bl = .slice a nb c := by
    rcases hB.ob.2 with ⟨e, e'⟩ | ⟨g, cap, cur, e, _⟩
    · exact ⟨_, _, by rw [e, e']⟩
    · exact ⟨_, _, e⟩
  subst hbl0
  obtain ⟨a0, c0, hv0⟩ : ∃ a c, v = .slice a n c := by
    obtain ⟨a, c, h⟩ := (ownsRow_sl hown).len
    exact ⟨a, c, by rw [ownsRow_len hown] at h; exact h⟩
  subst hv0
  have c3 := cell_of_row w bw 2 _ 35 (0, 0) hB.blk
  simp at c3
  have HB := hid hB
  clear hB
  go_enter Tryz.func36, Tryz.ntmps36
  go_wp2_with fail
  refine (ownBytes_any base _ n xs nb _ hown hb hn (by omega)).mono ?_
  rintro e w1 ⟨o1, o2, o3, rfl, ho1, hm1, hbl1, a1, c1, a2, c2, a3, c3', rfl, rfl, rfl⟩
  have hBn : ∀ b, (Value.slice a0 n c0).ownBlock = some b → ¬ b = bw := fun b hb e => own_ne_block hown HB.out.blk (by decide) (by rw [hb, e])
  have hB1 : BookB B0 w1 bw kl vl _ il cl nb xb := HB.out.only ho1 (fun e => hBn bw e rfl) (fun b hb e => ownsRow_type hown HB.out.ob (by decide) b e hb) (fun u hu b hb e => hfree u hu b e hb)
  have hB2 := hB1.bl ((Bl.refl _).alloc (.cells #[.slice a0 n c0, .slice (some a1) (n + 1) c1, .slice (some a2) (n + 2) c2, .slice (some a3) (n + 3) c3', .int .i64 nb] 54))
  have hX := heap_alloc_new w1 (.cells #[.slice a0 n c0, .slice (some a1) (n + 1) c1, .slice (some a2) (n + 2) c2, .slice (some a3) (n + 3) c3', .int .i64 nb] 54)
  have hO2 := ho1.alloc (.cells #[.slice a0 n c0, .slice (some a1) (n + 1) c1, .slice (some a2) (n + 2) c2, .slice (some a3) (n + 3) c3', .int .i64 nb] 54)
  have hM2 := hm1.only (Only.of_bl (S := fun _ => False) ((Bl.refl _).alloc (.cells #[.slice a0 n c0, .slice (some a1) (n + 1) c1, .slice (some a2) (n + 2) c2, .slice (some a3) (n + 3) c3', .int .i64 nb] 54))) (fun _ _ _ _ e => e)
  have hs2 : w1.heap.size < (w1.alloc (.cells #[.slice a0 n c0, .slice (some a1) (n + 1) c1, .slice (some a2) (n + 2) c2, .slice (some a3) (n + 3) c3', .int .i64 nb] 54)).heap.size := by simp
  have H0 := hid hO2
  have H1 := hid hM2
  have H2 := hid hB2
  have H3 := hid hbl1
  have H4 := hid ho1.size
  have nxb := hid (fun (e : (Value.slice ai nb ci).ownBlock = some w1.heap.size) => Nat.lt_irrefl _ (hB1.ob.lt _ e).2)
  clear hB1 hO2 hM2 hbl1 hm1 ho1 c3 hBn
  go_wp2
  generalize w1.alloc (.cells #[.slice a0 n c0, .slice (some a1) (n + 1) c1, .slice (some a2) (n + 2) c2, .slice (some a3) (n + 3) c3', .int .i64 nb] 54) = W at *
  generalize w1.heap.size = bk9 at *
  have p0 := cell_of_row W bk9 0 _ 54 (0, 0) hX
  have p1 := cell_of_row W bk9 1 _ 54 (0, 0) hX
  have p2 := cell_of_row W bk9 2 _ 54 (0, 0) hX
  have p3 := cell_of_row W bk9 3 _ 54 (0, 0) hX
  have p4 := cell_of_row W bk9 4 _ 54 (0, 0) hX
  have pb := cell_of_row W bw 2 _ 35 (0, 0) hB2.blk
  have pf := frozen_of_row W bw 2 _ 35 hB2.blk
  simp at p0 p1 p2 p3 p4 pb
  have hoi := hid hB2.ob
  have lbw := hB2.lt
  have lb0 := hB2.b0
  have nbw := hid (own_ne_block hB2.ob hB2.blk (by decide))
  have hby : Hid ((nb + 1) * 104 ≤ 140737488355328) := by unfold Hid; omega
  have hml : Hid (nb + 1 ≤ maxLen) := by unfold Hid maxLen; omega
  clear hB2 hX
  go_region_law
    ((refine step_append_lies _ (by rfl) _ _ _ (by rfl) B0 54 i56 _ 5 104 Tryz.underlying29 hi hz0 hz1 hz2 rfl (by omega) _ nb xb (by rfl) ((hoi.out.alloc _).drew)
        ⟨W.heap.size, 0, none⟩ 1 1 [.slice a0 n c0, .slice (some a1) (n + 1) c1, .slice (some a2) (n + 2) c2, .slice (some a3) (n + 3) c3', .int .i64 nb] (by rfl) (by rfl) (World.news_of_block (cs := #[.slice a0 n c0, .slice (some a1) (n + 1) c1, .slice (some a2) (n + 2) c2, .slice (some a3) (n + 3) c3', .int .i64 nb]) (t := 54) (fr := (0, 0)) (heap_alloc_new W _)) (by simp [Value.oneCell'])
        (by omega) hml.out hby.out (by simp; omega) (W.heap.size + 1) (by simp) ?_; intro gg cap w3 hown3 hgrow hat hlt; have kc := (far (((Bl.refl W).alloc _).drew) hgrow (o := 2) lbw nbw.out).1.trans pb; have kf := (far (((Bl.refl W).alloc _).drew) hgrow (o := 2) lbw nbw.out).2.trans pf; have k0 := (far (((Bl.refl W).alloc _).drew) hgrow (o := 0) hs2 nxb.out).1.trans p0; have k1 := (far (((Bl.refl W).alloc _).drew) hgrow (o := 1) hs2 nxb.out).1.trans p1; have k2 := (far (((Bl.refl W).alloc _).drew) hgrow (o := 2) hs2 nxb.out).1.trans p2; have k3 := (far (((Bl.refl W).alloc _).drew) hgrow (o := 3) hs2 nxb.out).1.trans p3; have k4 := (far (((Bl.refl W).alloc _).drew) hgrow (o := 4) hs2 nxb.out).1.trans p4))
  all_goals
    go_end0
    obtain ⟨B1, B2⟩ := H2.out.push H1.out hn (((Bl.refl W).alloc _).drew) hgrow hown3
    refine ⟨_, _, _, _, rfl, B1, ?_, ?_, ?_⟩
    · intro b hb'
      simp [Value.ownBlock] at hb'
      subst hb'
      rcases hat with h | h
      · exact .inl h
      · exact .inr (by have := H4.out; omega)
    · exact (H0.out.mono fun k _ e => .inr (.inr e)).trans (B2.mono fun k _ e => e.imp id .inl)
    · intro u hu b hb'
      refine H3.out b ?_
      simp at hu
      rcases hu with rfl | rfl | rfl
      · exact .inl hb'
      · exact .inr (.inl hb')
      · exact .inr (.inr hb')
end Go.Proofs.YtkgjpfamjedncaaGreat
