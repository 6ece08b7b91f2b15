/-
  The book of the lists that came out.
-/
import Derived.Test.YtkgjpfamjedncaaGreatOwnMark
namespace Go.Proofs.YtkgjpfamjedncaaGreat
open Go.RowKit
attribute [local go_sem ↓] Go.wp_at_zero Go.wp_at_succ
theorem Tryz.info56 : (Tryz.prog.info? 56).map (fun i => (i.zero, i.size, i.bytes)) = some (some (.agg #[.slice none 0 0, .slice none 0 0, .slice none 0 0, .slice none 0 0, .int .i64 0]), 5, 104) := by kernel_rfl
theorem Tryz.info58 : (Tryz.prog.info? 58).map (fun i => (i.zero, i.size, i.bytes)) = some (some (.agg #[.slice none 0 0, .slice none 0 0, .slice none 0 0, .slice none 0 0, .slice none 0 0]), 5, 120) := by kernel_rfl

/-- Place k of the list of marked lists of numbers. -/
def EntI (w : World) (k : Nat) (xi : List Value) : Prop :=
  ∃ n v o1 o2 o3, n ≤ 4000000 ∧ xi[k * 5]? = some v ∧ xi[k * 5 + 1]? = some o1 ∧ xi[k * 5 + 2]? = some o2 ∧ xi[k * 5 + 3]? = some o3 ∧ xi[k * 5 + 4]? = some (.int .i64 k) ∧ MarkI w 0 n 3 (.int .i64 (-1000 - k)) v o1 o2 o3
/-- Place k of the list of marked lists of lists. -/
def EntC (w : World) (k : Nat) (xc : List Value) : Prop :=
  ∃ n v o1 o2 o3 M, n ≤ 4000000 ∧ xc[k * 5]? = some v ∧ xc[k * 5 + 1]? = some o1 ∧ xc[k * 5 + 2]? = some o2 ∧ xc[k * 5 + 3]? = some o3 ∧ xc[k * 5 + 4]? = some (.slice (some ⟨M, 0, none⟩) 2 2) ∧
    MarkI w 0 n 24 (.slice (some ⟨M, 0, none⟩) 2 2) v o1 o2 o3 ∧ w.heap[M]? = some (.cells #[.int .i64 (-1000 - k), .int .i64 99] 3 (0, 0))

/-- The book, in the world's block bw. -/
structure Book (B0 : Nat) (w : World) (bw : Nat) (vi vc : Value) (ni nc : Nat) (xi xc : List Value) : Prop where
  b0 : B0 ≤ bw
  blk : w.heap[bw]? = some (.cells #[.slice none 0 0, .slice none 0 0, .slice none 0 0, vi, vc] 35 (0, 0))
  oi : w.ownsRow B0 56 5 vi ni xi
  oc : w.ownsRow B0 58 5 vc nc xc
  ei : ∀ k, k < ni → EntI w k xi
  ec : ∀ k, k < nc → EntC w k xc

theorem MarkI.only {S : Nat → Prop} {w w' : World} {base n : Nat} {e : TypeId} {x v o1 o2 o3 : Value} (h : MarkI w base n e x v o1 o2 o3) (ho : Only S w w') (hs : ∀ u ∈ [v, o1, o2, o3], ∀ b, u.ownBlock = some b → ¬ S b) : MarkI w' base n e x v o1 o2 o3 :=
  ⟨ho.owns h.h0 (hs v (by simp)), ho.owns h.h1 (hs o1 (by simp)), ho.owns h.h2 (hs o2 (by simp)), ho.owns h.h3 (hs o3 (by simp))⟩
theorem mem_of_get {xs : List Value} {k : Nat} {v : Value} (h : xs[k]? = some v) : v ∈ xs := by
  obtain ⟨hk, rfl⟩ := List.getElem?_eq_some_iff.1 h
  exact List.getElem_mem hk
theorem EntI.only {S : Nat → Prop} {w w' : World} {k : Nat} {xi : List Value} (h : EntI w k xi) (ho : Only S w w') (hs : ∀ u ∈ xi, ∀ b, u.ownBlock = some b → ¬ S b) : EntI w' k xi := by
  obtain ⟨n, v, o1, o2, o3, hn, e0, e1, e2, e3, e4, hm⟩ := h
  refine ⟨n, v, o1, o2, o3, hn, e0, e1, e2, e3, e4, hm.only ho fun u hu => ?_⟩
  simp at hu
  rcases hu with rfl | rfl | rfl | rfl
  · exact hs _ (mem_of_get e0)
  · exact hs _ (mem_of_get e1)
  · exact hs _ (mem_of_get e2)
  · exact hs _ (mem_of_get e3)
theorem EntC.only {S : Nat → Prop} {w w' : World} {k : Nat} {xc : List Value} (h : EntC w k xc) (ho : Only S w w') (hs : ∀ u ∈ xc, ∀ b, u.ownBlock = some b → ¬ S b) : EntC w' k xc := by
  obtain ⟨n, v, o1, o2, o3, M, hn, e0, e1, e2, e3, e4, hm, hM⟩ := h
  refine ⟨n, v, o1, o2, o3, M, hn, e0, e1, e2, e3, e4, hm.only ho fun u hu => ?_, ?_⟩
  · simp at hu
    rcases hu with rfl | rfl | rfl | rfl
    · exact hs _ (mem_of_get e0)
    · exact hs _ (mem_of_get e1)
    · exact hs _ (mem_of_get e2)
    · exact hs _ (mem_of_get e3)
  · rw [ho.block M (Array.getElem?_eq_some_iff.1 hM).1 (hs _ (mem_of_get e4) M rfl)]
    exact hM
theorem Book.only {S : Nat → Prop} {B0 : Nat} {w w' : World} {bw : Nat} {vi vc : Value} {ni nc : Nat} {xi xc : List Value} (h : Book B0 w bw vi vc ni nc xi xc) (ho : Only S w w') (hbw : ¬ S bw) (hvi : ∀ b, vi.ownBlock = some b → ¬ S b) (hvc : ∀ b, vc.ownBlock = some b → ¬ S b) (hs : ∀ u ∈ xi ++ xc, ∀ b, u.ownBlock = some b → ¬ S b) : Book B0 w' bw vi vc ni nc xi xc :=
  ⟨h.b0, by rw [ho.block bw (Array.getElem?_eq_some_iff.1 h.blk).1 hbw]; exact h.blk, ho.owns h.oi hvi, ho.owns h.oc hvc, fun k hk => (h.ei k hk).only ho fun u hu => hs u (List.mem_append_left _ hu), fun k hk => (h.ec k hk).only ho fun u hu => hs u (List.mem_append_right _ hu)⟩
theorem Book.bl {B0 : Nat} {w w' : World} {bw : Nat} {vi vc : Value} {ni nc : Nat} {xi xc : List Value} (h : Book B0 w bw vi vc ni nc xi xc) (ho : Bl w w') : Book B0 w' bw vi vc ni nc xi xc :=
  h.only (Only.of_bl (S := fun _ => False) ho) (fun e => e) (fun _ _ e => e) (fun _ _ e => e) (fun _ _ _ _ e => e)
theorem Book.lt {B0 : Nat} {w : World} {bw : Nat} {vi vc : Value} {ni nc : Nat} {xi xc : List Value} (h : Book B0 w bw vi vc ni nc xi xc) : bw < w.heap.size := (Array.getElem?_eq_some_iff.1 h.blk).1

theorem far {W W' w3 : World} {row : Option Nat} (hb : Bl W W') (hg : W'.grownBy w3 row) {b o : Nat} (hlt : b < W.heap.size) (hne : row ≠ some b) : w3.cell? ⟨b, o, none⟩ = W.cell? ⟨b, o, none⟩ ∧ w3.frozen? ⟨b, o, none⟩ = W.frozen? ⟨b, o, none⟩ :=
  ⟨(hg.cell_far _ (Nat.lt_of_lt_of_le hlt hb.lt) (Ne.symm hne)).trans (hb.cell hlt), (hg.frozen_far _ (Nat.lt_of_lt_of_le hlt hb.lt) (Ne.symm hne)).trans (hb.frozen hlt)⟩

/-- The element type tells an owned row from a block. -/
theorem own_ne_block {w : World} {base : Nat} {e e' : TypeId} {size : Nat} {v : Value} {n : Nat} {xs : List Value} (h : w.ownsRow base e size v n xs) {R : Nat} {c : Array Value} {f : Nat × Nat} (hR : w.heap[R]? = some (.cells c e' f)) (hne : e ≠ e') : v.ownBlock ≠ some R := by
  intro hb
  rcases h.2 with ⟨rfl, _⟩ | ⟨g, cap, cur, rfl, _, hg, _⟩
  · simp [Value.ownBlock] at hb
  · simp [Value.ownBlock] at hb
    subst hb
    rw [hR] at hg
    simp at hg
    exact hne hg.2.1.symm

/-- Blocks of other element types than those of marked lists. -/
def Other (w : World) (S : Nat → Prop) : Prop := ∀ b, S b → ∃ c e f, w.heap[b]? = some (.cells c e f) ∧ e ≠ 3 ∧ e ≠ 24
theorem MarkI.other {S : Nat → Prop} {w w' : World} {base n : Nat} {e : TypeId} {x v o1 o2 o3 : Value} (h : MarkI w base n e x v o1 o2 o3) (he : e = 3 ∨ e = 24) (ho : Only S w w') (hS : Other w S) : MarkI w' base n e x v o1 o2 o3 := by
  have key : ∀ v n xs, w.ownsRow base e 1 v n xs → ∀ b, v.ownBlock = some b → ¬ S b := by
    intro v n xs hv b hb hs
    obtain ⟨c, e', f, h1, h2, h3⟩ := hS b hs
    exact own_ne_block hv h1 (by rcases he with rfl | rfl; exact Ne.symm h2; exact Ne.symm h3) hb
  exact ⟨ho.owns h.h0 (key _ _ _ h.h0), ho.owns h.h1 (key _ _ _ h.h1), ho.owns h.h2 (key _ _ _ h.h2), ho.owns h.h3 (key _ _ _ h.h3)⟩
theorem EntI.other {S : Nat → Prop} {w w' : World} {k : Nat} {xi : List Value} (h : EntI w k xi) (ho : Only S w w') (hS : Other w S) : EntI w' k xi := by
  obtain ⟨n, v, o1, o2, o3, hn, e0, e1, e2, e3, e4, hm⟩ := h
  exact ⟨n, v, o1, o2, o3, hn, e0, e1, e2, e3, e4, hm.other (.inl rfl) ho hS⟩
theorem EntC.other {S : Nat → Prop} {w w' : World} {k : Nat} {xc : List Value} (h : EntC w k xc) (ho : Only S w w') (hS : Other w S) : EntC w' k xc := by
  obtain ⟨n, v, o1, o2, o3, M, hn, e0, e1, e2, e3, e4, hm, hM⟩ := h
  refine ⟨n, v, o1, o2, o3, M, hn, e0, e1, e2, e3, e4, hm.other (.inr rfl) ho hS, ?_⟩
  rw [ho.block M (Array.getElem?_eq_some_iff.1 hM).1 (fun hs => by obtain ⟨c, e', f, h1, h2, h3⟩ := hS M hs; rw [hM] at h1; simp at h1; exact h2 h1.2.1.symm)]
  exact hM
theorem get_app {xs ys : List Value} {i : Nat} {v : Value} (h : xs[i]? = some v) : (xs ++ ys)[i]? = some v := by
  rw [List.getElem?_append_left (List.getElem?_eq_some_iff.1 h).1]; exact h
theorem EntI.app {w : World} {k : Nat} {xi ys : List Value} (h : EntI w k xi) : EntI w k (xi ++ ys) := by
  obtain ⟨n, v, o1, o2, o3, hn, e0, e1, e2, e3, e4, hm⟩ := h
  exact ⟨n, v, o1, o2, o3, hn, get_app e0, get_app e1, get_app e2, get_app e3, get_app e4, hm⟩
theorem EntC.app {w : World} {k : Nat} {xc ys : List Value} (h : EntC w k xc) : EntC w k (xc ++ ys) := by
  obtain ⟨n, v, o1, o2, o3, M, hn, e0, e1, e2, e3, e4, hm, hM⟩ := h
  exact ⟨n, v, o1, o2, o3, M, hn, get_app e0, get_app e1, get_app e2, get_app e3, get_app e4, hm, hM⟩
theorem own_type {w : World} {base : Nat} {e : TypeId} {size : Nat} {v : Value} {n : Nat} {xs : List Value} (h : w.ownsRow base e size v n xs) (b : Nat) (hb : v.ownBlock = some b) : ∃ c, w.heap[b]? = some (.cells c e (0, 0)) := by
  rcases h.2 with ⟨rfl, _⟩ | ⟨g, cap, cur, rfl, _, hg, _⟩
  · simp [Value.ownBlock] at hb
  · simp [Value.ownBlock] at hb
    subst hb
    exact ⟨_, hg⟩
theorem MarkI.base {w : World} {base base' n : Nat} {e : TypeId} {x v o1 o2 o3 : Value} (h : MarkI w base n e x v o1 o2 o3) (hb : base' ≤ base) : MarkI w base' n e x v o1 o2 o3 :=
  ⟨ownsRow_base h.h0 fun b hb' => Nat.le_trans hb (h.h0.lt b hb').1, ownsRow_base h.h1 fun b hb' => Nat.le_trans hb (h.h1.lt b hb').1, ownsRow_base h.h2 fun b hb' => Nat.le_trans hb (h.h2.lt b hb').1, ownsRow_base h.h3 fun b hb' => Nat.le_trans hb (h.h3.lt b hb').1⟩

theorem Book.pushI {B0 : Nat} {W W' w3 : World} {bw : Nat} {vi vc : Value} {ni nc : Nat} {xi xc : List Value} (h : Book B0 W bw vi vc ni nc xi xc) {base n : Nat} {v o1 o2 o3 : Value} (hm : MarkI W base n 3 (.int .i64 (-1000 - ni)) v o1 o2 o3) (hn : n ≤ 4000000) (hb : Bl W W') (hg : W'.grownBy w3 vi.ownBlock) {gg cap : Nat}
    (ho : w3.ownsRow B0 56 5 (.slice (some ⟨gg, 0, none⟩) (ni + 1) cap) (ni + 1) (xi ++ [v, o1, o2, o3, .int .i64 ni])) :
    Book B0 (w3.setCell ⟨bw, 3, none⟩ (.slice (some ⟨gg, 0, none⟩) (ni + 1) cap)) bw (.slice (some ⟨gg, 0, none⟩) (ni + 1) cap) vc (ni + 1) nc (xi ++ [v, o1, o2, o3, .int .i64 ni]) xc ∧
    Only (fun b => b = bw ∨ vi.ownBlock = some b) W (w3.setCell ⟨bw, 3, none⟩ (.slice (some ⟨gg, 0, none⟩) (ni + 1) cap)) := by
  have nvi := own_ne_block h.oi h.blk (by decide)
  have o1' : Only (fun b => b = bw ∨ vi.ownBlock = some b) W w3 := (Only.of_bl hb).trans ((Only.of_grown hg).mono fun k _ e => .inr e.symm)
  have O := o1'.setCell ⟨bw, 3, none⟩ (.inl (.inl rfl)) (.slice (some ⟨gg, 0, none⟩) (ni + 1) cap)
  have hbw3 : w3.heap[bw]? = some (.cells #[.slice none 0 0, .slice none 0 0, .slice none 0 0, vi, vc] 35 (0, 0)) := by
    have h1 := hg.block bw (Nat.lt_of_lt_of_le h.lt hb.lt) (fun e => nvi e.symm)
    rw [h1, hb.heap h.lt]; exact h.blk
  have hS : Other W (fun b => b = bw ∨ vi.ownBlock = some b) := by
    rintro b (rfl | hb')
    · exact ⟨_, _, _, h.blk, by decide, by decide⟩
    · obtain ⟨c, hc⟩ := own_type h.oi b hb'
      exact ⟨_, _, _, hc, by decide, by decide⟩
  have hxl : xi.length = ni * 5 := h.oi.1
  refine ⟨⟨h.b0, ?_, ?_, ?_, fun k hk => ?_, fun k hk => (h.ec k hk).other O hS⟩, O⟩
  · exact heap_setCell_same w3 bw 3 _ 35 _ hbw3
  · exact ownsRow_of ho fun b hb' => Below.heap_setCell _ _ _ _ (fun e => own_ne_block ho hbw3 (by decide) (by rw [hb', e]))
  · refine O.owns h.oc fun b hb' e => ?_
    rcases e with rfl | e
    · exact own_ne_block h.oc h.blk (by decide) hb'
    · exact ownsRow_type h.oc h.oi (by decide) b hb' e
  · by_cases e : k < ni
    · exact ((h.ei k e).other O hS).app
    · have : k = ni := by omega
      subst this
      refine ⟨n, v, o1, o2, o3, hn, ?_, ?_, ?_, ?_, ?_, (hm.other (.inl rfl) O hS).base (Nat.zero_le _)⟩ <;> (rw [List.getElem?_append_right (by omega)]; simp [hxl])

set_option maxRecDepth 100000 in
set_option maxHeartbeats 2000000 in
theorem bookInt_any (B0 bw : Nat) (vi vc : Value) (ni nc : Nat) (xi xc : List Value) (base : Nat) (v : Value) (n : Nat) (xs : List Value) (w : World) (hB : Book B0 w bw vi vc ni nc xi xc) (hown : w.ownsRow base 3 1 v n xs) (hb : base ≤ w.heap.size) (hn : n ≤ 4000000) (hni : ni < 4000000) (hfree : ∀ u ∈ xi ++ xc, ∀ b, v.ownBlock = some b → u.ownBlock ≠ some b) :
    Calls Tryz.prog 65 #[.pointer (some ⟨bw, 2, none⟩), v] w fun e w' => ∃ vi' o1 o2 o3, e = .returned (.tuple #[]) ∧ Book B0 w' bw vi' vc (ni + 1) nc (xi ++ [v, o1, o2, o3, .int .i64 ni]) xc ∧
      Only (fun b => b = bw ∨ vi.ownBlock = some b ∨ v.ownBlock = some b) w w' ∧ (∀ u ∈ [o1, o2, o3], ∀ b, u.ownBlock = some b → v.ownBlock = some b ∨ w.heap.size ≤ b) := by
  obtain ⟨i56, hi, hz0, hz1, hz2⟩ := info_parts Tryz.info56
  obtain ⟨ai, ci, hvi⟩ : ∃ a c, vi = .slice a ni c := by
    rcases hB.oi.2 with ⟨e, e'⟩ | ⟨g, cap, cur, e, _⟩
    · exact ⟨_, _, by rw [e, e']⟩
    · exact ⟨_, _, e⟩
  subst hvi
  obtain ⟨a0, c0, hv0⟩ : ∃ a c, v = .slice a n c := by
    obtain ⟨a, c, h⟩ := (ownsRow_sl hown).len
    exact ⟨a, c, by rw [ownsRow_len hown] at h; exact h⟩
  subst hv0
  have c3 := cell_of_row w bw 3 _ 35 (0, 0) hB.blk
  simp at c3
  have HB := hid hB
  clear hB
  go_enter Tryz.func65, Tryz.ntmps65
  go_wp2_with fail
  refine (ownInts_any base _ n xs ni _ hown hb hn (by omega)).mono ?_
  rintro e w1 ⟨o1, o2, o3, rfl, ho1, hm1, hbl1, a1, c1, a2, c2, a3, c3', rfl, rfl, rfl⟩
  have hBn : ∀ b, (Value.slice a0 n c0).ownBlock = some b → ¬ b = bw := fun b hb e => own_ne_block hown HB.out.blk (by decide) (by rw [hb, e])
  have hB1 : Book B0 w1 bw _ vc ni nc xi xc := HB.out.only ho1 (fun e => hBn bw e rfl) (fun b hb e => ownsRow_type hown HB.out.oi (by decide) b e hb) (fun b hb e => ownsRow_type hown HB.out.oc (by decide) b e hb) (fun u hu b hb e => hfree u hu b e hb)
  have hB2 := hB1.bl ((Bl.refl _).alloc (.cells #[.slice a0 n c0, .slice (some a1) (n + 1) c1, .slice (some a2) (n + 2) c2, .slice (some a3) (n + 3) c3', .int .i64 ni] 56))
  have hX := heap_alloc_new w1 (.cells #[.slice a0 n c0, .slice (some a1) (n + 1) c1, .slice (some a2) (n + 2) c2, .slice (some a3) (n + 3) c3', .int .i64 ni] 56)
  have hO2 := ho1.alloc (.cells #[.slice a0 n c0, .slice (some a1) (n + 1) c1, .slice (some a2) (n + 2) c2, .slice (some a3) (n + 3) c3', .int .i64 ni] 56)
  have hM2 := hm1.only (Only.of_bl (S := fun _ => False) ((Bl.refl _).alloc (.cells #[.slice a0 n c0, .slice (some a1) (n + 1) c1, .slice (some a2) (n + 2) c2, .slice (some a3) (n + 3) c3', .int .i64 ni] 56))) (fun _ _ _ _ e => e)
  have hs2 : w1.heap.size < (w1.alloc (.cells #[.slice a0 n c0, .slice (some a1) (n + 1) c1, .slice (some a2) (n + 2) c2, .slice (some a3) (n + 3) c3', .int .i64 ni] 56)).heap.size := by simp
  have H0 := hid hO2
  have H1 := hid hM2
  have H2 := hid hB2
  have H3 := hid hbl1
  have H4 := hid ho1.size
  have nxb := hid (fun (e : (Value.slice ai ni ci).ownBlock = some w1.heap.size) => Nat.lt_irrefl _ (hB1.oi.lt _ e).2)
  clear hB1 hO2 hM2 hbl1 hm1 ho1 c3 hBn
  go_wp2
  generalize w1.alloc (.cells #[.slice a0 n c0, .slice (some a1) (n + 1) c1, .slice (some a2) (n + 2) c2, .slice (some a3) (n + 3) c3', .int .i64 ni] 56) = W at *
  generalize w1.heap.size = xb at *
  have p0 := cell_of_row W xb 0 _ 56 (0, 0) hX
  have p1 := cell_of_row W xb 1 _ 56 (0, 0) hX
  have p2 := cell_of_row W xb 2 _ 56 (0, 0) hX
  have p3 := cell_of_row W xb 3 _ 56 (0, 0) hX
  have p4 := cell_of_row W xb 4 _ 56 (0, 0) hX
  have pb := cell_of_row W bw 3 _ 35 (0, 0) hB2.blk
  have pf := frozen_of_row W bw 3 _ 35 hB2.blk
  simp at p0 p1 p2 p3 p4 pb
  have hoi := hid hB2.oi
  have lbw := hB2.lt
  have lb0 := hB2.b0
  have nbw := hid (own_ne_block hB2.oi hB2.blk (by decide))
  have hby : Hid ((ni + 1) * 104 ≤ 140737488355328) := by unfold Hid; omega
  have hml : Hid (ni + 1 ≤ maxLen) := by unfold Hid maxLen; omega
  clear hB2 hX
  go_region_law
    ((refine step_append_lies _ (by rfl) _ _ _ (by rfl) B0 56 i56 _ 5 104 Tryz.underlying30 hi hz0 hz1 hz2 rfl (by omega) _ ni xi (by rfl) ((hoi.out.alloc _).drew)
        ⟨W.heap.size, 0, none⟩ 1 1 [.slice a0 n c0, .slice (some a1) (n + 1) c1, .slice (some a2) (n + 2) c2, .slice (some a3) (n + 3) c3', .int .i64 ni] (by rfl) (by rfl) (World.news_of_block (cs := #[.slice a0 n c0, .slice (some a1) (n + 1) c1, .slice (some a2) (n + 2) c2, .slice (some a3) (n + 3) c3', .int .i64 ni]) (t := 56) (fr := (0, 0)) (heap_alloc_new W _)) (by simp [Value.oneCell'])
        (by omega) hml.out hby.out (by simp; omega) (W.heap.size + 1) (by simp) ?_; intro gg cap w3 hown3 hgrow hat hlt; have kc := (far (((Bl.refl W).alloc _).drew) hgrow (o := 3) lbw nbw.out).1.trans pb; have kf := (far (((Bl.refl W).alloc _).drew) hgrow (o := 3) lbw nbw.out).2.trans pf; have k0 := (far (((Bl.refl W).alloc _).drew) hgrow (o := 0) hs2 nxb.out).1.trans p0; have k1 := (far (((Bl.refl W).alloc _).drew) hgrow (o := 1) hs2 nxb.out).1.trans p1; have k2 := (far (((Bl.refl W).alloc _).drew) hgrow (o := 2) hs2 nxb.out).1.trans p2; have k3 := (far (((Bl.refl W).alloc _).drew) hgrow (o := 3) hs2 nxb.out).1.trans p3; have k4 := (far (((Bl.refl W).alloc _).drew) hgrow (o := 4) hs2 nxb.out).1.trans p4))
  all_goals
    go_end0
    obtain ⟨B1, B2⟩ := H2.out.pushI H1.out hn (((Bl.refl W).alloc _).drew) hgrow hown3
    refine ⟨_, _, _, _, rfl, B1, ?_, ?_⟩
    · exact (H0.out.mono fun k _ e => .inr (.inr e)).trans (B2.mono fun k _ e => e.imp id .inl)
    · intro u hu b hb'
      refine H3.out b ?_
      simp at hu
      rcases hu with rfl | rfl | rfl
      · exact .inl hb'
      · exact .inr (.inl hb')
      · exact .inr (.inr hb')
end Go.Proofs.YtkgjpfamjedncaaGreat
