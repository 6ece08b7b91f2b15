-- The book, with marks: its own blocks bear 2, the lists of bytes that it has marked bear 1; what it has of numbers and of layouts bears 1 or 2.
-- A voter of the script is opened anew from its image, in its place.
-- What goes with a call of a voter of the script.
-- What stays, behind the calls of a step: the book, the boxes, what has come out.
import Derived.Test.YtkgjpfamjedncaaGreatPickObKeptLReadsLLaysLOwnQ
import Derived.Test.YtkgjpfamjedncaaGreatLLooksLLocateLFreeQ
namespace Go.Proofs.YtkgjpfamjedncaaGreat
open Go.RowKit Go.Maps

/-- Blocks that are none of the lists of numbers and of layouts: the book's own block, or by their marks, or by their types. -/
def Off (w : World) (tag : Nat → Nat) (bw : Nat) (T : Nat → Prop) : Prop := ∀ b, b < w.heap.size → T b → b = bw ∨ (tag b ≠ 1 ∧ tag b ≠ 2) ∨ ∃ c e f, w.heap[b]? = some (.cells c e f) ∧ e ≠ 3 ∧ e ≠ 24 ∧ e ≠ 56 ∧ e ≠ 58
theorem Off.row {w : World} {tag : Nat → Nat} {bw : Nat} {T : Nat → Prop} (h : Off w tag bw T) {cs : Array Value} (hb : w.heap[bw]? = some (.cells cs 35 (0, 0))) {e : TypeId} (he : e = 3 ∨ e = 24 ∨ e = 56 ∨ e = 58) {sz n base : Nat} {u : Value} {xs : List Value} (hr : w.ownsRow base e sz u n xs) (ht : ∀ b, u.ownBlock = some b → tag b = 1 ∨ tag b = 2) : ∀ b, u.ownBlock = some b → ¬ T b := fun b hu hT => by
  rcases h b (hr.lt b hu).2 hT with rfl | ⟨h1, h2⟩ | ⟨c, e', f, k0, k1, k2, k3, k4⟩
  · exact own_ne_block hr hb (by rcases he with rfl | rfl | rfl | rfl <;> decide) hu
  · exact (ht b hu).elim h1 h2
  · refine own_ne_block hr k0 (fun e' => ?_) hu
    rcases he with rfl | rfl | rfl | rfl
    · exact k1 e'.symm
    · exact k2 e'.symm
    · exact k3 e'.symm
    · exact k4 e'.symm
theorem Off.mark {w w' : World} {tag : Nat → Nat} {bw : Nat} {T : Nat → Prop} (h : Off w tag bw T) (ho : Only T w w') {cs : Array Value} (hb : w.heap[bw]? = some (.cells cs 35 (0, 0))) {e : TypeId} (he : e = 3 ∨ e = 24) {n : Nat} {x v o1 o2 o3 : Value} (hm : MarkI w 0 n e x v o1 o2 o3) (ht : ∀ u ∈ [v, o1, o2, o3], ∀ b, u.ownBlock = some b → tag b = 1 ∨ tag b = 2) : MarkI w' 0 n e x v o1 o2 o3 := by
  have he' : e = 3 ∨ e = 24 ∨ e = 56 ∨ e = 58 := he.imp id .inl
  exact ⟨ho.owns hm.h0 (h.row hb he' hm.h0 (ht v (by simp))), ho.owns hm.h1 (h.row hb he' hm.h1 (ht o1 (by simp))), ho.owns hm.h2 (h.row hb he' hm.h2 (ht o2 (by simp))), ho.owns hm.h3 (h.row hb he' hm.h3 (ht o3 (by simp)))⟩

/-- The lists of numbers and of layouts, n of each at most. -/
structure CI (w : World) (tag : Nat → Nat) (bw : Nat) (kl vl bl il cl : Value) (n : Nat) : Prop where
  ex : ∃ ni nc xi xc, ni ≤ n ∧ nc ≤ n ∧ Book 0 w bw kl vl bl il cl ni nc xi xc ∧ (∀ b, il.ownBlock = some b → tag b = 1 ∨ tag b = 2) ∧ (∀ b, cl.ownBlock = some b → tag b = 1 ∨ tag b = 2) ∧ ∀ u ∈ xi ++ xc, ∀ b, u.ownBlock = some b → (tag b = 1 ∨ tag b = 2) ∧ b < w.heap.size
theorem CI.mono {w : World} {tag : Nat → Nat} {bw : Nat} {kl vl bl il cl : Value} {n n' : Nat} (h : CI w tag bw kl vl bl il cl n) (hn : n ≤ n') : CI w tag bw kl vl bl il cl n' := by
  obtain ⟨ni, nc, xi, xc, h1, h2, h3⟩ := h
  exact ⟨ni, nc, xi, xc, by omega, by omega, h3⟩
/-- The book's own block turns, but these lists do not. -/
theorem CI.turn {T : Nat → Prop} {w w' : World} {tag tag' : Nat → Nat} {bw : Nat} {kl vl bl kl' vl' bl' il cl : Value} {n : Nat} (h : CI w tag bw kl vl bl il cl n) (ho : Only T w w') (hT : Off w tag bw T) (hb : w'.heap[bw]? = some (.cells #[kl', vl', bl', il, cl] 35 (0, 0))) (ht : ∀ b, b < w.heap.size → (tag b = 1 ∨ tag b = 2) → tag' b = tag b) : CI w' tag' bw kl' vl' bl' il cl n := by
  obtain ⟨ni, nc, xi, xc, h1, h2, h3, h4, h5, h6⟩ := h
  have hs := ho.size
  have hm : ∀ {l : List Value}, (∀ u ∈ l, u ∈ xi ++ xc) → ∀ u ∈ l, ∀ b, u.ownBlock = some b → tag b = 1 ∨ tag b = 2 := fun hl u hu b hb => (h6 u (hl u hu) b hb).1
  refine ⟨ni, nc, xi, xc, h1, h2, ⟨h3.b0, hb, ho.owns h3.oi (hT.row h3.blk (.inr (.inr (.inl rfl))) h3.oi h4), ho.owns h3.oc (hT.row h3.blk (.inr (.inr (.inr rfl))) h3.oc h5), fun k hk => ?_, fun k hk => ?_⟩, fun b e => by rw [ht b (h3.oi.lt b e).2 (h4 b e)]; exact h4 b e, fun b e => by rw [ht b (h3.oc.lt b e).2 (h5 b e)]; exact h5 b e, fun u hu b e => ⟨by rw [ht b (h6 u hu b e).2 (h6 u hu b e).1]; exact (h6 u hu b e).1, by have := (h6 u hu b e).2; omega⟩⟩
  · obtain ⟨n', v, o1, o2, o3, hn, e0, e1, e2, e3, e4, hmk⟩ := h3.ei k hk
    refine ⟨n', v, o1, o2, o3, hn, e0, e1, e2, e3, e4, hT.mark ho h3.blk (.inl rfl) hmk (hm fun u hu => ?_)⟩
    simp at hu
    rcases hu with rfl | rfl | rfl | rfl
    · exact List.mem_append_left _ (mem_of_get e0)
    · exact List.mem_append_left _ (mem_of_get e1)
    · exact List.mem_append_left _ (mem_of_get e2)
    · exact List.mem_append_left _ (mem_of_get e3)
  · obtain ⟨n', v, o1, o2, o3, M, hn, e0, e1, e2, e3, e4, hmk, hM⟩ := h3.ec k hk
    have hMl := (Array.getElem?_eq_some_iff.1 hM).1
    refine ⟨n', v, o1, o2, o3, M, hn, e0, e1, e2, e3, e4, hT.mark ho h3.blk (.inr rfl) hmk (hm fun u hu => ?_), ?_⟩
    · simp at hu
      rcases hu with rfl | rfl | rfl | rfl
      · exact List.mem_append_right _ (mem_of_get e0)
      · exact List.mem_append_right _ (mem_of_get e1)
      · exact List.mem_append_right _ (mem_of_get e2)
      · exact List.mem_append_right _ (mem_of_get e3)
    · rw [ho.block M hMl fun hTM => ?_]
      · exact hM
      · rcases hT M hMl hTM with e | ⟨k1, k2⟩ | ⟨c, e', f, k0, k1, _⟩
        · have hbb := h3.blk
          rw [← e, hM] at hbb
          simp at hbb
        · exact ((h6 _ (List.mem_append_right _ (mem_of_get e4)) M rfl).1).elim k1 k2
        · rw [hM] at k0
          simp at k0
          exact k1 k0.2.1.symm
theorem CI.nil {w : World} {tag : Nat → Nat} {bw : Nat} {kl vl bl : Value} (hb : w.heap[bw]? = some (.cells #[kl, vl, bl, .slice none 0 0, .slice none 0 0] 35 (0, 0))) : CI w tag bw kl vl bl (.slice none 0 0) (.slice none 0 0) 0 :=
  ⟨0, 0, [], [], by omega, by omega, ⟨Nat.zero_le _, hb, World.ownsRow_nil _ _ _ _, World.ownsRow_nil _ _ _ _, fun k hk => by omega, fun k hk => by omega⟩, fun b e => by simp [Value.ownBlock] at e, fun b e => by simp [Value.ownBlock] at e, fun u hu => by simp at hu⟩

/-- The book, and all bytes that it has marked lie below lim. -/
structure Bt (w : World) (tag : Nat → Nat) (bw : Nat) (kl vl : Value) (nb lim : Nat) : Prop where
  ex : ∃ bl xb il cl nb0, BookB 0 w bw kl vl bl il cl nb0 xb ∧ nb0 ≤ nb ∧ CI w tag bw kl vl bl il cl nb ∧ tag bw = 2 ∧ (∀ b, bl.ownBlock = some b → tag b = 2) ∧ ∀ u ∈ xb, ∀ b, u.ownBlock = some b → tag b = 1 ∧ b < lim
theorem Bt.only {T : Nat → Prop} {w w' : World} {tag tag' : Nat → Nat} {bw : Nat} {kl vl : Value} {nb lim : Nat} (h : Bt w tag bw kl vl nb lim) (ho : Only T w w') (hs : ∀ b, b < w.heap.size → T b → tag b ≠ 1 ∧ tag b ≠ 2) (ht : ∀ b, b < w.heap.size → tag' b = tag b) (hl : lim ≤ w.heap.size) : Bt w' tag' bw kl vl nb lim := by
  obtain ⟨bl, xb, il, cl, nb0, h1, h0, hc, h2, h3, h4⟩ := h
  have lb := h1.lt
  have h1' := h1.only ho (fun e => (hs bw lb e).2 h2) (fun b hb e => (hs b (h1.ob.lt b hb).2 e).2 (h3 b hb)) (fun u hu b hb e => (hs b (by have := (h4 u hu b hb).2; omega) e).1 (h4 u hu b hb).1)
  refine ⟨bl, xb, il, cl, nb0, h1', h0, hc.turn ho (fun b hb e => .inr (.inl (hs b hb e))) h1'.blk (fun b hb _ => ht b hb), by rw [ht bw lb]; exact h2, fun b hb => by rw [ht b (h1.ob.lt b hb).2]; exact h3 b hb, fun u hu b hb => ?_⟩
  obtain ⟨k1, k2⟩ := h4 u hu b hb
  exact ⟨by rw [ht b (by omega)]; exact k1, k2⟩
theorem Bt.mono {w : World} {tag : Nat → Nat} {bw : Nat} {kl vl : Value} {nb lim lim' : Nat} (h : Bt w tag bw kl vl nb lim) (hl : lim ≤ lim') : Bt w tag bw kl vl nb lim' := by
  obtain ⟨bl, xb, il, cl, nb0, h1, h0, hc, h2, h3, h4⟩ := h
  exact ⟨bl, xb, il, cl, nb0, h1, h0, hc, h2, h3, fun u hu b hb => ⟨(h4 u hu b hb).1, by have := (h4 u hu b hb).2; omega⟩⟩
theorem Bt.up {w : World} {tag : Nat → Nat} {bw : Nat} {kl vl : Value} {nb nb' lim : Nat} (h : Bt w tag bw kl vl nb lim) (hn : nb ≤ nb') : Bt w tag bw kl vl nb' lim := by
  obtain ⟨bl, xb, il, cl, nb0, h1, h0, hc, h2⟩ := h
  exact ⟨bl, xb, il, cl, nb0, h1, by omega, hc.mono hn, h2⟩
theorem Bt.lt {w : World} {tag : Nat → Nat} {bw : Nat} {kl vl : Value} {nb lim : Nat} (h : Bt w tag bw kl vl nb lim) : bw < w.heap.size ∧ tag bw = 2 := by
  obtain ⟨bl, xb, il, cl, nb0, h1, h0, hc, h2, _⟩ := h
  exact ⟨h1.lt, h2⟩
theorem Bt.blk {w : World} {tag : Nat → Nat} {bw : Nat} {kl vl : Value} {nb lim : Nat} (h : Bt w tag bw kl vl nb lim) : ∃ bl il cl, w.heap[bw]? = some (.cells #[kl, vl, bl, il, cl] 35 (0, 0)) := by
  obtain ⟨bl, xb, il, cl, nb0, h1, _⟩ := h
  exact ⟨bl, il, cl, h1.blk⟩
theorem Bt.first {w : World} {tag : Nat → Nat} {bw : Nat} (lim : Nat) (hb : w.heap[bw]? = some (.cells #[.slice none 0 0, .slice none 0 0, .slice none 0 0, .slice none 0 0, .slice none 0 0] 35 (0, 0))) (ht : tag bw = 2) : Bt w tag bw (.slice none 0 0) (.slice none 0 0) 0 lim :=
  ⟨.slice none 0 0, [], .slice none 0 0, .slice none 0 0, 0, ⟨Nat.zero_le _, hb, World.ownsRow_nil _ _ _ _, fun k hk => by omega⟩, Nat.le_refl _, CI.nil hb, ht, fun b hb => by simp [Value.ownBlock] at hb, fun u hu => by simp at hu⟩
/-- The row of units, or that of voters, is another. -/
theorem Bt.turn {T : Nat → Prop} {w w' : World} {tag tag' : Nat → Nat} {bw : Nat} {kl vl kl' vl' : Value} {nb lim : Nat} (h : Bt w tag bw kl vl nb lim) (ho : Only T w w') (hs : ∀ b, b < w.heap.size → T b → b = bw ∨ (tag b ≠ 1 ∧ tag b ≠ 2)) (hb : ∀ bl il cl, w.heap[bw]? = some (.cells #[kl, vl, bl, il, cl] 35 (0, 0)) → w'.heap[bw]? = some (.cells #[kl', vl', bl, il, cl] 35 (0, 0))) (ht : ∀ b, b < w.heap.size → tag' b = tag b) (hl : lim ≤ w.heap.size) : Bt w' tag' bw kl' vl' nb lim := by
  obtain ⟨bl, xb, il, cl, nb0, h1, h0, hc, h2, h3, h4⟩ := h
  have lb := h1.lt
  have hb' := hb bl il cl h1.blk
  have n1 : ∀ b, bl.ownBlock = some b → ¬ T b := fun b e hT => by
    rcases hs b (h1.ob.lt b e).2 hT with rfl | ⟨_, k⟩
    · exact own_ne_block h1.ob h1.blk (by decide) e
    · exact k (h3 b e)
  have n2 : ∀ u ∈ xb, ∀ b, u.ownBlock = some b → ¬ T b := fun u hu b e hT => by
    obtain ⟨k1, k2⟩ := h4 u hu b e
    rcases hs b (by omega) hT with rfl | ⟨k, _⟩
    · omega
    · exact k k1
  refine ⟨bl, xb, il, cl, nb0, ⟨h1.b0, hb', ho.owns h1.ob n1, fun k hk => (h1.eb k hk).only ho n2⟩, h0, hc.turn ho (fun b hlt e => (hs b hlt e).imp id .inl) hb' (fun b hlt _ => ht b hlt), by rw [ht bw lb]; exact h2, fun b e => by rw [ht b (h1.ob.lt b e).2]; exact h3 b e, fun u hu b e => ?_⟩
  obtain ⟨k1, k2⟩ := h4 u hu b e
  exact ⟨by rw [ht b (by omega)]; exact k1, k2⟩

theorem bt_byte {w : World} {tag : Nat → Nat} {bw : Nat} {kl vl : Value} {nb lim : Nat} (h : Bt w tag bw kl vl nb lim) (v : Value) (n : Nat) (xs : List Value) (hv : w.ownsRow lim 5 1 v n xs) (ht : ∀ b, v.ownBlock = some b → tag b = 1) (hn : n ≤ 40000000) (hnb : nb < 4000000) (hl : lim ≤ w.heap.size) :
    Calls Tryz.prog 36 #[.pointer (some ⟨bw, 2, none⟩), v] w fun en w' => en = .returned (.tuple #[]) ∧ (∃ tag', (∀ b, b < w.heap.size → tag' b = tag b) ∧ (∀ b, w.heap.size ≤ b → tag' b = 1 ∨ tag' b = 2) ∧ Bt w' tag' bw kl vl (nb + 1) w'.heap.size) ∧ Only (fun b => tag b = 2 ∨ v.ownBlock = some b) w w' := by
  obtain ⟨bl, xb, il, cl, nb0, h1, h0, hc, h2, h3, h4⟩ := h
  refine (bookByte_any 0 bw kl vl bl il cl nb0 xb lim v n xs w h1 hv hl hn (by omega) (fun u hu b hb e => ?_)).mono ?_
  · have k1 := (hv.lt b hb).1
    have k2 := (h4 u hu b e).2
    omega
  rintro en w' ⟨bl', o1, o2, o3, rfl, r1, r1', r2, r3⟩
  obtain ⟨tag', htt⟩ : ∃ tag', tag' = fun b => if b < w.heap.size then tag b else if bl'.ownBlock = some b then 2 else 1 := ⟨_, rfl⟩
  have old : ∀ b, b < w.heap.size → tag' b = tag b := fun b hb => by rw [htt]; simp [hb]
  have new : ∀ b, w.heap.size ≤ b → tag' b = if bl'.ownBlock = some b then 2 else 1 := fun b hb => by rw [htt]; simp only; rw [if_neg (by omega)]
  have hCI : CI w' tag' bw kl vl bl' il cl (nb + 1) := (hc.turn r2 (fun b _ e => by
    rcases e with e | e | e
    · exact .inl e
    · obtain ⟨c, k⟩ := own_type h1.ob b e
      exact .inr (.inr ⟨c, 54, (0, 0), k, by decide, by decide, by decide, by decide⟩)
    · obtain ⟨c, k⟩ := own_type hv b e
      exact .inr (.inr ⟨c, 5, (0, 0), k, by decide, by decide, by decide, by decide⟩)) r1.blk (fun b hb _ => old b hb)).mono (by omega)
  refine ⟨rfl, ⟨tag', old, fun b hb => ?_, bl', _, il, cl, nb0 + 1, r1, by omega, hCI, by rw [old bw h1.lt]; exact h2, fun b hb => ?_, fun u hu b hb => ?_⟩, r2.mono fun b _ e => ?_⟩
  · rw [new b hb]
    split
    · exact .inr rfl
    · exact .inl rfl
  · by_cases hlt : b < w.heap.size
    · rcases r1' b hb with h' | h'
      · rw [old b hlt]; exact h3 b h'
      · omega
    · rw [new b (by omega), if_pos hb]
  · rw [List.mem_append] at hu
    rcases hu with hu | hu
    · obtain ⟨k1, k2⟩ := h4 u hu b hb
      have := r2.size
      exact ⟨by rw [old b (by omega)]; exact k1, by omega⟩
    · have hfin : ∀ u' m ys, w'.ownsRow 0 5 1 u' m ys → u'.ownBlock = some b → (v.ownBlock = some b ∨ w.heap.size ≤ b) → tag' b = 1 ∧ b < w'.heap.size := by
        intro u' m ys ho hb' hor
        refine ⟨?_, (ho.lt b hb').2⟩
        by_cases hlt : b < w.heap.size
        · rcases hor with h' | h'
          · rw [old b hlt]; exact ht b h'
          · omega
        · rw [new b (by omega), if_neg fun e => ownsRow_type ho r1.ob (by decide) b hb' e]
      obtain ⟨n', v', a1, a2, a3, hn', g0, g1, g2, g3, g4, hm⟩ := r1.eb nb0 (by omega)
      have hxl : xb.length = nb0 * 5 := h1.ob.1
      rw [List.getElem?_append_right (by omega), hxl] at g0 g1 g2 g3
      simp at g0 g1 g2 g3
      subst g0 g1 g2 g3
      simp only [List.mem_cons, List.not_mem_nil, or_false] at hu
      rcases hu with rfl | rfl | rfl | rfl | rfl
      · exact hfin _ _ _ hm.h0 hb (.inl hb)
      · exact hfin _ _ _ hm.h1 hb (r3 _ (by simp) b hb)
      · exact hfin _ _ _ hm.h2 hb (r3 _ (by simp) b hb)
      · exact hfin _ _ _ hm.h3 hb (r3 _ (by simp) b hb)
      · simp [Value.ownBlock] at hb
  · rcases e with rfl | e | e
    · exact .inl h2
    · exact .inl (h3 b e)
    · exact .inr e
theorem bt_looks {w : World} {tag : Nat → Nat} {bw : Nat} {kl vl : Value} {nb lim : Nat} (h : Bt w tag bw kl vl nb lim) (hnb : nb ≤ 4000000) : Calls Tryz.prog 9 #[.pointer (some ⟨bw, 2, none⟩)] w fun e w' => e = .returned (.bool true) ∧ Bl w w' := by
  obtain ⟨bl, xb, il, cl, nb0, h1, h0, ⟨ni, nc, xi, xc, k1, k2, k3, _⟩, _⟩ := h
  exact looksA_any 0 bw kl vl bl il cl nb0 ni nc xb xi xc w h1 k3 (by omega) (by omega) (by omega)

/-- A layout that came out is put into the book. -/
theorem freeNext_any (bw : Nat) (kl vl : Value) (nb : Nat) (tag : Nat → Nat) (a b c q1 q2 q3 q4 : Int) (lay : Value) (ls : List Value) (L : List (List Int)) (l : Value) (zs : List Int) (s : ByteArray) (t1 t2 t3 : Int) (va : Option Addr) (vn vc : Nat) (w : World)
    (hB : Bt w tag bw kl vl nb w.heap.size) (hlay : Sl w lay ls) (hll : ls.length = L.length) (hrows : ∀ i (h : i < ls.length) (h' : i < L.length), Sl w ls[i] (L[i].map (Value.int .i64))) (hl : Sl w l (zs.map (Value.int .i64)))
    (hL : L.length ≤ 2000000) (hLs : ∀ c ∈ L, c.length ≤ 4000000 ∧ wfAll c) (hz : zs.length ≤ 4000000) (hzw : wfAll zs) (hnb : nb + L.length < 4000000) :
    Calls Tryz.prog 10 #[.pointer (some ⟨bw, 0, none⟩), .agg #[.int .i64 2, .int .i64 a, .int .i64 b, .int .i64 c, .int .i64 q1, .int .i64 q2, .int .i64 q3, .int .i64 q4, lay, l, .string s, .int .i64 t1, .int .i64 t2, .int .i64 t3, .slice va vn vc]] w fun e w' =>
      e = .returned (.bool true) ∧ (∃ tag', (∀ b, b < w.heap.size → tag' b = tag b) ∧ Bt w' tag' bw kl vl (nb + L.length + 1) w'.heap.size) ∧ Only (fun b => tag b = 1 ∨ tag b = 2) w w' := by
  obtain ⟨bl, xb, il, cl, nb0, h1, h0, ⟨ni, nc, xi, xc, k1, k2, k3, k4, k5, k6⟩, h2, h3, h4⟩ := hB
  refine (freeNextL_any 0 bw kl vl bl il cl ni nc xi xc a b c q1 q2 q3 q4 lay ls L l zs s t1 t2 t3 va vn vc w k3 (fun u hu b e => (k6 u hu b e).2) hlay hll hrows hl hL hLs hz hzw (by omega) (by omega)).mono ?_
  rintro e w' ⟨vi', vc', xi', xc', rfl, r1, O, r3, r4, r5⟩
  have hs := O.size
  obtain ⟨tag', htt⟩ : ∃ tag', tag' = tagTo tag w.heap.size 1 := ⟨_, rfl⟩
  have old : ∀ b, b < w.heap.size → tag' b = tag b := fun b hb => by rw [htt]; exact tagTo_old _ _ _ _ hb
  have new : ∀ b, w.heap.size ≤ b → tag' b = 1 := fun b hb => by rw [htt]; exact tagTo_new _ _ _ _ hb
  have hS : ∀ x, (x = bw ∨ il.ownBlock = some x ∨ cl.ownBlock = some x) → ∃ c t f, w.heap[x]? = some (.cells c t f) ∧ t ≠ 5 := by
    rintro x (rfl | e | e)
    · exact ⟨_, _, _, h1.blk, by decide⟩
    · obtain ⟨c, k⟩ := own_type k3.oi x e
      exact ⟨_, _, _, k, by decide⟩
    · obtain ⟨c, k⟩ := own_type k3.oc x e
      exact ⟨_, _, _, k, by decide⟩
  have nb1 : ∀ b, bl.ownBlock = some b → ¬ (b = bw ∨ il.ownBlock = some b ∨ cl.ownBlock = some b) := by
    rintro b hb (rfl | e | e)
    · exact own_ne_block h1.ob h1.blk (by decide) hb
    · exact ownsRow_type h1.ob k3.oi (by decide) b hb e
    · exact ownsRow_type h1.ob k3.oc (by decide) b hb e
  have hlen := nres_len L a zs
  have hrow : ∀ (v v' : Value) (m : TypeId) (ys : Nat × List Value), (∀ b, v.ownBlock = some b → tag b = 1 ∨ tag b = 2) → (∀ b, v'.ownBlock = some b → v.ownBlock = some b ∨ w.heap.size ≤ b) → w.ownsRow 0 m 5 v ys.1 ys.2 → ∀ b, v'.ownBlock = some b → tag' b = 1 ∨ tag' b = 2 := fun v v' m ys hv hv' ho b e => by
    rcases hv' b e with e' | e'
    · rw [old b (ho.lt b e').2]; exact hv b e'
    · exact .inl (new b e')
  refine ⟨rfl, ⟨tag', old, bl, xb, vi', vc', nb0, ⟨h1.b0, r1.blk, O.owns h1.ob nb1, fun k hk => (h1.eb k hk).type hS O⟩, by omega, ⟨ni + (nres L a zs).length, nc + 1, xi', xc', by omega, by omega, r1, hrow il vi' 56 (ni, xi) k4 r3 k3.oi, hrow cl vc' 58 (nc, xc) k5 r4 k3.oc, fun u hu b e => ?_⟩, by rw [old bw h1.lt]; exact h2, fun b e => by rw [old b (h1.ob.lt b e).2]; exact h3 b e, fun u hu b e => ?_⟩, O.mono fun b _ e => ?_⟩
  · refine ⟨?_, r1.used u hu b e⟩
    rcases r5 u hu with h' | h'
    · rw [old b (k6 u h' b e).2]; exact (k6 u h' b e).1
    · exact .inl (new b (h' b e))
  · obtain ⟨j1, j2⟩ := h4 u hu b e
    exact ⟨by rw [old b j2]; exact j1, by omega⟩
  · rcases e with rfl | e | e
    · exact .inr h2
    · exact k4 b e
    · exact k5 b e
end Go.Proofs.YtkgjpfamjedncaaGreat

namespace Go.Proofs.YtkgjpfamjedncaaGreat
open Go.RowKit Go.Maps
attribute [local go_sem ↓] Go.wp_at_zero Go.wp_at_succ

theorem Ob.x {w : World} {tag : Nat → Nat} {j q : Nat} {rs : List Rc} {S : Nat → Int → Ep} {m nn : Nat} (h : Ob 0 w tag j q rs S m nn) : ∃ p, w.cell? ⟨q, 0, none⟩ = some (.pointer (some ⟨p, 0, none⟩)) ∧ q < w.heap.size ∧ tag q = tD j ∧ Vt w tag (tP j) p rs S ∧ w.frozen? ⟨q, 0, none⟩ = false := by
  obtain ⟨p, y, pv, sv, xs, ks, h1, h2, h3, _⟩ := h
  exact ⟨p, cell_of_row w q 0 _ 91 (0, 0) h1, (Array.getElem?_eq_some_iff.1 h1).1, h2, h3, frozen_of_row w q 0 _ 91 h1⟩
/-- The program's voter is another one, with the same records. -/
theorem Ob.swap {w : World} {tag : Nat → Nat} {j q p' : Nat} {rs : List Rc} {S : Nat → Int → Ep} {m nn : Nat} (h : Ob 0 w tag j q rs S m nn) (hv : Vt w tag (tP j) p' rs S) : Ob 0 (w.setCell ⟨q, 0, none⟩ (.pointer (some ⟨p', 0, none⟩))) tag j q rs S m nn := by
  obtain ⟨p, y, pv, sv, xs, ks, h1, h2, h3, h4, h5, h6, h7, h8, h9, h10⟩ := h
  obtain ⟨d1, d2, d3⟩ := tD_ne j
  have O : Only (fun b => b = q) w (w.setCell ⟨q, 0, none⟩ (.pointer (some ⟨p', 0, none⟩))) := (Only.refl (fun b => b = q) w).setCell ⟨q, 0, none⟩ (.inl rfl) _
  have nq : ∀ b, b < w.heap.size → b = q → tag b = tD j := fun b _ e => by rw [e]; exact h2
  refine ⟨p', y, pv, sv, xs, ks, heap_setCell_same w q 0 _ 91 _ h1, h2, hv.only O (fun b hb e e' => d1 ((nq b hb e).symm.trans e')) (fun _ _ => rfl), h4.only O (fun b hb e => ⟨fun e' => d2 ((nq b hb e).symm.trans e'), fun e' => d3 ((nq b hb e).symm.trans e')⟩) (fun _ _ => rfl), O.owns h5 fun b hb e => own_ne_block h5 h1 (by decide) (by rw [hb, e]), h6, O.owns h7 fun b hb e => own_ne_block h7 h1 (by decide) (by rw [hb, e]), h8, h9, fun i hi => ?_⟩
  obtain ⟨l, k1, k2⟩ := h10 i hi
  exact ⟨l, k1, k2.only O (fun b hb e e' => d3 ((nq b hb e).symm.trans e')) (fun _ _ => rfl)⟩
theorem mine_small (j : Nat) : ¬ Mine j 1 ∧ ¬ Mine j 2 ∧ ¬ Mine j 0 := by
  unfold Mine tP tR tV tD
  omega

/-- A step of the script, as it is handed on. -/
def opR (kd a b c q1 q2 q3 q4 : Int) (la : Option Addr) (ln lc : Nat) (ua : Option Addr) (un uc : Nat) (s : ByteArray) (t1 t2 t3 : Int) (va : Option Addr) (vn vc : Nat) : Array Value := #[.int .i64 kd, .int .i64 a, .int .i64 b, .int .i64 c, .int .i64 q1, .int .i64 q2, .int .i64 q3, .int .i64 q4, .slice la ln lc, .slice ua un uc, .string s, .int .i64 t1, .int .i64 t2, .int .i64 t3, .slice va vn vc]

set_option maxRecDepth 100000 in
set_option maxHeartbeats 4000000 in
theorem votedAnew_any (bw j q : Nat) (kl vl : Value) (nb m nn : Nat) (rs : List Rc) (S : Nat → Int → Ep) (tag : Nat → Nat) (a b c q1 q2 q3 q4 : Int) (la : Option Addr) (ln lc : Nat) (ua : Option Addr) (un uc : Nat) (s : ByteArray) (t1 t2 t3 : Int) (va : Option Addr) (vn vc : Nat) (w : World)
    (hB : Bt w tag bw kl vl nb w.heap.size) (hO : Ob 0 w tag j q rs S m nn) (hl : (flat rs).length ≤ 30000000) (hnb : nb < 4000000) :
    Calls Tryz.prog 15 #[.pointer (some ⟨bw, 0, none⟩), .agg (opR 12 a b c q1 q2 q3 q4 la ln lc ua un uc s t1 t2 t3 va vn vc), .pointer (some ⟨q, 0, none⟩)] w fun en w' => en = .returned (.bool true) ∧
      (∃ tag', (∀ b, b < w.heap.size → tag' b = tag b) ∧ Bt w' tag' bw kl vl (nb + 1) w'.heap.size ∧ Ob 0 w' tag' j q rs S m nn) ∧ Only (fun b => tag b = 2 ∨ Mine j (tag b)) w w' := by
  obtain ⟨p, cx, lq, tq, hvt, fx⟩ := hO.x
  obtain ⟨m1, m2, m0⟩ := mine_small j
  have lbw := hB.lt.1
  have bA := (Bl.refl w).alloc (.cells (opR 12 a b c q1 q2 q3 q4 la ln lc ua un uc s t1 t2 t3 va vn vc) 44)
  have HI := hid (vt_image (hvt.bl bA) hl)
  have HB := hid hB
  have HO := hid hO
  have HbA := hid bA
  have hway := hid hvt.way
  clear hB hO hvt bA
  unfold opR at HI HbA ⊢
  go_enter Tryz.func15, Tryz.ntmps15
  go_wp2_with fail
  refine HI.out.mono ?_
  rintro en w1 ⟨cv, rfl, hb1, hcv⟩
  obtain ⟨ca, cc, rfl⟩ := owned_slice' hcv
  have B1 := HbA.out.trans hb1
  have kc1 := conv_any _ (flat rs) w1 (ownsRow_sl hcv)
  have HV := hid (vt_open hway.out ca (flat rs).length cc hl (cut_own hcv) (tagTo tag w.heap.size 1) (tP j))
  have Hcv := hid hcv
  have HB1 := hid B1
  clear HI hb1 hcv B1 HbA
  generalize hst : strOf (flat rs) = st at *
  have Hst := hid hst
  clear hst
  go_wp2_with fail
  refine HV.out.mono ?_
  rintro en w2 ⟨k, p', rfl, hk1, hk2, hk3, hp', hb2, hv2⟩
  have hk : k = rs.length := by
    apply Classical.byContradiction
    intro hne
    have hlt : k < rs.length := by omega
    have h3 := hk3 hlt
    rw [← off_succ rs k hlt, ← off_all] at h3
    have := off_mono rs (k + 1) rs.length (by omega) (Nat.le_refl _)
    omega
  subst hk
  rw [List.take_of_length_le (Nat.le_refl _)] at hv2
  have B2 := HB1.out.trans hb2
  have hcv2 := (Only.of_bl (S := fun _ => False) hb2).owns Hcv.out fun _ _ e => e
  have kc2 := conv_any _ (flat rs) w2 (ownsRow_sl hcv2)
  rw [Hst.out] at kc2
  have HI2 := hid (vt_image hv2 hl)
  have HV2 := hid hv2
  have Hb2 := hid hb2
  have HB2 := hid B2
  clear HV hb2 hv2 B2 hcv2 hk1 hk2 hk3 kc1
  go_wp2_with fail
  refine HI2.out.mono ?_
  rintro en w3 ⟨iv, rfl, hb3, hiv⟩
  obtain ⟨ia, ic, rfl⟩ := owned_slice' hiv
  have kc3 := conv_any _ (flat rs) w3 (ownsRow_sl hiv)
  rw [Hst.out] at kc3
  have B3 := HB2.out.trans hb3
  obtain ⟨tag3, ht3⟩ : ∃ tag3, tag3 = tagTo (tagTo (tagTo tag w.heap.size 1) w1.heap.size (tP j)) w2.heap.size 1 := ⟨_, rfl⟩
  have l1 := HB1.out.lt
  have l2 := Hb2.out.lt
  have l3 := hb3.lt
  have old3 : ∀ b, b < w.heap.size → tag3 b = tag b := fun b hb => by rw [ht3, tagTo_old _ _ _ _ (by omega), tagTo_old _ _ _ _ (by omega), tagTo_old _ _ _ _ hb]
  have hcv3 : w3.ownsRow w.heap.size 5 1 (.slice ca (flat rs).length cc) (flat rs).length ((flat rs).map B8) := by
    have h1 := (Only.of_bl (S := fun _ => False) (Hb2.out.trans hb3)).owns Hcv.out fun _ _ e => e
    exact ownsRow_base h1 fun b hb => by have := (h1.lt b hb).1; simp at this; omega
  have hct : ∀ b, (Value.slice ca (flat rs).length cc).ownBlock = some b → tag3 b = 1 := fun b hb => by
    have k1 := (Hcv.out.lt b hb)
    have k2 := (hcv3.lt b hb).1
    rw [ht3, tagTo_old _ _ _ _ (by omega), tagTo_old _ _ _ _ (by omega), tagTo_new _ _ _ _ k2]
  have hBt3 := HB.out.only (tag' := tag3) (Only.of_bl (S := fun _ => False) B3) (fun _ _ e => e.elim) old3 (Nat.le_refl _)
  have hOb3 := HO.out.only (tag' := tag3) (Only.of_bl (S := fun _ => False) B3) (fun _ _ e => e.elim) old3
  have hVt3 := HV2.out.only (tag' := tag3) (Only.of_bl (S := fun _ => False) hb3) (fun _ _ e => e.elim) (fun b hb => by rw [ht3, tagTo_old _ _ _ _ hb])
  have HP := hid (bt_byte hBt3 _ _ _ hcv3 hct (by omega) hnb (by omega))
  have HOb3 := hid hOb3
  have HVt3 := hid hVt3
  have Hct := hid hct
  have Hold3 := hid old3
  have HB3 := hid B3
  have Hcv3 := hid hcv3
  clear HI2 hb3 hiv hBt3 hOb3 hVt3 hct old3 B3 hcv3 ht3 HB HO HV2
  go_wp2_with fail
  refine HP.out.mono ?_
  rintro en w4 ⟨rfl, ⟨tag4, o4, n4, hBt4⟩, O4⟩
  have hOb4 := HOb3.out.only (tag' := tag4) O4 (fun b _ e => by
    rcases e with e | e
    · rw [e]; exact m2
    · rw [Hct.out b e]; exact m1) o4
  have hVt4 := HVt3.out.only (tag' := tag4) O4 (fun b _ e => by
    rcases e with e | e
    · rw [e]; unfold tP; omega
    · rw [Hct.out b e]; unfold tP; omega) o4
  obtain ⟨p4, cx4, lq4, tq4, _, fx4⟩ := hOb4.x
  have hfin := hOb4.swap hVt4
  have hB5 := (hBt4.only (tag' := tag4) ((Only.refl (fun b => b = q) w4).setCell ⟨q, 0, none⟩ (.inl rfl) (.pointer (some ⟨p', 0, none⟩))) (fun b _ e => by rw [e, tq4]; unfold tD; omega) (fun _ _ => rfl) (Nat.le_refl _)).mono (lim' := (w4.setCell ⟨q, 0, none⟩ (.pointer (some ⟨p', 0, none⟩))).heap.size) (by simp [World.setCell])
  have lw3 := HB3.out.lt
  have OF : Only (fun b => tag b = 2 ∨ Mine j (tag b)) w (w4.setCell ⟨q, 0, none⟩ (.pointer (some ⟨p', 0, none⟩))) := by
    have h1 : Only (fun b => tag b = 2 ∨ Mine j (tag b)) w w4 := by
      refine ⟨O4.os.trans HB3.out.os, O4.tape.trans HB3.out.tape, O4.output.trans HB3.out.output, Nat.le_trans lw3 O4.size, fun i hi hn => ?_⟩
      rw [O4.block i (by omega) ?_, HB3.out.heap hi]
      rintro (e | e)
      · exact hn (.inl (by rw [← Hold3.out i hi]; exact e))
      · have := (Hcv3.out.lt i e).1; omega
    exact h1.setCell ⟨q, 0, none⟩ (.inl (.inr (by show Mine j (tag q); rw [tq]; exact .inr (.inr (.inr rfl))))) _
  have HF := hid hfin
  have H5 := hid hB5
  have HOF := hid OF
  have Ho4 : Hid (∀ b, b < w.heap.size → tag4 b = tag b) := fun b hb => by rw [o4 b (by omega), Hold3.out b hb]
  clear hfin hB5 OF hOb4 hVt4 O4 o4 n4 hBt4 HP
  go_wp2
  go_ret
  exact ⟨rfl, ⟨tag4, Ho4.out, H5.out, HF.out⟩, HOF.out⟩
end Go.Proofs.YtkgjpfamjedncaaGreat

namespace Go.Proofs.YtkgjpfamjedncaaGreat
open Go.RowKit Go.Maps
attribute [local go_sem ↓] Go.wp_at_zero Go.wp_at_succ

/-- Boxes that no call turns: they bear the mark 3. -/
def Bo (W : World) (tag : Nat → Nat) (l : List (Nat × Array Value × TypeId)) : Prop := ∀ x ∈ l, W.heap[x.1]? = some (.cells x.2.1 x.2.2 (0, 0)) ∧ tag x.1 = 3
theorem Bo.only {T : Nat → Prop} {W W' : World} {tag tag' : Nat → Nat} {l : List (Nat × Array Value × TypeId)} (h : Bo W tag l) (ho : Only T W W') (hs : ∀ b, b < W.heap.size → T b → tag b ≠ 3) (ht : ∀ b, b < W.heap.size → tag' b = tag b) : Bo W' tag' l := fun x hx => by
  obtain ⟨h1, h2⟩ := h x hx
  have lx := (Array.getElem?_eq_some_iff.1 h1).1
  exact ⟨(ho.block x.1 lx fun e => hs x.1 lx e h2).trans h1, by rw [ht x.1 lx]; exact h2⟩
theorem Bo.bl {W W' : World} {tag : Nat → Nat} {l : List (Nat × Array Value × TypeId)} (h : Bo W tag l) (hb : Bl W W') : Bo W' tag l := h.only (Only.of_bl (S := fun _ => False) hb) (fun _ _ e => e.elim) (fun _ _ => rfl)
theorem Bo.cell {W : World} {tag : Nat → Nat} {l : List (Nat × Array Value × TypeId)} (h : Bo W tag l) {g : Nat} {cs : Array Value} {t : TypeId} (hq : (g, cs, t) ∈ l) (o : Nat) : W.cell? ⟨g, o, none⟩ = cs[o]? := cell_of_row W g o _ t (0, 0) (h _ hq).1
theorem Bo.frozen {W : World} {tag : Nat → Nat} {l : List (Nat × Array Value × TypeId)} (h : Bo W tag l) {g : Nat} {cs : Array Value} {t : TypeId} (hq : (g, cs, t) ∈ l) (o : Nat) : W.frozen? ⟨g, o, none⟩ = false := frozen_of_row W g o _ t (h _ hq).1
theorem Bo.lt {W : World} {tag : Nat → Nat} {l : List (Nat × Array Value × TypeId)} (h : Bo W tag l) {g : Nat} {cs : Array Value} {t : TypeId} (hq : (g, cs, t) ∈ l) : g < W.heap.size := (Array.getElem?_eq_some_iff.1 (h _ hq).1).1

/-- What was kept of voter j, its block q. -/
structure Orr (w : World) (tag : Nat → Nat) (j q p y : Nat) (rs : List Rc) (S : Nat → Int → Ep) (m : Nat) : Prop where
  ex : ∃ pv sv xs ks, w.heap[q]? = some (.cells #[.pointer (some ⟨p, 0, none⟩), .pointer (some ⟨y, 0, none⟩), pv, sv] 91 (0, 0)) ∧ tag q = tD j ∧
    w.ownsRow 0 88 1 pv m xs ∧ (∀ b, pv.ownBlock = some b → tag b = tD j) ∧ w.ownsRow 0 3 1 sv m ((List.range m).map fun i => .int .i64 (off rs (ks i) : Nat)) ∧ (∀ b, sv.ownBlock = some b → tag b = tD j) ∧
    Kp rs ks m ∧ ∀ i, i < m → ∃ l, xs[i]? = some l ∧ Past w tag (tV j) l (S (ks i))
theorem Orr.only {T : Nat → Prop} {w w' : World} {tag tag' : Nat → Nat} {j q p y : Nat} {rs : List Rc} {S : Nat → Int → Ep} {m : Nat} (h : Orr w tag j q p y rs S m) (ho : Only T w w') (hs : ∀ b, b < w.heap.size → T b → tag b ≠ tD j ∧ tag b ≠ tV j) (ht : ∀ b, b < w.heap.size → tag' b = tag b) : Orr w' tag' j q p y rs S m := by
  obtain ⟨pv, sv, xs, ks, e1, e2, e3, e4, e5, e6, e7, e8⟩ := h
  have lq := (Array.getElem?_eq_some_iff.1 e1).1
  refine ⟨pv, sv, xs, ks, (ho.block q lq fun e => (hs q lq e).1 e2).trans e1, by rw [ht q lq]; exact e2, ho.owns e3 fun b hb e => (hs b (e3.lt b hb).2 e).1 (e4 b hb), fun b hb => by rw [ht b (e3.lt b hb).2]; exact e4 b hb, ho.owns e5 fun b hb e => (hs b (e5.lt b hb).2 e).1 (e6 b hb), fun b hb => by rw [ht b (e5.lt b hb).2]; exact e6 b hb, e7, fun i hi => ?_⟩
  obtain ⟨l, k1, k2⟩ := e8 i hi
  exact ⟨l, k1, k2.only ho (fun b hb e => (hs b hb e).2) ht⟩
theorem Orr.cells {w : World} {tag : Nat → Nat} {j q p y : Nat} {rs : List Rc} {S : Nat → Int → Ep} {m : Nat} (h : Orr w tag j q p y rs S m) : w.cell? ⟨q, 0, none⟩ = some (.pointer (some ⟨p, 0, none⟩)) ∧ w.cell? ⟨q, 1, none⟩ = some (.pointer (some ⟨y, 0, none⟩)) ∧ q < w.heap.size ∧ tag q = tD j := by
  obtain ⟨pv, sv, xs, ks, e1, e2, _⟩ := h
  exact ⟨cell_of_row w q 0 _ 91 (0, 0) e1, cell_of_row w q 1 _ 91 (0, 0) e1, (Array.getElem?_eq_some_iff.1 e1).1, e2⟩
theorem Ob.open' {w : World} {tag : Nat → Nat} {j q : Nat} {rs : List Rc} {S : Nat → Int → Ep} {m nn : Nat} (h : Ob 0 w tag j q rs S m nn) : ∃ p y, Orr w tag j q p y rs S m ∧ Vt w tag (tP j) p rs S ∧ Rt w tag j y (S rs.length) nn := by
  obtain ⟨p, y, pv, sv, xs, ks, h1, h2, h3, h4, h5⟩ := h
  exact ⟨p, y, ⟨pv, sv, xs, ks, h1, h2, h5⟩, h3, h4⟩
theorem tP_ne (j : Nat) : tP j ≠ tR j ∧ tP j ≠ tV j ∧ tP j ≠ tD j ∧ tR j ≠ tV j ∧ tR j ≠ tD j ∧ tP j ≠ 1 ∧ tR j ≠ 1 ∧ tD j ≠ 1 ∧ tV j ≠ 1 ∧ tP j ≠ 2 ∧ tR j ≠ 2 ∧ tD j ≠ 2 ∧ tV j ≠ 2 := by unfold tP tR tV tD; omega
end Go.Proofs.YtkgjpfamjedncaaGreat

namespace Go.Proofs.YtkgjpfamjedncaaGreat
open Go.RowKit Go.Maps

/-- Lists of bytes that have come out: those of the mark 1 wait for theirs. -/
def Pl (w : World) (tag : Nat → Nat) (lim : Nat) (pl : List (Value × List Int × Nat)) : Prop :=
  ∀ x ∈ pl, w.ownsRow 0 5 1 x.1 x.2.1.length (x.2.1.map B8) ∧ ∀ b, x.1.ownBlock = some b → tag b = x.2.2 ∧ (x.2.2 = 1 → lim ≤ b)
theorem Pl.only {T : Nat → Prop} {w w' : World} {tag tag' : Nat → Nat} {lim : Nat} {pl : List (Value × List Int × Nat)} (h : Pl w tag lim pl) (ho : Only T w w') (hs : ∀ b, b < w.heap.size → T b → ∀ x ∈ pl, tag b ≠ x.2.2) (ht : ∀ b, b < w.heap.size → tag' b = tag b) : Pl w' tag' lim pl := fun x hx => by
  obtain ⟨h1, h2⟩ := h x hx
  exact ⟨ho.owns h1 fun b hb e => hs b (h1.lt b hb).2 e x hx (h2 b hb).1, fun b hb => by rw [ht b (h1.lt b hb).2]; exact h2 b hb⟩

/-- The book, the boxes, and what has come out, behind a part of a step that began at w0. -/
structure Fr (w0 : World) (tag0 : Nat → Nat) (j bw : Nat) (kl vl : Value) (w : World) (tag : Nat → Nat) (nb lim : Nat) (bx : List (Nat × Array Value × TypeId)) (pl : List (Value × List Int × Nat)) : Prop where
  old : ∀ b, b < w0.heap.size → tag b = tag0 b
  out : Only (fun b => tag0 b = 2 ∨ Mine j (tag0 b)) w0 w
  bt : Bt w tag bw kl vl nb lim
  hi : lim ≤ w.heap.size
  lo : w0.heap.size ≤ lim
  bo : Bo w tag bx
  bn : ∀ x ∈ bx, w0.heap.size ≤ x.1
  pd : Pl w tag lim pl
  ps : ∀ x ∈ pl, x.2.2 = 1 ∨ x.2.2 = 4
theorem Fr.size {w0 : World} {tag0 : Nat → Nat} {j bw : Nat} {kl vl : Value} {w : World} {tag : Nat → Nat} {nb lim : Nat} {bx : List (Nat × Array Value × TypeId)} {pl : List (Value × List Int × Nat)} (h : Fr w0 tag0 j bw kl vl w tag nb lim bx pl) : w0.heap.size ≤ w.heap.size := h.out.size
theorem mine_not (j t : Nat) (h : Mine j t) : t ≠ 1 ∧ t ≠ 2 ∧ t ≠ 3 ∧ t ≠ 4 := by
  unfold Mine tP tR tV tD at h
  omega
/-- Blocks of the voter turn. -/
theorem Fr.mine {w0 : World} {tag0 : Nat → Nat} {j bw : Nat} {kl vl : Value} {w w' : World} {tag tag' : Nat → Nat} {nb lim : Nat} {bx : List (Nat × Array Value × TypeId)} {pl : List (Value × List Int × Nat)} (h : Fr w0 tag0 j bw kl vl w tag nb lim bx pl) {T : Nat → Prop} (ho : Only T w w') (hs : ∀ b, b < w.heap.size → T b → Mine j (tag b)) (ht : ∀ b, b < w.heap.size → tag' b = tag b) : Fr w0 tag0 j bw kl vl w' tag' nb lim bx pl where
  old := fun b hb => by rw [ht b (Nat.lt_of_lt_of_le hb h.size)]; exact h.old b hb
  out := by
    refine ⟨ho.os.trans h.out.os, ho.tape.trans h.out.tape, ho.output.trans h.out.output, Nat.le_trans h.size ho.size, fun i hi hn => ?_⟩
    have hi' := Nat.lt_of_lt_of_le hi h.size
    rw [ho.block i hi' fun e => hn (.inr (by rw [← h.old i hi]; exact hs i hi' e)), h.out.block i hi hn]
  bt := h.bt.only ho (fun b hb e => ⟨(mine_not j _ (hs b hb e)).1, (mine_not j _ (hs b hb e)).2.1⟩) ht h.hi
  hi := Nat.le_trans h.hi ho.size
  lo := h.lo
  bo := h.bo.only ho (fun b hb e => (mine_not j _ (hs b hb e)).2.2.1) ht
  bn := h.bn
  pd := h.pd.only ho (fun b hb e x hx => by
    obtain ⟨m1, m2, m3, m4⟩ := mine_not j _ (hs b hb e)
    rcases h.ps x hx with e' | e' <;> rw [e']
    · exact m1
    · exact m4) ht
  ps := h.ps
/-- Nothing turns. -/
theorem Fr.bl {w0 : World} {tag0 : Nat → Nat} {j bw : Nat} {kl vl : Value} {w w' : World} {tag : Nat → Nat} {nb lim : Nat} {bx : List (Nat × Array Value × TypeId)} {pl : List (Value × List Int × Nat)} (h : Fr w0 tag0 j bw kl vl w tag nb lim bx pl) (hb : Bl w w') (t : Nat) : Fr w0 tag0 j bw kl vl w' (tagTo tag w.heap.size t) nb lim bx pl :=
  h.mine (Only.of_bl (S := fun _ => False) hb) (fun _ _ e => e.elim) (fun _ hb => tagTo_old _ _ _ _ hb)
theorem Fr.add {w0 : World} {tag0 : Nat → Nat} {j bw : Nat} {kl vl : Value} {w : World} {tag : Nat → Nat} {nb lim : Nat} {bx : List (Nat × Array Value × TypeId)} {pl : List (Value × List Int × Nat)} (h : Fr w0 tag0 j bw kl vl w tag nb lim bx pl) (v : Value) (ys : List Int) (t : Nat) (ht : t = 1 ∨ t = 4) (hv : w.ownsRow lim 5 1 v ys.length (ys.map B8)) (hb : ∀ b, v.ownBlock = some b → tag b = t) : Fr w0 tag0 j bw kl vl w tag nb lim bx ((v, ys, t) :: pl) :=
  ⟨h.old, h.out, h.bt, h.hi, h.lo, h.bo, h.bn, fun x hx => by
    rcases List.mem_cons.1 hx with rfl | hx
    · exact ⟨ownsRow_base hv fun _ _ => Nat.zero_le _, fun b e => ⟨hb b e, fun _ => (hv.lt b e).1⟩⟩
    · exact h.pd x hx, fun x hx => by
    rcases List.mem_cons.1 hx with rfl | hx
    · exact ht
    · exact h.ps x hx⟩
theorem Fr.sub {w0 : World} {tag0 : Nat → Nat} {j bw : Nat} {kl vl : Value} {w : World} {tag : Nat → Nat} {nb lim : Nat} {bx : List (Nat × Array Value × TypeId)} {pl pl' : List (Value × List Int × Nat)} (h : Fr w0 tag0 j bw kl vl w tag nb lim bx pl) (hs : ∀ x ∈ pl', x ∈ pl) : Fr w0 tag0 j bw kl vl w tag nb lim bx pl' :=
  ⟨h.old, h.out, h.bt, h.hi, h.lo, h.bo, h.bn, fun x hx => h.pd x (hs x hx), fun x hx => h.ps x (hs x hx)⟩
/-- A box turns. -/
theorem Fr.box {w0 : World} {tag0 : Nat → Nat} {j bw : Nat} {kl vl : Value} {w w' : World} {tag : Nat → Nat} {nb lim : Nat} {g : Nat} {cs cs' : Array Value} {t : TypeId} {b1 b2 : List (Nat × Array Value × TypeId)} {pl : List (Value × List Int × Nat)} (h : Fr w0 tag0 j bw kl vl w tag nb lim (b1 ++ (g, cs, t) :: b2) pl) (ho : Only (fun b => b = g) w w') (hg : w'.heap[g]? = some (.cells cs' t (0, 0))) (hd : ∀ x ∈ b1 ++ b2, x.1 ≠ g) : Fr w0 tag0 j bw kl vl w' tag nb lim (b1 ++ (g, cs', t) :: b2) pl := by
  have tg : tag g = 3 := (h.bo (g, cs, t) (by simp)).2
  have ng : w0.heap.size ≤ g := h.bn (g, cs, t) (by simp)
  have hT : ∀ b, b < w.heap.size → b = g → tag b = 3 := fun b _ e => by rw [e]; exact tg
  refine ⟨h.old, ?_, h.bt.only ho (fun b hb e => by rw [hT b hb e]; omega) (fun _ _ => rfl) h.hi, Nat.le_trans h.hi ho.size, h.lo, fun x hx => ?_, fun x hx => ?_, h.pd.only ho (fun b hb e x hx => by rw [hT b hb e]; rcases h.ps x hx with e' | e' <;> rw [e'] <;> omega) (fun _ _ => rfl), h.ps⟩
  · refine ⟨ho.os.trans h.out.os, ho.tape.trans h.out.tape, ho.output.trans h.out.output, Nat.le_trans h.size ho.size, fun i hi hn => ?_⟩
    rw [ho.block i (Nat.lt_of_lt_of_le hi h.size) (by omega), h.out.block i hi hn]
  · have hx' : x = (g, cs', t) ∨ x ∈ b1 ++ b2 := by
      simp only [List.mem_append, List.mem_cons] at hx ⊢
      rcases hx with hx | hx | hx
      · exact .inr (.inl hx)
      · exact .inl hx
      · exact .inr (.inr hx)
    rcases hx' with rfl | hx'
    · exact ⟨hg, tg⟩
    · have hm : x ∈ b1 ++ (g, cs, t) :: b2 := by
        simp only [List.mem_append, List.mem_cons] at hx' ⊢
        rcases hx' with hx' | hx'
        · exact .inl hx'
        · exact .inr (.inr hx')
      obtain ⟨k1, k2⟩ := h.bo x hm
      exact ⟨(ho.block x.1 (Array.getElem?_eq_some_iff.1 k1).1 (hd x hx')).trans k1, k2⟩
  · have hx' : x.1 = g ∨ x ∈ b1 ++ (g, cs, t) :: b2 := by
      simp only [List.mem_append, List.mem_cons] at hx ⊢
      rcases hx with hx | hx | hx
      · exact .inr (.inl hx)
      · exact .inl (by rw [hx])
      · exact .inr (.inr (.inr hx))
    rcases hx' with e | hx'
    · rw [e]; exact ng
    · exact h.bn x hx'
/-- The book marks what has come out. -/
theorem Fr.byte {w0 : World} {tag0 : Nat → Nat} {j bw : Nat} {kl vl : Value} {w : World} {tag : Nat → Nat} {nb lim : Nat} {bx : List (Nat × Array Value × TypeId)} {pl : List (Value × List Int × Nat)} {v : Value} {ys : List Int} (h : Fr w0 tag0 j bw kl vl w tag nb lim bx ((v, ys, 1) :: pl)) (hp : ∀ x ∈ pl, x.2.2 = 4) (hn : ys.length ≤ 40000000) (hnb : nb < 4000000) :
    Calls Tryz.prog 36 #[.pointer (some ⟨bw, 2, none⟩), v] w fun en w' => en = .returned (.tuple #[]) ∧ ∃ tag', (∀ b, b < w.heap.size → tag' b = tag b) ∧ Fr w0 tag0 j bw kl vl w' tag' (nb + 1) w'.heap.size bx pl ∧ Only (fun b => tag b = 2 ∨ tag b = 1) w w' := by
  obtain ⟨h1, h2⟩ := h.pd (v, ys, 1) (by simp)
  refine (bt_byte h.bt v ys.length (ys.map B8) (ownsRow_base h1 fun b hb => (h2 b hb).2 rfl) (fun b hb => (h2 b hb).1) hn hnb h.hi).mono ?_
  rintro en w' ⟨rfl, ⟨tag', o1, o2, hB⟩, O⟩
  have hT : ∀ b, b < w.heap.size → (tag b = 2 ∨ v.ownBlock = some b) → tag b = 2 ∨ tag b = 1 := fun b _ e => e.imp id fun e => (h2 b e).1
  refine ⟨rfl, tag', o1, ⟨fun b hb => by rw [o1 b (Nat.lt_of_lt_of_le hb h.size)]; exact h.old b hb, ?_, hB, Nat.le_refl _, Nat.le_trans h.size O.size, h.bo.only O (fun b hb e => by rcases hT b hb e with e | e <;> rw [e] <;> omega) o1, h.bn, fun x hx => ?_, fun x hx => h.ps x (List.mem_cons_of_mem _ hx)⟩, O.mono hT⟩
  · refine ⟨O.os.trans h.out.os, O.tape.trans h.out.tape, O.output.trans h.out.output, Nat.le_trans h.size O.size, fun i hi hn => ?_⟩
    rw [O.block i (Nat.lt_of_lt_of_le hi h.size) ?_, h.out.block i hi hn]
    rintro (e | e)
    · exact hn (.inl (by rw [← h.old i hi]; exact e))
    · have := (h2 i e).2 rfl; have := h.lo; omega
  · have h3 := (Pl.only (pl := pl) (fun x hx => h.pd x (List.mem_cons_of_mem _ hx)) O (fun b hb e x hx => by rw [hp x hx]; rcases hT b hb e with e | e <;> rw [e] <;> omega) o1) x hx
    exact ⟨h3.1, fun b hb => ⟨(h3.2 b hb).1, fun e => by rw [hp x hx] at e; omega⟩⟩
end Go.Proofs.YtkgjpfamjedncaaGreat
