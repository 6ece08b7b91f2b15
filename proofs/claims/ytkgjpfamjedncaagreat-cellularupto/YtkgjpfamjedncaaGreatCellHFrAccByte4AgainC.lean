-- Boxes of a step on a unit.
-- A vote: what goes with the calls of a step on a voter.
-- A list that was only read till now is put into the book.
-- A unit of the script is opened anew from its image.
import Derived.Test.YtkgjpfamjedncaaGreatCallCFrCallsFrC
import Derived.Test.YtkgjpfamjedncaaGreatVotedPM
import Derived.Test.YtkgjpfamjedncaaGreatVOpenVFurVCallsApartStr
import Derived.Deep.DeepCutAuto
namespace Go.Proofs.YtkgjpfamjedncaaGreat
open Go.RowKit Go.Maps

/-- What is told is no longer than what the cells have. -/
theorem look_val {a b c d ch mk x : Int} {ct : Nat → Ct} (h : ∀ i, i < 16 → (ct i).val.length ≤ 255) : (lookC a b c d ch mk ct x).2.2.val.length ≤ 255 := by
  unfold lookC
  by_cases q1 : (loc a b c d x).2.2 ≠ 0 ∨ (loc a b c d x).1 ≠ ch
  · rw [if_pos q1]; exact Nat.zero_le _
  · rw [if_neg q1]
    have q1' : (loc a b c d x).2.2 = 0 := Classical.byContradiction fun e => q1 (.inl e)
    by_cases q2 : x < mk
    · rw [if_pos q2]; exact Nat.zero_le _
    · rw [if_neg q2]
      by_cases q3 : (ct (loc a b c d x).2.1.toNat).kd = 0
      · rw [if_pos q3]; exact Nat.zero_le _
      · rw [if_neg q3]
        obtain ⟨i, hi, hloc⟩ := loc_cell q1'
        rw [hloc]
        exact h i hi
/-- One box is laid. -/
theorem Fr.lay1 {w : World} {tag : Nat → Nat} {j bw : Nat} {kl vl : Value} {nb : Nat} (h : Bt w tag bw kl vl nb w.heap.size) (a : Array Value) (s : TypeId) :
    Fr w tag j bw kl vl (w.alloc (.cells a s)) (tagTo tag w.heap.size 3) nb w.heap.size [(w.heap.size, a, s)] [] := by
  refine ((Fr.start h).bl ((Bl.refl w).alloc _) 3).boxes fun x hx => ?_
  simp only [List.mem_cons, List.not_mem_nil, or_false] at hx
  rcases hx with rfl
  exact ⟨heap_alloc_new w _, tagTo_new _ _ _ _ (Nat.le_refl _), Nat.le_refl _⟩
/-- Two boxes more. -/
theorem Fr.boxed {w0 : World} {tag0 : Nat → Nat} {j bw : Nat} {kl vl : Value} {w : World} {tag : Nat → Nat} {nb lim : Nat} {bx : List (Nat × Array Value × TypeId)} {pl : List (Value × List Int × Nat)} (h : Fr w0 tag0 j bw kl vl w tag nb lim bx pl) (a b : Array Value) (s t : TypeId) :
    Fr w0 tag0 j bw kl vl ((w.alloc (.cells a s)).alloc (.cells b t)) (tagTo tag w.heap.size 3) nb lim (bx ++ [(w.heap.size, a, s), (w.heap.size + 1, b, t)]) pl := by
  have bB : Bl w ((w.alloc (.cells a s)).alloc (.cells b t)) := ((Bl.refl w).alloc _).alloc _
  have h' := h.bl bB 3
  have l1 : (w.alloc (.cells a s)).heap.size = w.heap.size + 1 := by simp
  have e1 := heap_alloc_new w (.cells a s)
  have e2 := heap_alloc_new (w.alloc (.cells a s)) (.cells b t)
  rw [l1] at e2
  have hs := h.size
  refine ⟨h'.old, h'.out, h'.bt, h'.hi, h'.lo, fun x hx => ?_, fun x hx => ?_, h'.pd, h'.ps⟩
  · rcases List.mem_append.1 hx with hx | hx
    · exact h'.bo x hx
    · simp only [List.mem_cons, List.not_mem_nil, or_false] at hx
      rcases hx with rfl | rfl
      · exact ⟨(Below.heap_alloc _ _ w.heap.size (by omega)).trans e1, tagTo_new _ _ _ _ (Nat.le_refl _)⟩
      · exact ⟨e2, tagTo_new _ _ _ _ (by simp)⟩
  · rcases List.mem_append.1 hx with hx | hx
    · exact h'.bn x hx
    · simp only [List.mem_cons, List.not_mem_nil, or_false] at hx
      rcases hx with rfl | rfl
      · exact hs
      · exact Nat.le_succ_of_le hs
/-- One box more. -/
theorem Fr.boxed1 {w0 : World} {tag0 : Nat → Nat} {j bw : Nat} {kl vl : Value} {w : World} {tag : Nat → Nat} {nb lim : Nat} {bx : List (Nat × Array Value × TypeId)} {pl : List (Value × List Int × Nat)} (h : Fr w0 tag0 j bw kl vl w tag nb lim bx pl) (a : Array Value) (s : TypeId) :
    Fr w0 tag0 j bw kl vl (w.alloc (.cells a s)) (tagTo tag w.heap.size 3) nb lim (bx ++ [(w.heap.size, a, s)]) pl := by
  have h' := h.bl ((Bl.refl w).alloc (.cells a s)) 3
  have e1 := heap_alloc_new w (.cells a s)
  refine ⟨h'.old, h'.out, h'.bt, h'.hi, h'.lo, fun x hx => ?_, fun x hx => ?_, h'.pd, h'.ps⟩
  · rcases List.mem_append.1 hx with hx | hx
    · exact h'.bo x hx
    · simp only [List.mem_cons, List.not_mem_nil, or_false] at hx
      rcases hx with rfl
      exact ⟨e1, tagTo_new _ _ _ _ (Nat.le_refl _)⟩
  · rcases List.mem_append.1 hx with hx | hx
    · exact h'.bn x hx
    · simp only [List.mem_cons, List.not_mem_nil, or_false] at hx
      rcases hx with rfl
      exact h.size
/-- Three boxes more. -/
theorem Fr.boxed3 {w0 : World} {tag0 : Nat → Nat} {j bw : Nat} {kl vl : Value} {w : World} {tag : Nat → Nat} {nb lim : Nat} {bx : List (Nat × Array Value × TypeId)} {pl : List (Value × List Int × Nat)} (h : Fr w0 tag0 j bw kl vl w tag nb lim bx pl) (a b c : Array Value) (s t v : TypeId) :
    Fr w0 tag0 j bw kl vl (((w.alloc (.cells a s)).alloc (.cells b t)).alloc (.cells c v)) (tagTo tag w.heap.size 3) nb lim (bx ++ [(w.heap.size, a, s), (w.heap.size + 1, b, t), (w.heap.size + 1 + 1, c, v)]) pl := by
  have h2 := (h.boxed a b s t).boxed1 c v
  have l2 : ((w.alloc (.cells a s)).alloc (.cells b t)).heap.size = w.heap.size + 1 + 1 := by simp
  have ht : tagTo (tagTo tag w.heap.size 3) ((w.alloc (.cells a s)).alloc (.cells b t)).heap.size 3 = tagTo tag w.heap.size 3 := by
    funext g
    unfold tagTo
    rw [l2]
    by_cases h1 : g < w.heap.size
    · simp [h1, show g < w.heap.size + 1 + 1 by omega]
    · by_cases h2 : g < w.heap.size + 1 + 1 <;> simp [h1, h2]
  rw [ht, l2, List.append_assoc] at h2
  exact h2
end Go.Proofs.YtkgjpfamjedncaaGreat

namespace Go.Proofs.YtkgjpfamjedncaaGreat
open Go.RowKit Go.Maps

theorem heap_first (w : World) (o o' : Go.Obj) : ((w.alloc o).alloc o').heap[w.heap.size]? = some o :=
  (((Bl.refl (w.alloc o)).alloc o').heap (by simp)).trans (heap_alloc_new w o)
theorem bs_row {W : World} {g cap : Nat} {ys : List Int} {f : Nat × Nat} (hys : ∀ d ∈ ys, 0 ≤ d ∧ d ≤ 255) (h : W.heap[g]? = some (.cells (bytesRow (strOf ys) cap) 5 f)) : Bs W (.slice (some ⟨g, 0, none⟩) ys.length cap) (ys.map B8) := by
  have h0 := bytes_of W ys hys cap f
  rcases h0 with ⟨e, _⟩ | ⟨ad, c, e, hc⟩
  · simp at e
  · simp only [Value.slice.injEq, Option.some.injEq] at e
    obtain ⟨rfl, _, rfl⟩ := e
    refine .inr ⟨_, cap, by rw [List.length_map], fun j u hj => ?_⟩
    have h1 := hc j u hj
    rw [add_eq, Nat.zero_add, cell_of_row _ _ j _ 5 f (heap_alloc_new W _)] at h1
    rw [add_eq, Nat.zero_add, cell_of_row _ _ j _ 5 f h]
    exact h1

/-- What was lent turns. -/
theorem Fr.five {w0 : World} {tag0 : Nat → Nat} {j bw : Nat} {kl vl : Value} {w w' : World} {tag : Nat → Nat} {nb lim : Nat} {bx : List (Nat × Array Value × TypeId)} {pl : List (Value × List Int × Nat)} (h : Fr w0 tag0 j bw kl vl w tag nb lim bx pl) {T : Nat → Prop} (ho : Only T w w') (hs : ∀ b, b < w.heap.size → T b → tag b = 5 ∧ w0.heap.size ≤ b) : Fr w0 tag0 j bw kl vl w' tag nb lim bx pl where
  old := h.old
  out := by
    refine ⟨ho.os.trans h.out.os, ho.tape.trans h.out.tape, ho.output.trans h.out.output, Nat.le_trans h.size ho.size, fun i hi hn => ?_⟩
    have hi' := Nat.lt_of_lt_of_le hi h.size
    rw [ho.block i hi' fun e => by have := (hs i hi' e).2; omega, h.out.block i hi hn]
  bt := h.bt.only ho (fun b hb e => by rw [(hs b hb e).1]; omega) (fun _ _ => rfl) h.hi
  hi := Nat.le_trans h.hi ho.size
  lo := h.lo
  bo := h.bo.only ho (fun b hb e => by rw [(hs b hb e).1]; omega) (fun _ _ => rfl)
  bn := h.bn
  pd := h.pd.only ho (fun b hb e x hx => by
    rw [(hs b hb e).1]
    rcases h.ps x hx with e' | e' <;> rw [e'] <;> omega) (fun _ _ => rfl)
  ps := h.ps
theorem mine_five (j : Nat) : ¬ Mine j 5 ∧ ¬ Mine j 3 ∧ ¬ Mine j 4 := by
  unfold Mine tP tR tV tD
  omega

section
variable {w0 : World} {tag0 : Nat → Nat} {j bw : Nat} {kl vl : Value} {w : World} {tag : Nat → Nat} {nb lim : Nat} {bx : List (Nat × Array Value × TypeId)} {pl : List (Value × List Int × Nat)} {q p y : Nat} {rs : List Rc} {S : Nat → Int → Ep} {m : Nat} {rs1 : List Rc} {S1 : Nat → Int → Ep} {E : Int → Ep} {nn : Nat}

theorem fr_accept (h : Fr w0 tag0 j bw kl vl w tag nb lim bx pl) (hv : Tri w tag j q p y rs S m rs S E nn) (e b : Int) (v : Value) (vs : List Int) (hwf : (Lit.int .i64 e).wf = true) (hbf : (Lit.int .i64 b).wf = true) (hl : (flat rs).length ≤ 30000000) (hn : rs.length ≤ 30000000) (hb : Bs w v (vs.map B8)) (hvb : ∀ g, v.ownBlock = some g → g < w.heap.size ∧ tag g ≠ tP j) (hvl : vs.length ≤ 30000000) (hys : Byt vs) :
    Calls Tryz.prog 54 #[.pointer (some ⟨p, 0, none⟩), .int .i64 e, .int .i64 b, v] w fun en w' => ∃ wh pr E' rs' S' tag', en = .returned (voteR wh pr 0 (.slice none 0 0)) ∧ AccAns (S rs.length) e b vs wh pr E' ∧ S' rs'.length = E' ∧ More rs S rs' S' ∧ (flat rs').length ≤ (flat rs).length + 24 + vs.length ∧ (∀ b, b < w.heap.size → tag' b = tag b) ∧ Only (fun b => tag b = tP j) w w' ∧ Fr w0 tag0 j bw kl vl w' tag' nb lim bx pl ∧ Tri w' tag' j q p y rs S m rs' S' E nn := by
  obtain ⟨d1, d2, d3, d4, d5, _⟩ := tP_ne j
  refine (vp_accept hv.vt e b v vs hwf hbf hl hn (fun e => hv.vt.way.ba_le _ (Nat.le_refl _) e) hb hvb hvl hys).mono ?_
  rintro en w' ⟨wh, pr, E', rs', S', rfl, hA, hvt, hE, hM, hs, O⟩
  have old : ∀ b, b < w.heap.size → tagTo tag w.heap.size (tP j) b = tag b := fun b hb => tagTo_old _ _ _ _ hb
  exact ⟨wh, pr, E', rs', S', _, rfl, hA, hE, hM, hs, old, O, h.mine O (fun b _ e => .inl e) old, hv.orr.only O (fun b _ e => by rw [e]; exact ⟨d3, d2⟩) old, hvt, hv.rt.only O (fun b _ e => by rw [e]; exact ⟨d1, d2⟩) old⟩

theorem fr_refAccept (h : Fr w0 tag0 j bw kl vl w tag nb lim bx pl) (hv : Tri w tag j q p y rs S m rs1 S1 E nn) (e b : Int) (v : Value) (vs : List Int) (hnn : nn ≤ 4000000) (hlow : e < 1 → E e = nop) (hb : Bs w v (vs.map B8)) (hvb : ∀ g, v.ownBlock = some g → tag g ≠ tR j) (hvl : vs.length ≤ 30000000) :
    Calls Tryz.prog 55 #[.pointer (some ⟨y, 0, none⟩), .int .i64 e, .int .i64 b, v] w fun en w' => ∃ wh pr E' tag', en = .returned (voteR wh pr 0 (.slice none 0 0)) ∧ AccAns E e b vs wh pr E' ∧ (∀ b, b < w.heap.size → tag' b = tag b) ∧ Only (fun b => tag b = tR j) w w' ∧ Fr w0 tag0 j bw kl vl w' tag' nb lim bx pl ∧ Tri w' tag' j q p y rs S m rs1 S1 E' (nn + 1) := by
  obtain ⟨d1, d2, d3, d4, d5, _⟩ := tP_ne j
  refine (rt_accept hv.rt e b v vs hnn hlow hb hvb hvl).mono ?_
  rintro en w' ⟨wh, pr, E', tag', rfl, hA, hOn, hrt, O⟩
  exact ⟨wh, pr, E', tag', rfl, hA, hOn.old, O, h.mine O (fun b _ e => .inr (.inl e)) hOn.old, hv.orr.only O (fun b _ e => by rw [e]; exact ⟨d5, d4⟩) hOn.old, hv.vt.only O (fun b _ e => by rw [e]; exact Ne.symm d1) hOn.old, hrt⟩
end
end Go.Proofs.YtkgjpfamjedncaaGreat

namespace Go.Proofs.YtkgjpfamjedncaaGreat
open Go.RowKit Go.Maps

theorem bt_byte4 {w : World} {tag : Nat → Nat} {bw : Nat} {kl vl : Value} {nb lim : Nat} (h : Bt w tag bw kl vl nb lim) (v : Value) (n : Nat) (xs : List Value) (hv : w.ownsRow 0 5 1 v n xs) (ht : ∀ b, v.ownBlock = some b → tag b = 4) (hn : n ≤ 40000000) (hnb : nb < 4000000) (hl : lim ≤ w.heap.size) :
    Calls Tryz.prog 36 #[.pointer (some ⟨bw, 2, none⟩), v] w fun en w' => en = .returned (.tuple #[]) ∧ (∃ tag', (∀ b, b < w.heap.size → v.ownBlock ≠ some b → tag' b = tag b) ∧ (∀ b, v.ownBlock = some b → tag' b = 1) ∧ Bt w' tag' bw kl vl (nb + 1) w'.heap.size) ∧ Only (fun b => tag b = 2 ∨ v.ownBlock = some b) w w' := by
  obtain ⟨bl, xb, h1, h2, h3, h4⟩ := h
  refine (bookByte_any 0 bw kl vl bl (.slice none 0 0) (.slice none 0 0) nb xb 0 v n xs w h1 hv (Nat.zero_le _) hn hnb (fun u hu b hb e => ?_)).mono ?_
  · have k1 := ht b hb
    have k2 := (h4 u hu b e).1
    omega
  rintro en w' ⟨bl', o1, o2, o3, rfl, r1, r1', r2, r3⟩
  obtain ⟨tag', htt⟩ : ∃ tag', tag' = fun b => if v.ownBlock = some b then 1 else if b < w.heap.size then tag b else if bl'.ownBlock = some b then 2 else 1 := ⟨_, rfl⟩
  have old : ∀ b, b < w.heap.size → v.ownBlock ≠ some b → tag' b = tag b := fun b hb hne => by rw [htt]; simp [hb, hne]
  have own : ∀ b, v.ownBlock = some b → tag' b = 1 := fun b hb => by rw [htt]; simp [hb]
  have new : ∀ b, w.heap.size ≤ b → v.ownBlock ≠ some b → tag' b = if bl'.ownBlock = some b then 2 else 1 := fun b hb hne => by rw [htt]; simp only; rw [if_neg hne, if_neg (by omega)]
  have nbw : v.ownBlock ≠ some bw := fun e => by have := ht bw e; omega
  refine ⟨rfl, ⟨tag', old, own, bl', _, r1, by rw [old bw h1.lt nbw]; exact h2, fun b hb => ?_, fun u hu b hb => ?_⟩, r2.mono fun b _ e => ?_⟩
  · by_cases hlt : b < w.heap.size
    · rcases r1' b hb with h' | h'
      · rw [old b hlt (fun e => by have := ht b e; have := h3 b h'; omega)]; exact h3 b h'
      · omega
    · rw [new b (by omega) (fun e => hlt (hv.lt b e).2), if_pos hb]
  · rw [List.mem_append] at hu
    rcases hu with hu | hu
    · obtain ⟨k1, k2⟩ := h4 u hu b hb
      have := r2.size
      exact ⟨by rw [old b (by omega) (fun e => by have := ht b e; omega)]; exact k1, by omega⟩
    · have hfin : ∀ u' m ys, w'.ownsRow 0 5 1 u' m ys → u'.ownBlock = some b → (v.ownBlock = some b ∨ w.heap.size ≤ b) → tag' b = 1 ∧ b < w'.heap.size := by
        intro u' m ys ho hb' hor
        refine ⟨?_, (ho.lt b hb').2⟩
        by_cases hvb : v.ownBlock = some b
        · exact own b hvb
        · rcases hor with h' | h'
          · exact absurd h' hvb
          · rw [new b h' hvb, if_neg fun e => ownsRow_type ho r1.ob (by decide) b hb' e]
      obtain ⟨n', v', a1, a2, a3, hn', g0, g1, g2, g3, g4, hm⟩ := r1.eb nb (by omega)
      have hxl : xb.length = nb * 5 := h1.ob.1
      rw [List.getElem?_append_right (by omega), hxl] at g0 g1 g2 g3
      simp at g0 g1 g2 g3
      subst g0 g1 g2 g3
      simp only [List.mem_cons, List.not_mem_nil, or_false] at hu
      rcases hu with rfl | rfl | rfl | rfl | rfl
      · exact hfin _ _ _ hm.h0 hb (.inl hb)
      · exact hfin _ _ _ hm.h1 hb (r3 _ (by simp) b hb)
      · exact hfin _ _ _ hm.h2 hb (r3 _ (by simp) b hb)
      · exact hfin _ _ _ hm.h3 hb (r3 _ (by simp) b hb)
      · simp [Value.ownBlock] at hb
  · rcases e with rfl | e | e
    · exact .inl h2
    · exact .inl (h3 b e)
    · exact .inr e

section
variable {w : World} {tag tag' : Nat → Nat} {j q p y : Nat} {a b c d u ch : Int} {rs rs1 : List Rc} {S S1 : Nat → St} {s : St} {m nn tg tr tv : Nat}
theorem Kt.retag (h : Kt w tag tg p a b c d ch rs S) (ht : ∀ g, tag g = tg → tag' g = tag g) : Kt w tag' tg p a b c d ch rs S := by
  obtain ⟨K, hk, hw, hp, hg⟩ := h
  exact ⟨K, hk, hw, by rw [ht p hp]; exact hp, fun g hF => by rw [ht g (hg g hF)]; exact hg g hF⟩
theorem Dt.retag (h : Dt w tag tr tv y a b c d u s nn) (ht : ∀ g, tag g = tr ∨ tag g = tv → tag' g = tag g) : Dt w tag' tr tv y a b c d u s nn := by
  obtain ⟨lv, n, F, h0, h1, h2, h3, h4, h5⟩ := h
  exact ⟨lv, n, F, h0, h1, h2, by rw [ht y (.inl h3)]; exact h3, fun g hg => by rw [ht g (.inl (h4 g hg))]; exact h4 g hg, fun i hi g hg => by rw [ht g (.inr (h5 i hi g hg))]; exact h5 i hi g hg⟩
theorem PastC.retag {t : Nat} {l : Value} {ct : Nat → Ct} (h : PastC w tag t l a b c d u ct) (ht : ∀ g, tag g = t → tag' g = tag g) : PastC w tag' t l a b c d u ct := by
  obtain ⟨n, F, h0, h1, h2, h3, h4⟩ := h
  exact ⟨n, F, h0, h1, h2, fun g hg => by rw [ht g (h3 g hg)]; exact h3 g hg, fun i hi => ⟨(h4 i hi).1, fun g hg => by rw [ht g ((h4 i hi).2 g hg)]; exact (h4 i hi).2 g hg⟩⟩
theorem OrrC.retag (h : OrrC w tag j q p y a b c d u rs S m) (ht : ∀ g, Mine j (tag g) → tag' g = tag g) : OrrC w tag' j q p y a b c d u rs S m := by
  obtain ⟨pv, sv, G, ks, e1, e2, e3, e4, e5, e6, e7, e8⟩ := h
  have hD : ∀ g, tag g = tD j → tag' g = tag g := fun g e => ht g (.inr (.inr (.inr e)))
  have hV : ∀ g, tag g = tV j → tag' g = tag g := fun g e => ht g (.inr (.inr (.inl e)))
  exact ⟨pv, sv, G, ks, e1, by rw [hD q e2]; exact e2, e3, fun g hg => by rw [hD g (e4 g hg)]; exact e4 g hg, e5, fun g hg => by rw [hD g (e6 g hg)]; exact e6 g hg, e7, fun i hi => ⟨(e8 i hi).1, (e8 i hi).2.1, (e8 i hi).2.2.retag hV⟩⟩
theorem TriC.retag (h : TriC w tag j q p y a b c d u ch rs S m rs1 S1 s nn) (ht : ∀ g, Mine j (tag g) → tag' g = tag g) : TriC w tag' j q p y a b c d u ch rs S m rs1 S1 s nn :=
  ⟨h.orr.retag ht, h.kt.retag fun g e => ht g (.inl e), h.dt.retag fun g e => ht g (e.elim (fun e => .inr (.inl e)) (fun e => .inr (.inr (.inl e))))⟩
end

theorem Kt.byte4 {w w' : World} {tag tag' : Nat → Nat} {j p : Nat} {a b c d ch : Int} {rs : List Rc} {S : Nat → St} {v : Value} (h : Kt w tag (tP j) p a b c d ch rs S) (O : Only (fun g => tag g = 2 ∨ v.ownBlock = some g) w w') (h4 : ∀ g, v.ownBlock = some g → tag g = 4) (o1 : ∀ g, g < w.heap.size → v.ownBlock ≠ some g → tag' g = tag g) : Kt w' tag' (tP j) p a b c d ch rs S := by
  obtain ⟨tagX, hX⟩ : ∃ t, t = fun g => if g < w.heap.size then tag g else tag' g := ⟨_, rfl⟩
  have oX : ∀ g, g < w.heap.size → tagX g = tag g := fun g hg => by rw [hX]; simp [hg]
  have n2 : tP j ≠ 2 ∧ tP j ≠ 4 := by unfold tP; omega
  have hT := h.only (tag' := tagX) O (fun g _ e e' => by
    rcases e with e | e
    · exact n2.1 (e'.symm.trans e)
    · exact n2.2 (e'.symm.trans (h4 g e))) oX
  refine hT.retag fun g hM => ?_
  by_cases hg : g < w.heap.size
  · rw [oX g hg] at hM ⊢
    exact o1 g hg fun e => n2.2 (hM.symm.trans (h4 g e))
  · rw [hX]; simp [hg]

theorem fr_byte4 {w0 : World} {tag0 : Nat → Nat} {j bw : Nat} {kl vl : Value} {w : World} {tag : Nat → Nat} {nb lim : Nat} {bx : List (Nat × Array Value × TypeId)} {v : Value} {ys : List Int} (h : Fr w0 tag0 j bw kl vl w tag nb lim bx [(v, ys, 4)]) (hv0 : ∀ g, v.ownBlock = some g → w0.heap.size ≤ g) {q p y : Nat} {a b c d u ch : Int} {rs rs1 : List Rc} {S S1 : Nat → St} {s : St} {m nn : Nat} (hO : TriC w tag j q p y a b c d u ch rs S m rs1 S1 s nn) (hn : ys.length ≤ 40000000) (hnb : nb < 4000000) :
    Calls Tryz.prog 36 #[.pointer (some ⟨bw, 2, none⟩), v] w fun en w' => en = .returned (.tuple #[]) ∧ ∃ tag', Fr w0 tag0 j bw kl vl w' tag' (nb + 1) w'.heap.size bx [] ∧ TriC w' tag' j q p y a b c d u ch rs S m rs1 S1 s nn ∧ Only (fun g => tag g = 2 ∨ v.ownBlock = some g) w w' ∧ ∀ g, g < w.heap.size → v.ownBlock ≠ some g → tag' g = tag g := by
  obtain ⟨m1, m2, _⟩ := mine_small j
  obtain ⟨_, _, m4⟩ := mine_five j
  obtain ⟨k1, k2⟩ := h.pd (v, ys, 4) (by simp)
  refine (bt_byte4 h.bt v ys.length (ys.map B8) k1 (fun g e => (k2 g e).1) hn hnb h.hi).mono ?_
  rintro en w' ⟨rfl, ⟨tag', o1, o2, hB⟩, O⟩
  have hsz := h.size
  refine ⟨rfl, tag', ⟨fun g hg => ?_, ?_, hB, Nat.le_refl _, Nat.le_trans hsz O.size, fun x hx => ?_, h.bn, fun x hx => by simp at hx, fun x hx => by simp at hx⟩, ?_, O, o1⟩
  · rw [o1 g (Nat.lt_of_lt_of_le hg hsz) (fun e => by have := hv0 g e; omega)]; exact h.old g hg
  · refine ⟨O.os.trans h.out.os, O.tape.trans h.out.tape, O.output.trans h.out.output, Nat.le_trans hsz O.size, fun i hi hn => ?_⟩
    rw [O.block i (Nat.lt_of_lt_of_le hi hsz) ?_, h.out.block i hi hn]
    rintro (e | e)
    · exact hn (.inl (by rw [← h.old i hi]; exact e))
    · have := hv0 i e; omega
  · obtain ⟨g1, g2⟩ := h.bo x hx
    have lx := (Array.getElem?_eq_some_iff.1 g1).1
    have hvx : v.ownBlock ≠ some x.1 := fun e => by have := (k2 x.1 e).1; rw [g2] at this; simp at this
    refine ⟨(O.block x.1 lx ?_).trans g1, by rw [o1 x.1 lx hvx]; exact g2⟩
    rintro (e | e)
    · rw [g2] at e; omega
    · exact hvx e
  · obtain ⟨tagX, hX⟩ : ∃ t, t = fun g => if g < w.heap.size then tag g else tag' g := ⟨_, rfl⟩
    have oX : ∀ g, g < w.heap.size → tagX g = tag g := fun g hg => by rw [hX]; simp [hg]
    have hT := hO.only (tag' := tagX) O (fun g _ e => by
      rcases e with e | e
      · rw [e]; exact m2
      · rw [(k2 g e).1]; exact m4) oX
    refine hT.retag fun g hM => ?_
    by_cases hg : g < w.heap.size
    · rw [oX g hg] at hM ⊢
      exact o1 g hg fun e => by rw [(k2 g e).1] at hM; exact m4 hM
    · rw [hX]; simp [hg]
end Go.Proofs.YtkgjpfamjedncaaGreat

namespace Go.Proofs.YtkgjpfamjedncaaGreat
open Go.RowKit Go.Maps
attribute [local go_sem ↓] Go.wp_at_zero Go.wp_at_succ

/-- The unit's cells are others: their block is laid into the script's struct. -/
theorem TriC.swap {w : World} {tag : Nat → Nat} {j q p p' y : Nat} {a b c d u ch : Int} {rs rs1 rs2 : List Rc} {S S1 S2 : Nat → St} {s : St} {m nn : Nat} (h : TriC w tag j q p y a b c d u ch rs S m rs1 S1 s nn) (hk : Kt w tag (tP j) p' a b c d ch rs2 S2) :
    TriC (w.setCell ⟨q, 0, none⟩ (.pointer (some ⟨p', 0, none⟩))) tag j q p' y a b c d u ch rs S m rs2 S2 s nn := by
  obtain ⟨⟨pv, sv, G, ks, e1, e2, e3, e4, e5, e6, e7, e8⟩, hkt, hdt⟩ := h
  obtain ⟨d1, d2, d3⟩ := tD_ne j
  have O : Only (fun g => g = q) w (w.setCell ⟨q, 0, none⟩ (.pointer (some ⟨p', 0, none⟩))) := (Only.refl (fun g => g = q) w).setCell ⟨q, 0, none⟩ (.inl rfl) _
  have hq : ∀ {t : Nat}, t ≠ tD j → ∀ g, g < w.heap.size → g = q → tag g ≠ t := fun ht g _ e e' => ht (by rw [← e', e]; exact e2)
  refine ⟨⟨pv, sv, G, ks, heap_setCell_same w q 0 _ 80 _ e1, e2, O.owns e3 fun g hg e => own_ne_block e3 e1 (by decide) (by rw [hg, e]), e4, O.owns e5 fun g hg e => own_ne_block e5 e1 (by decide) (by rw [hg, e]), e6, e7, fun i hi => ⟨(e8 i hi).1, (e8 i hi).2.1, (e8 i hi).2.2.only O (hq (Ne.symm d3)) (fun _ _ => rfl)⟩⟩, hk.only O (hq (Ne.symm d1)) (fun _ _ => rfl), hdt.only O (fun g hg e => ⟨hq (Ne.symm d2) g hg e, hq (Ne.symm d3) g hg e⟩) (fun _ _ => rfl)⟩

theorem fr_imageN {w0 : World} {tag0 : Nat → Nat} {j bw : Nat} {kl vl : Value} {w : World} {tag : Nat → Nat} {nb lim : Nat} {bx : List (Nat × Array Value × TypeId)} {pl : List (Value × List Int × Nat)} {p : Nat} {a b c d ch : Int} {rs1 : List Rc} {S1 : Nat → St} (h : Fr w0 tag0 j bw kl vl w tag nb lim bx pl) (hv : Kt w tag (tP j) p a b c d ch rs1 S1) (hl : (flat rs1).length ≤ 30000000) (t : Nat) (ht : t = 1 ∨ t = 4) :
    Calls Tryz.prog 35 #[.pointer (some ⟨p, 0, none⟩)] w fun en w' => ∃ ia ic, en = .returned (.slice ia (flat rs1).length ic) ∧ Bl w w' ∧ Fr w0 tag0 j bw kl vl w' (tagTo tag w.heap.size t) nb lim bx ((.slice ia (flat rs1).length ic, flat rs1, t) :: pl) ∧ ∀ g, (Value.slice ia (flat rs1).length ic).ownBlock = some g → w.heap.size ≤ g := by
  refine (kt_image hv hl).mono ?_
  rintro en w' ⟨v, rfl, hb, ho⟩
  obtain ⟨ia, ic, rfl⟩ := owned_slice' ho
  exact ⟨ia, ic, rfl, hb, (h.bl hb t).add _ _ t ht (ownsRow_base ho fun g e => Nat.le_trans h.hi (ho.lt g e).1) (fun g e => tagTo_new _ _ _ _ (ho.lt g e).1), fun g e => (ho.lt g e).1⟩

set_option maxRecDepth 100000 in
set_option maxHeartbeats 4000000 in
theorem againC_any (bw j q : Nat) (kl vl : Value) (nb m nn : Nat) (rs : List Rc) (S : Nat → St) (tag : Nat → Nat) (ka kb kc kd u ch : Int) (w : World)
    (hB : Bt w tag bw kl vl nb w.heap.size) (hO : ObC w tag j q ka kb kc kd u ch rs S m nn) (hl : (flat rs).length ≤ 30000000) (hnb : nb + 1 < 4000000) :
    Calls Tryz.prog 12 #[.pointer (some ⟨bw, 0, none⟩), .pointer (some ⟨q, 0, none⟩)] w fun en w' => en = .returned (.bool true) ∧
      (∃ tag', (∀ g, g < w.heap.size → tag' g = tag g) ∧ Bt w' tag' bw kl vl (nb + 2) w'.heap.size ∧ ObC w' tag' j q ka kb kc kd u ch rs S m nn) ∧ Only (fun g => tag g = 2 ∨ Mine j (tag g)) w w' := by
  obtain ⟨hcha, p, y, hOr, hKt, hDt⟩ := hO
  obtain ⟨cx, cy, lq, tq⟩ := hOr.cells
  have lbw := hB.lt.1
  have hF := Fr.start (j := j) hB
  have hT : TriC w tag j q p y ka kb kc kd u ch rs S m rs S (S rs.length) nn := ⟨hOr, hKt, hDt⟩
  have HI := hid (fr_imageK hF hT.kt hl 1 (.inl rfl))
  have HT := hid hT
  have Hway := hid hKt.way
  have Hcha := hid hcha
  clear hB hOr hKt hDt hF hT hcha
  go_enter Tryz.func12, Tryz.ntmps12
  go_wp2_with fail
  refine HI.out.mono ?_
  rintro en w1 ⟨ca, cc, rfl, hb1, hF1⟩
  have hT1 := HT.out.bl hb1 1
  have hcv := (hF1.pd _ (.head _)).1
  simp only at hcv
  have kc1 := conv_any _ (flat rs) w1 (ownsRow_sl hcv)
  have HV : Hid (∀ W, Bl w1 W → _) := fun W hW => kt_open Hway.out u Hcha.out ca (flat rs).length cc hl (cut_own ((Only.of_bl (S := fun _ => False) hW).owns hcv fun _ _ e => e)) (tagTo tag w.heap.size 1) (tP j)
  have cy1 := hT1.orr.cells.2.1
  have lq1 := hT1.orr.cells.2.2.1
  obtain ⟨lv, ny, Fy, hy0, hCw, hy2⟩ := hT1.dt
  obtain ⟨y0, y1, y2, y3, y4, _⟩ := hCw.cells
  have ly := hCw.lt
  generalize hst : strOf (flat rs) = st at *
  have Hst := hid hst
  have HF1 := hid hF1
  have HT1 := hid hT1
  have Hcv := hid hcv
  have Hb1 := hid hb1
  clear hst hF1 hT1 hcv hb1 hCw hy2 HI HT cx cy
  go_upto_region 3 with fail
  go_cut [7, 8] from 18 to 36 (fun x e wx => ∃ p' tag2, x = .pointer (some ⟨p', 0, none⟩) ∧ e = .int .i64 0 ∧ Hid (Bl w1 wx) ∧ Hid (∀ g, g < w1.heap.size → tag2 g = tagTo tag w.heap.size 1 g) ∧ Hid (Kt wx tag2 (tP j) p' ka kb kc kd ch rs S))
  case first =>
    go_region_held3 (fun W => W.cell? ⟨q, 1, none⟩ = some (.pointer (some ⟨y, 0, none⟩)) ∧ W.cell? ⟨y, 0, none⟩ = some (.int .i64 ka) ∧ W.cell? ⟨y, 1, none⟩ = some (.int .i64 kb) ∧ W.cell? ⟨y, 2, none⟩ = some (.int .i64 kc) ∧ W.cell? ⟨y, 3, none⟩ = some (.int .i64 kd) ∧ W.cell? ⟨y, 4, none⟩ = some (.int .i64 u)) (go_keep)
      (first | (go_at_call 29; refine (HV.out _ ?hb).mono ?_; (case hb => first | exact (Bl.refl _).drewN _ | exact (Bl.refl _).drew | exact Bl.refl _); rintro en w2 ⟨k, p', rfl, hk1, hk2, hk3, hp', hb2, hv2⟩; have hbb : Bl w1 w2 := Bl.trans (by first | exact (Bl.refl _).drewN _ | exact (Bl.refl _).drew | exact Bl.refl _) hb2; have z1 := (hbb.cell lq1).trans cy1; have x0 := (hbb.cell ly).trans y0; have x1 := (hbb.cell ly).trans y1; have x2 := (hbb.cell ly).trans y2; have x3 := (hbb.cell ly).trans y3; have x4 := (hbb.cell ly).trans y4; have HX := hid (And.intro hk1 (And.intro hk2 (And.intro hk3 (And.intro hbb hv2)))); clear hk1 hk2 hk3 hbb hv2 hb2))
    all_goals (go_wp2_with fail; go_meet)
    all_goals
      obtain ⟨hk1, hk2, hk3, hbb, hv2⟩ := HX.out
      have hk : k = rs.length := by
        apply Classical.byContradiction
        intro hne
        have hlt : k < rs.length := by omega
        have h3 := hk3 hlt
        rw [← off_succ rs k hlt, ← off_all] at h3
        have := off_mono rs (k + 1) rs.length (by omega) (Nat.le_refl _)
        omega
      subst hk
      rw [List.take_of_length_le (Nat.le_refl _)] at hv2
      exact ⟨p', _, rfl, rfl, hbb, fun g hg => tagTo_old _ _ _ _ (by first | exact hg | exact Nat.lt_of_lt_of_le hg (Nat.le_refl _)), hv2⟩
  case rest =>
    obtain ⟨p', tag2, rfl, rfl, HB2, Ho2, HK2⟩ := hcut
    have hF2 := HF1.out.mine (Only.of_bl (S := fun _ => False) HB2.out) (fun _ _ e => e.elim) Ho2.out
    have hT2 := HT1.out.only (Only.of_bl (S := fun _ => False) HB2.out) (fun _ _ e => e.elim) Ho2.out
    have hcv2 := (Only.of_bl (S := fun _ => False) HB2.out).owns Hcv.out fun _ _ e => e
    have kc2 := conv_any _ (flat rs) wc (ownsRow_sl hcv2)
    rw [Hst.out] at kc2
    have HI2 := hid (fr_imageN hF2 HK2.out hl 4 (.inr rfl))
    have HT2 := hid hT2
    clear HV HF1 HT1 kc1 hF2 hT2 hcv2 cy1 lq1 y0 y1 y2 y3 y4 ly
    go_wp2_with fail
    refine HI2.out.mono ?_
    rintro en w3 ⟨ia, ic, rfl, hb3, hF3, hi3⟩
    have hiv := (hF3.pd _ (.head _)).1
    simp only at hiv
    have kc3 := conv_any _ (flat rs) w3 (ownsRow_sl hiv)
    rw [Hst.out] at kc3
    have hT3 := HT2.out.bl hb3 4
    have hK3 : Kt w3 (tagTo tag2 wc.heap.size 4) (tP j) p' ka kb kc kd ch rs S := HK2.out.only (Only.of_bl (S := fun _ => False) hb3) (fun _ _ e => e.elim) (fun _ hg => tagTo_old _ _ _ _ hg)
    have hi0 : ∀ g, (Value.slice ia (flat rs).length ic).ownBlock = some g → w.heap.size ≤ g := fun g e => by
      have h1 := Hb1.out.lt
      have h2 := HB2.out.lt
      have h3 := hi3 g e
      omega
    have HP := hid ((hF3.sub (pl' := [(.slice ca (flat rs).length cc, flat rs, 1), (.slice ia (flat rs).length ic, flat rs, 4)]) (by intro x hx; simp at hx; rcases hx with rfl | rfl <;> simp)).byte (by intro x hx; simp at hx; rw [hx]) (by omega) (by omega))
    generalize tagTo tag2 wc.heap.size 4 = tag3 at *
    have HT3 := hid hT3
    have HK3 := hid hK3
    have lb3 : bw < w3.heap.size := by have := hF3.size; omega
    clear HI2 HT2 hb3 hF3 hiv hT3 hK3 kc2 hi3
    go_wp2_with fail
    refine HP.out.mono ?_
    rintro en w4 ⟨rfl, tag4, o4, hF4, O4⟩
    obtain ⟨m1, m2, _⟩ := mine_small j
    have hT4 := HT3.out.only (tag' := tag4) O4 (fun g _ e => by rcases e with e | e <;> rw [e]; exact m2; exact m1) o4
    have hK4 := HK3.out.only (tag' := tag4) O4 (fun g _ e e' => by rcases e with e | e <;> (rw [e'] at e; unfold tP at e; omega)) o4
    have h44 : ∀ g, (Value.slice ia (flat rs).length ic).ownBlock = some g → tag4 g = 4 := fun g e => ((hF4.pd _ (.head _)).2 g e).1
    have HP4 := hid (fr_byte4 hF4 hi0 hT4 (by omega) (by omega))
    have HK4 := hid hK4
    have H44 := hid h44
    have lb4 : bw < w4.heap.size := by have := hF4.size; omega
    clear HP HT3 HK3 hF4 hT4 hK4 O4 o4 h44 lb3
    go_wp2_with fail
    refine HP4.out.mono ?_
    rintro en w5 ⟨rfl, tag5, hF5, hT5, O5, o5⟩
    have hK5 := HK4.out.byte4 O5 H44.out o5
    have hT6 := hT5.swap hK5
    obtain ⟨cx5, _, lq5, tq5⟩ := hT5.orr.cells
    have fx5 : w5.frozen? ⟨q, 0, none⟩ = false := by
      obtain ⟨pv, sv, G, ks, e1, _⟩ := hT5.orr
      exact frozen_of_row w5 q 0 _ 80 e1
    have O6 : Only (fun g => g = q) w5 (w5.setCell ⟨q, 0, none⟩ (.pointer (some ⟨p', 0, none⟩))) := (Only.refl (fun g => g = q) w5).setCell ⟨q, 0, none⟩ (.inl rfl) _
    have hF6 := hF5.mine O6 (fun g _ e => by rw [e, tq5]; exact .inr (.inr (.inr rfl))) (fun _ _ => rfl)
    have HF6 := hid hF6
    have HT6 := hid hT6
    clear HP4 hF5 hT5 O5 o5 hK5 hT6 O6 hF6 HK4 H44
    go_wp2
    go_ret
    exact ⟨rfl, ⟨tag5, HF6.out.old, HF6.out.bt.mono (by simp [World.setCell]), ⟨Hcha.out, p', y, HT6.out.orr, HT6.out.kt, HT6.out.dt⟩⟩, HF6.out.out⟩
end Go.Proofs.YtkgjpfamjedncaaGreat
