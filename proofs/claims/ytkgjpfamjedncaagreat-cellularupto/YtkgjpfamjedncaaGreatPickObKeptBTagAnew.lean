-- What was kept, and the beginning of an image.
-- Behind a call a voter of the script is kept.
-- The book of bytes, with marks: its own blocks bear 2, what it has marked bears 1.
-- A voter of the script is opened anew from its image, in its place.
import Derived.Test.YtkgjpfamjedncaaGreatLastObjVSpecRSpec
namespace Go.Proofs.YtkgjpfamjedncaaGreat
open Go.RowKit Go.Maps

theorem lastTo_spec (zs : List Int) (n : Int) : ∀ k, (∃ i, i < k ∧ zs.getD i 0 ≤ n) → lastTo zs n k < k ∧ zs.getD (lastTo zs n k) 0 ≤ n ∧ ∀ j, lastTo zs n k < j → j < k → ¬ zs.getD j 0 ≤ n := by
  intro k
  induction k with
  | zero => rintro ⟨i, hi, _⟩; omega
  | succ k ih =>
    rintro ⟨i, hi, hz⟩
    unfold lastTo
    by_cases e : zs.getD k 0 ≤ n
    · rw [if_pos e]
      exact ⟨by omega, e, fun j h1 h2 => by omega⟩
    · rw [if_neg e]
      have hik : i ≠ k := fun e' => e (by rw [← e']; exact hz)
      obtain ⟨h1, h2, h3⟩ := ih ⟨i, by omega, hz⟩
      refine ⟨by omega, h2, fun j hj1 hj2 => ?_⟩
      by_cases ej : j = k
      · rw [ej]; exact e
      · exact h3 j hj1 (by omega)
theorem off_mono (rs : List Rc) : ∀ a b, a ≤ b → b ≤ rs.length → off rs a ≤ off rs b := by
  intro a b hab
  induction b with
  | zero => intro _; rw [show a = 0 by omega]; exact Nat.le_refl _
  | succ b ih =>
    intro hb
    by_cases e : a = b + 1
    · rw [e]; exact Nat.le_refl _
    · have := ih (by omega) (by omega)
      have := off_succ rs b (by omega)
      omega
/-- The sizes that were kept. -/
def szs (rs : List Rc) (ks : Nat → Nat) (m : Nat) : List Int := (List.range m).map fun i => ((off rs (ks i) : Nat) : Int)
theorem szs_get (rs : List Rc) (ks : Nat → Nat) (m i : Nat) (h : i < m) : (szs rs ks m).getD i 0 = (off rs (ks i) : Nat) := by
  simp [szs, List.getD, h]
theorem szs_len (rs : List Rc) (ks : Nat → Nat) (m : Nat) : (szs rs ks m).length = m := by simp [szs]
/-- The one that is picked goes with the records of which all is there. -/
theorem Kp.picks {rs : List Rc} {ks : Nat → Nat} {m : Nat} (h : Kp rs ks m) (K n : Nat) (hK : K ≤ rs.length) (h1 : off rs K ≤ n) (h2 : ∀ h : K < rs.length, n < off rs K + rs[K].bytes.length) : lastTo (szs rs ks m) n m < m ∧ ks (lastTo (szs rs ks m) n m) = K := by
  have hp := h.pos
  have hle : ∀ i, i < m → ks i ≤ rs.length := fun i hi => by
    have := h.mono i (m - 1) (by omega) (by omega)
    rw [h.last] at this; exact this
  have hiff : ∀ i, i < m → ((szs rs ks m).getD i 0 ≤ (n : Int) ↔ ks i ≤ K) := fun i hi => by
    rw [szs_get rs ks m i hi]
    constructor
    · intro hz
      apply Classical.byContradiction
      intro hgt
      have hlt : K < rs.length := by have := hle i hi; omega
      have h3 := h2 hlt
      have h4 := off_succ rs K hlt
      have h5 := off_mono rs (K + 1) (ks i) (by omega) (hle i hi)
      omega
    · intro hk
      have := off_mono rs (ks i) K hk hK
      omega
  obtain ⟨i0, hi0, hk0⟩ := h.all (m - 1) (by omega) K (by rw [h.last]; exact hK)
  obtain ⟨a1, a2, a3⟩ := lastTo_spec (szs rs ks m) n m ⟨i0, by omega, (hiff i0 (by omega)).2 (by omega)⟩
  refine ⟨a1, ?_⟩
  have b1 := (hiff _ a1).1 a2
  have b2 : i0 ≤ lastTo (szs rs ks m) n m := by
    apply Classical.byContradiction
    intro hlt
    exact a3 i0 (by omega) (by omega) ((hiff i0 (by omega)).2 (by omega))
  have b3 := h.mono i0 _ b2 a1
  omega
end Go.Proofs.YtkgjpfamjedncaaGreat

namespace Go.Proofs.YtkgjpfamjedncaaGreat
open Go.RowKit Go.Maps

theorem More.len {rs : List Rc} {S : Nat → Int → Ep} {rs' : List Rc} {S' : Nat → Int → Ep} (h : More rs S rs' S') : rs'.length = rs.length ∨ rs'.length = rs.length + 1 := by
  rcases h with ⟨rfl, _⟩ | ⟨r, E', rfl, _⟩
  · exact .inl rfl
  · exact .inr (by simp)
theorem More.off {rs : List Rc} {S : Nat → Int → Ep} {rs' : List Rc} {S' : Nat → Int → Ep} (h : More rs S rs' S') (k : Nat) (hk : k ≤ rs.length) : off rs' k = off rs k := by
  rcases h with ⟨rfl, _⟩ | ⟨r, E', rfl, _⟩
  · rfl
  · unfold Go.Proofs.YtkgjpfamjedncaaGreat.off
    rw [List.take_append_of_le_length hk]
theorem More.st {rs : List Rc} {S : Nat → Int → Ep} {rs' : List Rc} {S' : Nat → Int → Ep} (h : More rs S rs' S') (k : Nat) (hk : k ≤ rs.length) : S' k = S k := by
  rcases h with ⟨_, rfl⟩ | ⟨r, E', _, rfl⟩
  · rfl
  · exact upS_old _ _ _ _ hk
theorem Kp.more {rs : List Rc} {S : Nat → Int → Ep} {rs' : List Rc} {S' : Nat → Int → Ep} (h : More rs S rs' S') {ks : Nat → Nat} {m : Nat} (hk : Kp rs ks m) : Kp rs' (fun i => if i = m then rs'.length else ks i) (m + 1) := by
  have hp := hk.pos
  refine ⟨by omega, ?_, fun i hi => ?_, ?_⟩
  · rw [if_neg (by omega)]; exact hk.zero
  · by_cases e : i + 1 = m
    · rw [if_pos e, if_neg (by omega), show i = m - 1 by omega, hk.last]
      exact h.len
    · rw [if_neg e, if_neg (by omega)]; exact hk.step i (by omega)
  · rw [show m + 1 - 1 = m by omega, if_pos rfl]
theorem Kp.le {rs : List Rc} {ks : Nat → Nat} {m : Nat} (h : Kp rs ks m) (i : Nat) (hi : i < m) : ks i ≤ rs.length := by
  have := h.mono i (m - 1) (by omega) (by omega)
  rw [h.last] at this; exact this

/-- A voter of the script between its call and its keeping. -/
structure Om (w : World) (tag : Nat → Nat) (j q p y : Nat) (rs : List Rc) (S : Nat → Int → Ep) (rs' : List Rc) (S' : Nat → Int → Ep) (m nn : Nat) : Prop where
  vt : Vt w tag (tP j) p rs' S'
  rt : Rt w tag j y (S' rs'.length) nn
  more : More rs S rs' S'
  ex : ∃ pv sv xs ks, w.heap[q]? = some (.cells #[.pointer (some ⟨p, 0, none⟩), .pointer (some ⟨y, 0, none⟩), pv, sv] 91 (0, 0)) ∧ tag q = tD j ∧
    w.ownsRow 0 88 1 pv m xs ∧ (∀ b, pv.ownBlock = some b → tag b = tD j) ∧ w.ownsRow 0 3 1 sv m ((List.range m).map fun i => .int .i64 (off rs (ks i) : Nat)) ∧ (∀ b, sv.ownBlock = some b → tag b = tD j) ∧
    Kp rs ks m ∧ ∀ i, i < m → ∃ l, xs[i]? = some l ∧ Past w tag (tV j) l (S (ks i))

theorem tD_ne (j : Nat) : tD j ≠ tP j ∧ tD j ≠ tR j ∧ tD j ≠ tV j := by unfold tD tP tR tV; omega
theorem om_kept {w : World} {tag : Nat → Nat} {j q p y : Nat} {rs : List Rc} {S : Nat → Int → Ep} {rs' : List Rc} {S' : Nat → Int → Ep} {m nn : Nat} (h : Om w tag j q p y rs S rs' S' m nn) (hm : m ≤ 4000000) (hnn : nn < 4000000) (hl : (flat rs').length ≤ 30000000) :
    Calls Tryz.prog 34 #[.pointer (some ⟨q, 0, none⟩)] w fun en w' => en = .returned (.tuple #[]) ∧ (∃ tag', (∀ b, b < w.heap.size → tag' b = tag b) ∧ (∀ b, w.heap.size ≤ b → Mine j (tag' b)) ∧ Ob 0 w' tag' j q rs' S' (m + 1) nn) ∧ Only (fun b => tag b = tD j) w w' := by
  obtain ⟨⟨bm, M, vi, hv, hw, t1, t2, t3⟩, ⟨lv, n, F, h0, h1, h2, h3, h4, h5⟩, hmore, pv, sv, xs, ks, e1, e2, e3, e4, e5, e6, e7, e8⟩ := h
  obtain ⟨d1, d2, d3⟩ := tD_ne j
  have lq := (Array.getElem?_eq_some_iff.1 e1).1
  have hK : ∀ b, Kfoot q pv sv b → tag b = tD j := by
    rintro b (rfl | hb | hb)
    · exact e2
    · exact e4 b hb
    · exact e6 b hb
  refine (kept_any 0 q p y pv sv lv m n xs _ F bm rs'.length (S' rs'.length) (flat rs') M vi w e1 h1 hv e3 e5 (Nat.zero_le _) hm (by omega) hl (fun b hb => ⟨fun e => d1 (by rw [← hK b hb, e]; exact t1), fun e => d1 (by rw [← hK b hb, e]; exact t2), fun hF => d1 (by rw [← hK b hb]; exact t3 b hF)⟩)).mono ?_
  rintro en w' ⟨pv', sv', lc, rfl, r1, r2, r3, r4, r5, r6, r7⟩
  have O : Only (fun b => tag b = tD j) w w' := r5.mono fun b _ e => hK b e
  refine ⟨rfl, ?_, O⟩
  obtain ⟨tag', ht⟩ : ∃ tag', tag' = fun b => if b < w.heap.size then tag b else if pv'.ownBlock = some b ∨ sv'.ownBlock = some b then tD j else tV j := ⟨_, rfl⟩
  have old : ∀ b, b < w.heap.size → tag' b = tag b := fun b hb => by rw [ht]; simp [hb]
  have new : ∀ b, w.heap.size ≤ b → tag' b = if pv'.ownBlock = some b ∨ sv'.ownBlock = some b then tD j else tV j := fun b hb => by rw [ht]; simp only; rw [if_neg (by omega)]
  have nP : ∀ b, b < w.heap.size → tag b = tD j → tag b ≠ tP j := fun b _ e e' => d1 (e.symm.trans e')
  have nR : ∀ b, b < w.heap.size → tag b = tD j → tag b ≠ tR j ∧ tag b ≠ tV j := fun b _ e => ⟨fun e' => d2 (e.symm.trans e'), fun e' => d3 (e.symm.trans e')⟩
  have hvt : Vt w' tag' (tP j) p rs' S' := Vt.only (w := w) (tag := tag) ⟨bm, M, vi, hv, hw, t1, t2, t3⟩ O nP old
  have hrt : Rt w' tag' j y (S' rs'.length) nn := Rt.only (w := w) (tag := tag) ⟨lv, n, F, h0, h1, h2, h3, h4, h5⟩ O nR old
  have hpt : ∀ b, pv'.ownBlock = some b → tag' b = tD j := fun b hb => by
    by_cases hlt : b < w.heap.size
    · rcases r6 b hb with h' | h'
      · rw [old b hlt]; exact e4 b h'
      · omega
    · rw [new b (by omega), if_pos (.inl hb)]
  have hst : ∀ b, sv'.ownBlock = some b → tag' b = tD j := fun b hb => by
    by_cases hlt : b < w.heap.size
    · rcases r7 b hb with h' | h'
      · rw [old b hlt]; exact e6 b h'
      · omega
    · rw [new b (by omega), if_pos (.inr hb)]
  have hlen : xs.length = m := ownsRow_len e3
  refine ⟨tag', old, fun b hb => ?_, p, y, pv', sv', xs ++ [lc], _, r1, by rw [old q lq]; exact e2, hvt, hrt, r2, hpt, ?_, hst, e7.more hmore, fun i hi => ?_⟩
  · rw [new b hb]
    split
    · exact .inr (.inr (.inr rfl))
    · exact .inr (.inr (.inl rfl))
  · have heq : (List.range (m + 1)).map (fun i => Value.int .i64 (off rs' (if i = m then rs'.length else ks i) : Nat)) = ((List.range m).map fun i => Value.int .i64 (off rs (ks i) : Nat)) ++ [.int .i64 (flat rs').length] := by
      rw [List.range_succ, List.map_append]
      congr 1
      · refine List.map_congr_left fun i hi => ?_
        have hi' : i < m := by simpa using hi
        rw [if_neg (by omega), hmore.off _ (e7.le i hi')]
      · simp [off_all]
    rw [heq]
    exact r3
  · by_cases ei : i = m
    · subst ei
      refine ⟨lc, by rw [List.getElem?_append_right (by omega), hlen]; simp, ?_⟩
      rw [if_pos rfl]
      refine ⟨n, F, by omega, ownsRow_base r4 fun _ _ => Nat.zero_le _, h2, fun b hb => ?_, fun k hk => ⟨?_, fun b hb => ?_⟩⟩
      · rw [new b (r4.lt b hb).1, if_neg]
        rintro (e | e)
        · exact ownsRow_type r4 r2 (by decide) b hb e
        · exact ownsRow_type r4 r3 (by decide) b hb e
      · exact O.owns (h1.val k hk) fun b hb e => d3 (e.symm.trans (h5 k hk b hb))
      · rw [old b ((h1.val k hk).lt b hb).2]; exact h5 k hk b hb
    · obtain ⟨l, k1, k2⟩ := e8 i (by omega)
      refine ⟨l, by rw [List.getElem?_append_left (by omega)]; exact k1, ?_⟩
      rw [if_neg ei, hmore.st _ (e7.le i (by omega))]
      exact k2.only O (fun b hb e => (nR b hb e).2) old
end Go.Proofs.YtkgjpfamjedncaaGreat

namespace Go.Proofs.YtkgjpfamjedncaaGreat
open Go.RowKit Go.Maps

/-- The book, and all that it has marked lies below lim. -/
structure Bt (w : World) (tag : Nat → Nat) (bw : Nat) (kl vl : Value) (nb lim : Nat) : Prop where
  ex : ∃ bl xb, BookB 0 w bw kl vl bl (.slice none 0 0) (.slice none 0 0) nb xb ∧ tag bw = 2 ∧ (∀ b, bl.ownBlock = some b → tag b = 2) ∧ ∀ u ∈ xb, ∀ b, u.ownBlock = some b → tag b = 1 ∧ b < lim
theorem Bt.only {T : Nat → Prop} {w w' : World} {tag tag' : Nat → Nat} {bw : Nat} {kl vl : Value} {nb lim : Nat} (h : Bt w tag bw kl vl nb lim) (ho : Only T w w') (hs : ∀ b, b < w.heap.size → T b → tag b ≠ 1 ∧ tag b ≠ 2) (ht : ∀ b, b < w.heap.size → tag' b = tag b) (hl : lim ≤ w.heap.size) : Bt w' tag' bw kl vl nb lim := by
  obtain ⟨bl, xb, h1, h2, h3, h4⟩ := h
  have lb := h1.lt
  refine ⟨bl, xb, h1.only ho (fun e => (hs bw lb e).2 h2) (fun b hb e => (hs b (h1.ob.lt b hb).2 e).2 (h3 b hb)) (fun u hu b hb e => (hs b (by have := (h4 u hu b hb).2; omega) e).1 (h4 u hu b hb).1), by rw [ht bw lb]; exact h2, fun b hb => by rw [ht b (h1.ob.lt b hb).2]; exact h3 b hb, fun u hu b hb => ?_⟩
  obtain ⟨k1, k2⟩ := h4 u hu b hb
  exact ⟨by rw [ht b (by omega)]; exact k1, k2⟩
theorem Bt.mono {w : World} {tag : Nat → Nat} {bw : Nat} {kl vl : Value} {nb lim lim' : Nat} (h : Bt w tag bw kl vl nb lim) (hl : lim ≤ lim') : Bt w tag bw kl vl nb lim' := by
  obtain ⟨bl, xb, h1, h2, h3, h4⟩ := h
  exact ⟨bl, xb, h1, h2, h3, fun u hu b hb => ⟨(h4 u hu b hb).1, by have := (h4 u hu b hb).2; omega⟩⟩
theorem Bt.lt {w : World} {tag : Nat → Nat} {bw : Nat} {kl vl : Value} {nb lim : Nat} (h : Bt w tag bw kl vl nb lim) : bw < w.heap.size ∧ tag bw = 2 := by
  obtain ⟨bl, xb, h1, h2, _⟩ := h
  exact ⟨h1.lt, h2⟩

theorem bt_byte {w : World} {tag : Nat → Nat} {bw : Nat} {kl vl : Value} {nb lim : Nat} (h : Bt w tag bw kl vl nb lim) (v : Value) (n : Nat) (xs : List Value) (hv : w.ownsRow lim 5 1 v n xs) (ht : ∀ b, v.ownBlock = some b → tag b = 1) (hn : n ≤ 40000000) (hnb : nb < 4000000) (hl : lim ≤ w.heap.size) :
    Calls Tryz.prog 36 #[.pointer (some ⟨bw, 2, none⟩), v] w fun en w' => en = .returned (.tuple #[]) ∧ (∃ tag', (∀ b, b < w.heap.size → tag' b = tag b) ∧ (∀ b, w.heap.size ≤ b → tag' b = 1 ∨ tag' b = 2) ∧ Bt w' tag' bw kl vl (nb + 1) w'.heap.size) ∧ Only (fun b => tag b = 2 ∨ v.ownBlock = some b) w w' := by
  obtain ⟨bl, xb, h1, h2, h3, h4⟩ := h
  refine (bookByte_any 0 bw kl vl bl (.slice none 0 0) (.slice none 0 0) nb xb lim v n xs w h1 hv hl hn hnb (fun u hu b hb e => ?_)).mono ?_
  · have k1 := (hv.lt b hb).1
    have k2 := (h4 u hu b e).2
    omega
  rintro en w' ⟨bl', o1, o2, o3, rfl, r1, r1', r2, r3⟩
  obtain ⟨tag', htt⟩ : ∃ tag', tag' = fun b => if b < w.heap.size then tag b else if bl'.ownBlock = some b then 2 else 1 := ⟨_, rfl⟩
  have old : ∀ b, b < w.heap.size → tag' b = tag b := fun b hb => by rw [htt]; simp [hb]
  have new : ∀ b, w.heap.size ≤ b → tag' b = if bl'.ownBlock = some b then 2 else 1 := fun b hb => by rw [htt]; simp only; rw [if_neg (by omega)]
  refine ⟨rfl, ⟨tag', old, fun b hb => ?_, bl', _, r1, by rw [old bw h1.lt]; exact h2, fun b hb => ?_, fun u hu b hb => ?_⟩, r2.mono fun b _ e => ?_⟩
  · rw [new b hb]
    split
    · exact .inr rfl
    · exact .inl rfl
  · by_cases hlt : b < w.heap.size
    · rcases r1' b hb with h' | h'
      · rw [old b hlt]; exact h3 b h'
      · omega
    · rw [new b (by omega), if_pos hb]
  · rw [List.mem_append] at hu
    rcases hu with hu | hu
    · obtain ⟨k1, k2⟩ := h4 u hu b hb
      have := r2.size
      exact ⟨by rw [old b (by omega)]; exact k1, by omega⟩
    · have hfin : ∀ u' m ys, w'.ownsRow 0 5 1 u' m ys → u'.ownBlock = some b → (v.ownBlock = some b ∨ w.heap.size ≤ b) → tag' b = 1 ∧ b < w'.heap.size := by
        intro u' m ys ho hb' hor
        refine ⟨?_, (ho.lt b hb').2⟩
        by_cases hlt : b < w.heap.size
        · rcases hor with h' | h'
          · rw [old b hlt]; exact ht b h'
          · omega
        · rw [new b (by omega), if_neg fun e => ownsRow_type ho r1.ob (by decide) b hb' e]
      obtain ⟨n', v', a1, a2, a3, hn', g0, g1, g2, g3, g4, hm⟩ := r1.eb nb (by omega)
      have hxl : xb.length = nb * 5 := h1.ob.1
      rw [List.getElem?_append_right (by omega), hxl] at g0 g1 g2 g3
      simp at g0 g1 g2 g3
      subst g0 g1 g2 g3
      simp only [List.mem_cons, List.not_mem_nil, or_false] at hu
      rcases hu with rfl | rfl | rfl | rfl | rfl
      · exact hfin _ _ _ hm.h0 hb (.inl hb)
      · exact hfin _ _ _ hm.h1 hb (r3 _ (by simp) b hb)
      · exact hfin _ _ _ hm.h2 hb (r3 _ (by simp) b hb)
      · exact hfin _ _ _ hm.h3 hb (r3 _ (by simp) b hb)
      · simp [Value.ownBlock] at hb
  · rcases e with rfl | e | e
    · exact .inl h2
    · exact .inl (h3 b e)
    · exact .inr e
theorem bt_looks {w : World} {tag : Nat → Nat} {bw : Nat} {kl vl : Value} {nb lim : Nat} (h : Bt w tag bw kl vl nb lim) (hnb : nb ≤ 4000000) : Calls Tryz.prog 9 #[.pointer (some ⟨bw, 2, none⟩)] w fun e w' => e = .returned (.bool true) ∧ Bl w w' := by
  obtain ⟨bl, xb, h1, _⟩ := h
  exact looksB_any 0 bw kl vl bl nb xb w h1 hnb
end Go.Proofs.YtkgjpfamjedncaaGreat

namespace Go.Proofs.YtkgjpfamjedncaaGreat
open Go.RowKit Go.Maps
attribute [local go_sem ↓] Go.wp_at_zero Go.wp_at_succ

theorem Ob.x {w : World} {tag : Nat → Nat} {j q : Nat} {rs : List Rc} {S : Nat → Int → Ep} {m nn : Nat} (h : Ob 0 w tag j q rs S m nn) : ∃ p, w.cell? ⟨q, 0, none⟩ = some (.pointer (some ⟨p, 0, none⟩)) ∧ q < w.heap.size ∧ tag q = tD j ∧ Vt w tag (tP j) p rs S ∧ w.frozen? ⟨q, 0, none⟩ = false := by
  obtain ⟨p, y, pv, sv, xs, ks, h1, h2, h3, _⟩ := h
  exact ⟨p, cell_of_row w q 0 _ 91 (0, 0) h1, (Array.getElem?_eq_some_iff.1 h1).1, h2, h3, frozen_of_row w q 0 _ 91 h1⟩
/-- The program's voter is another one, with the same records. -/
theorem Ob.swap {w : World} {tag : Nat → Nat} {j q p' : Nat} {rs : List Rc} {S : Nat → Int → Ep} {m nn : Nat} (h : Ob 0 w tag j q rs S m nn) (hv : Vt w tag (tP j) p' rs S) : Ob 0 (w.setCell ⟨q, 0, none⟩ (.pointer (some ⟨p', 0, none⟩))) tag j q rs S m nn := by
  obtain ⟨p, y, pv, sv, xs, ks, h1, h2, h3, h4, h5, h6, h7, h8, h9, h10⟩ := h
  obtain ⟨d1, d2, d3⟩ := tD_ne j
  have O : Only (fun b => b = q) w (w.setCell ⟨q, 0, none⟩ (.pointer (some ⟨p', 0, none⟩))) := (Only.refl (fun b => b = q) w).setCell ⟨q, 0, none⟩ (.inl rfl) _
  have nq : ∀ b, b < w.heap.size → b = q → tag b = tD j := fun b _ e => by rw [e]; exact h2
  refine ⟨p', y, pv, sv, xs, ks, heap_setCell_same w q 0 _ 91 _ h1, h2, hv.only O (fun b hb e e' => d1 ((nq b hb e).symm.trans e')) (fun _ _ => rfl), h4.only O (fun b hb e => ⟨fun e' => d2 ((nq b hb e).symm.trans e'), fun e' => d3 ((nq b hb e).symm.trans e')⟩) (fun _ _ => rfl), O.owns h5 fun b hb e => own_ne_block h5 h1 (by decide) (by rw [hb, e]), h6, O.owns h7 fun b hb e => own_ne_block h7 h1 (by decide) (by rw [hb, e]), h8, h9, fun i hi => ?_⟩
  obtain ⟨l, k1, k2⟩ := h10 i hi
  exact ⟨l, k1, k2.only O (fun b hb e e' => d3 ((nq b hb e).symm.trans e')) (fun _ _ => rfl)⟩
theorem mine_small (j : Nat) : ¬ Mine j 1 ∧ ¬ Mine j 2 ∧ ¬ Mine j 0 := by
  unfold Mine tP tR tV tD
  omega

/-- A step of the script, as it is handed on. -/
def opR (kd a b c q1 q2 q3 q4 : Int) (la : Option Addr) (ln lc : Nat) (ua : Option Addr) (un uc : Nat) (s : ByteArray) (t1 t2 t3 : Int) (va : Option Addr) (vn vc : Nat) : Array Value := #[.int .i64 kd, .int .i64 a, .int .i64 b, .int .i64 c, .int .i64 q1, .int .i64 q2, .int .i64 q3, .int .i64 q4, .slice la ln lc, .slice ua un uc, .string s, .int .i64 t1, .int .i64 t2, .int .i64 t3, .slice va vn vc]

set_option maxRecDepth 100000 in
set_option maxHeartbeats 4000000 in
theorem votedAnew_any (bw j q : Nat) (kl vl : Value) (nb m nn : Nat) (rs : List Rc) (S : Nat → Int → Ep) (tag : Nat → Nat) (a b c q1 q2 q3 q4 : Int) (la : Option Addr) (ln lc : Nat) (ua : Option Addr) (un uc : Nat) (s : ByteArray) (t1 t2 t3 : Int) (va : Option Addr) (vn vc : Nat) (w : World)
    (hB : Bt w tag bw kl vl nb w.heap.size) (hO : Ob 0 w tag j q rs S m nn) (hl : (flat rs).length ≤ 30000000) (hnb : nb < 4000000) :
    Calls Tryz.prog 15 #[.pointer (some ⟨bw, 0, none⟩), .agg (opR 12 a b c q1 q2 q3 q4 la ln lc ua un uc s t1 t2 t3 va vn vc), .pointer (some ⟨q, 0, none⟩)] w fun en w' => en = .returned (.bool true) ∧
      (∃ tag', (∀ b, b < w.heap.size → tag' b = tag b) ∧ Bt w' tag' bw kl vl (nb + 1) w'.heap.size ∧ Ob 0 w' tag' j q rs S m nn) ∧ Only (fun b => tag b = 2 ∨ Mine j (tag b)) w w' := by
  obtain ⟨p, cx, lq, tq, hvt, fx⟩ := hO.x
  obtain ⟨m1, m2, m0⟩ := mine_small j
  have lbw := hB.lt.1
  have bA := (Bl.refl w).alloc (.cells (opR 12 a b c q1 q2 q3 q4 la ln lc ua un uc s t1 t2 t3 va vn vc) 44)
  have HI := hid (vt_image (hvt.bl bA) hl)
  have HB := hid hB
  have HO := hid hO
  have HbA := hid bA
  have hway := hid hvt.way
  clear hB hO hvt bA
  unfold opR at HI HbA ⊢
  go_enter Tryz.func15, Tryz.ntmps15
  go_wp2_with fail
  refine HI.out.mono ?_
  rintro en w1 ⟨cv, rfl, hb1, hcv⟩
  obtain ⟨ca, cc, rfl⟩ := owned_slice' hcv
  have B1 := HbA.out.trans hb1
  have kc1 := conv_any _ (flat rs) w1 (ownsRow_sl hcv)
  have HV := hid (vt_open hway.out ca (flat rs).length cc hl (cut_own hcv) (tagTo tag w.heap.size 1) (tP j))
  have Hcv := hid hcv
  have HB1 := hid B1
  clear HI hb1 hcv B1 HbA
  generalize hst : strOf (flat rs) = st at *
  have Hst := hid hst
  clear hst
  go_wp2_with fail
  refine HV.out.mono ?_
  rintro en w2 ⟨k, p', rfl, hk1, hk2, hk3, hp', hb2, hv2⟩
  have hk : k = rs.length := by
    apply Classical.byContradiction
    intro hne
    have hlt : k < rs.length := by omega
    have h3 := hk3 hlt
    rw [← off_succ rs k hlt, ← off_all] at h3
    have := off_mono rs (k + 1) rs.length (by omega) (Nat.le_refl _)
    omega
  subst hk
  rw [List.take_of_length_le (Nat.le_refl _)] at hv2
  have B2 := HB1.out.trans hb2
  have hcv2 := (Only.of_bl (S := fun _ => False) hb2).owns Hcv.out fun _ _ e => e
  have kc2 := conv_any _ (flat rs) w2 (ownsRow_sl hcv2)
  rw [Hst.out] at kc2
  have HI2 := hid (vt_image hv2 hl)
  have HV2 := hid hv2
  have Hb2 := hid hb2
  have HB2 := hid B2
  clear HV hb2 hv2 B2 hcv2 hk1 hk2 hk3 kc1
  go_wp2_with fail
  refine HI2.out.mono ?_
  rintro en w3 ⟨iv, rfl, hb3, hiv⟩
  obtain ⟨ia, ic, rfl⟩ := owned_slice' hiv
  have kc3 := conv_any _ (flat rs) w3 (ownsRow_sl hiv)
  rw [Hst.out] at kc3
  have B3 := HB2.out.trans hb3
  obtain ⟨tag3, ht3⟩ : ∃ tag3, tag3 = tagTo (tagTo (tagTo tag w.heap.size 1) w1.heap.size (tP j)) w2.heap.size 1 := ⟨_, rfl⟩
  have l1 := HB1.out.lt
  have l2 := Hb2.out.lt
  have l3 := hb3.lt
  have old3 : ∀ b, b < w.heap.size → tag3 b = tag b := fun b hb => by rw [ht3, tagTo_old _ _ _ _ (by omega), tagTo_old _ _ _ _ (by omega), tagTo_old _ _ _ _ hb]
  have hcv3 : w3.ownsRow w.heap.size 5 1 (.slice ca (flat rs).length cc) (flat rs).length ((flat rs).map B8) := by
    have h1 := (Only.of_bl (S := fun _ => False) (Hb2.out.trans hb3)).owns Hcv.out fun _ _ e => e
    exact ownsRow_base h1 fun b hb => by have := (h1.lt b hb).1; simp at this; omega
  have hct : ∀ b, (Value.slice ca (flat rs).length cc).ownBlock = some b → tag3 b = 1 := fun b hb => by
    have k1 := (Hcv.out.lt b hb)
    have k2 := (hcv3.lt b hb).1
    rw [ht3, tagTo_old _ _ _ _ (by omega), tagTo_old _ _ _ _ (by omega), tagTo_new _ _ _ _ k2]
  have hBt3 := HB.out.only (tag' := tag3) (Only.of_bl (S := fun _ => False) B3) (fun _ _ e => e.elim) old3 (Nat.le_refl _)
  have hOb3 := HO.out.only (tag' := tag3) (Only.of_bl (S := fun _ => False) B3) (fun _ _ e => e.elim) old3
  have hVt3 := HV2.out.only (tag' := tag3) (Only.of_bl (S := fun _ => False) hb3) (fun _ _ e => e.elim) (fun b hb => by rw [ht3, tagTo_old _ _ _ _ hb])
  have HP := hid (bt_byte hBt3 _ _ _ hcv3 hct (by omega) hnb (by omega))
  have HOb3 := hid hOb3
  have HVt3 := hid hVt3
  have Hct := hid hct
  have Hold3 := hid old3
  have HB3 := hid B3
  have Hcv3 := hid hcv3
  clear HI2 hb3 hiv hBt3 hOb3 hVt3 hct old3 B3 hcv3 ht3 HB HO HV2
  go_wp2_with fail
  refine HP.out.mono ?_
  rintro en w4 ⟨rfl, ⟨tag4, o4, n4, hBt4⟩, O4⟩
  have hOb4 := HOb3.out.only (tag' := tag4) O4 (fun b _ e => by
    rcases e with e | e
    · rw [e]; exact m2
    · rw [Hct.out b e]; exact m1) o4
  have hVt4 := HVt3.out.only (tag' := tag4) O4 (fun b _ e => by
    rcases e with e | e
    · rw [e]; unfold tP; omega
    · rw [Hct.out b e]; unfold tP; omega) o4
  obtain ⟨p4, cx4, lq4, tq4, _, fx4⟩ := hOb4.x
  have hfin := hOb4.swap hVt4
  have hB5 := (hBt4.only (tag' := tag4) ((Only.refl (fun b => b = q) w4).setCell ⟨q, 0, none⟩ (.inl rfl) (.pointer (some ⟨p', 0, none⟩))) (fun b _ e => by rw [e, tq4]; unfold tD; omega) (fun _ _ => rfl) (Nat.le_refl _)).mono (lim' := (w4.setCell ⟨q, 0, none⟩ (.pointer (some ⟨p', 0, none⟩))).heap.size) (by simp [World.setCell])
  have lw3 := HB3.out.lt
  have OF : Only (fun b => tag b = 2 ∨ Mine j (tag b)) w (w4.setCell ⟨q, 0, none⟩ (.pointer (some ⟨p', 0, none⟩))) := by
    have h1 : Only (fun b => tag b = 2 ∨ Mine j (tag b)) w w4 := by
      refine ⟨O4.os.trans HB3.out.os, O4.tape.trans HB3.out.tape, O4.output.trans HB3.out.output, Nat.le_trans lw3 O4.size, fun i hi hn => ?_⟩
      rw [O4.block i (by omega) ?_, HB3.out.heap hi]
      rintro (e | e)
      · exact hn (.inl (by rw [← Hold3.out i hi]; exact e))
      · have := (Hcv3.out.lt i e).1; omega
    exact h1.setCell ⟨q, 0, none⟩ (.inl (.inr (by show Mine j (tag q); rw [tq]; exact .inr (.inr (.inr rfl))))) _
  have HF := hid hfin
  have H5 := hid hB5
  have HOF := hid OF
  have Ho4 : Hid (∀ b, b < w.heap.size → tag4 b = tag b) := fun b hb => by rw [o4 b (by omega), Hold3.out b hb]
  clear hfin hB5 OF hOb4 hVt4 O4 o4 n4 hBt4 HP
  go_wp2
  go_ret
  exact ⟨rfl, ⟨tag4, Ho4.out, H5.out, HF.out⟩, HOF.out⟩
end Go.Proofs.YtkgjpfamjedncaaGreat
