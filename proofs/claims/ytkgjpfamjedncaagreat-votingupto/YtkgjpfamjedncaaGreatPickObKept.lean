-- What was kept, and the beginning of an image.
-- Behind a call a voter of the script is kept.
import Derived.Test.YtkgjpfamjedncaaGreatLastObj
import Derived.Test.YtkgjpfamjedncaaGreatVSpecRSpec
namespace Go.Proofs.YtkgjpfamjedncaaGreat
open Go.RowKit Go.Maps

theorem lastTo_spec (zs : List Int) (n : Int) : ∀ k, (∃ i, i < k ∧ zs.getD i 0 ≤ n) → lastTo zs n k < k ∧ zs.getD (lastTo zs n k) 0 ≤ n ∧ ∀ j, lastTo zs n k < j → j < k → ¬ zs.getD j 0 ≤ n := by
  intro k
  induction k with
  | zero => rintro ⟨i, hi, _⟩; omega
  | succ k ih =>
    rintro ⟨i, hi, hz⟩
    unfold lastTo
    by_cases e : zs.getD k 0 ≤ n
    · rw [if_pos e]
      exact ⟨by omega, e, fun j h1 h2 => by omega⟩
    · rw [if_neg e]
      have hik : i ≠ k := fun e' => e (by rw [← e']; exact hz)
      obtain ⟨h1, h2, h3⟩ := ih ⟨i, by omega, hz⟩
      refine ⟨by omega, h2, fun j hj1 hj2 => ?_⟩
      by_cases ej : j = k
      · rw [ej]; exact e
      · exact h3 j hj1 (by omega)
theorem off_mono (rs : List Rc) : ∀ a b, a ≤ b → b ≤ rs.length → off rs a ≤ off rs b := by
  intro a b hab
  induction b with
  | zero => intro _; rw [show a = 0 by omega]; exact Nat.le_refl _
  | succ b ih =>
    intro hb
    by_cases e : a = b + 1
    · rw [e]; exact Nat.le_refl _
    · have := ih (by omega) (by omega)
      have := off_succ rs b (by omega)
      omega
/-- The sizes that were kept. -/
def szs (rs : List Rc) (ks : Nat → Nat) (m : Nat) : List Int := (List.range m).map fun i => ((off rs (ks i) : Nat) : Int)
theorem szs_get (rs : List Rc) (ks : Nat → Nat) (m i : Nat) (h : i < m) : (szs rs ks m).getD i 0 = (off rs (ks i) : Nat) := by
  simp [szs, List.getD, h]
theorem szs_len (rs : List Rc) (ks : Nat → Nat) (m : Nat) : (szs rs ks m).length = m := by simp [szs]
/-- The one that is picked goes with the records of which all is there. -/
theorem Kp.picks {rs : List Rc} {ks : Nat → Nat} {m : Nat} (h : Kp rs ks m) (K n : Nat) (hK : K ≤ rs.length) (h1 : off rs K ≤ n) (h2 : ∀ h : K < rs.length, n < off rs K + rs[K].bytes.length) : lastTo (szs rs ks m) n m < m ∧ ks (lastTo (szs rs ks m) n m) = K := by
  have hp := h.pos
  have hle : ∀ i, i < m → ks i ≤ rs.length := fun i hi => by
    have := h.mono i (m - 1) (by omega) (by omega)
    rw [h.last] at this; exact this
  have hiff : ∀ i, i < m → ((szs rs ks m).getD i 0 ≤ (n : Int) ↔ ks i ≤ K) := fun i hi => by
    rw [szs_get rs ks m i hi]
    constructor
    · intro hz
      apply Classical.byContradiction
      intro hgt
      have hlt : K < rs.length := by have := hle i hi; omega
      have h3 := h2 hlt
      have h4 := off_succ rs K hlt
      have h5 := off_mono rs (K + 1) (ks i) (by omega) (hle i hi)
      omega
    · intro hk
      have := off_mono rs (ks i) K hk hK
      omega
  obtain ⟨i0, hi0, hk0⟩ := h.all (m - 1) (by omega) K (by rw [h.last]; exact hK)
  obtain ⟨a1, a2, a3⟩ := lastTo_spec (szs rs ks m) n m ⟨i0, by omega, (hiff i0 (by omega)).2 (by omega)⟩
  refine ⟨a1, ?_⟩
  have b1 := (hiff _ a1).1 a2
  have b2 : i0 ≤ lastTo (szs rs ks m) n m := by
    apply Classical.byContradiction
    intro hlt
    exact a3 i0 (by omega) (by omega) ((hiff i0 (by omega)).2 (by omega))
  have b3 := h.mono i0 _ b2 a1
  omega
end Go.Proofs.YtkgjpfamjedncaaGreat

namespace Go.Proofs.YtkgjpfamjedncaaGreat
open Go.RowKit Go.Maps

theorem More.len {rs : List Rc} {S : Nat → Int → Ep} {rs' : List Rc} {S' : Nat → Int → Ep} (h : More rs S rs' S') : rs'.length = rs.length ∨ rs'.length = rs.length + 1 := by
  rcases h with ⟨rfl, _⟩ | ⟨r, E', rfl, _⟩
  · exact .inl rfl
  · exact .inr (by simp)
theorem More.off {rs : List Rc} {S : Nat → Int → Ep} {rs' : List Rc} {S' : Nat → Int → Ep} (h : More rs S rs' S') (k : Nat) (hk : k ≤ rs.length) : off rs' k = off rs k := by
  rcases h with ⟨rfl, _⟩ | ⟨r, E', rfl, _⟩
  · rfl
  · unfold Go.Proofs.YtkgjpfamjedncaaGreat.off
    rw [List.take_append_of_le_length hk]
theorem More.st {rs : List Rc} {S : Nat → Int → Ep} {rs' : List Rc} {S' : Nat → Int → Ep} (h : More rs S rs' S') (k : Nat) (hk : k ≤ rs.length) : S' k = S k := by
  rcases h with ⟨_, rfl⟩ | ⟨r, E', _, rfl⟩
  · rfl
  · exact upS_old _ _ _ _ hk
theorem Kp.more {rs : List Rc} {S : Nat → Int → Ep} {rs' : List Rc} {S' : Nat → Int → Ep} (h : More rs S rs' S') {ks : Nat → Nat} {m : Nat} (hk : Kp rs ks m) : Kp rs' (fun i => if i = m then rs'.length else ks i) (m + 1) := by
  have hp := hk.pos
  refine ⟨by omega, ?_, fun i hi => ?_, ?_⟩
  · rw [if_neg (by omega)]; exact hk.zero
  · by_cases e : i + 1 = m
    · rw [if_pos e, if_neg (by omega), show i = m - 1 by omega, hk.last]
      exact h.len
    · rw [if_neg e, if_neg (by omega)]; exact hk.step i (by omega)
  · rw [show m + 1 - 1 = m by omega, if_pos rfl]
theorem Kp.le {rs : List Rc} {ks : Nat → Nat} {m : Nat} (h : Kp rs ks m) (i : Nat) (hi : i < m) : ks i ≤ rs.length := by
  have := h.mono i (m - 1) (by omega) (by omega)
  rw [h.last] at this; exact this

/-- A voter of the script between its call and its keeping. -/
structure Om (w : World) (tag : Nat → Nat) (j q p y : Nat) (rs : List Rc) (S : Nat → Int → Ep) (rs' : List Rc) (S' : Nat → Int → Ep) (m nn : Nat) : Prop where
  vt : Vt w tag (tP j) p rs' S'
  rt : Rt w tag j y (S' rs'.length) nn
  more : More rs S rs' S'
  ex : ∃ pv sv xs ks, w.heap[q]? = some (.cells #[.pointer (some ⟨p, 0, none⟩), .pointer (some ⟨y, 0, none⟩), pv, sv] 91 (0, 0)) ∧ tag q = tD j ∧
    w.ownsRow 0 88 1 pv m xs ∧ (∀ b, pv.ownBlock = some b → tag b = tD j) ∧ w.ownsRow 0 3 1 sv m ((List.range m).map fun i => .int .i64 (off rs (ks i) : Nat)) ∧ (∀ b, sv.ownBlock = some b → tag b = tD j) ∧
    Kp rs ks m ∧ ∀ i, i < m → ∃ l, xs[i]? = some l ∧ Past w tag (tV j) l (S (ks i))

theorem tD_ne (j : Nat) : tD j ≠ tP j ∧ tD j ≠ tR j ∧ tD j ≠ tV j := by unfold tD tP tR tV; omega
theorem om_kept {w : World} {tag : Nat → Nat} {j q p y : Nat} {rs : List Rc} {S : Nat → Int → Ep} {rs' : List Rc} {S' : Nat → Int → Ep} {m nn : Nat} (h : Om w tag j q p y rs S rs' S' m nn) (hm : m ≤ 4000000) (hnn : nn < 4000000) (hl : (flat rs').length ≤ 30000000) :
    Calls Tryz.prog 34 #[.pointer (some ⟨q, 0, none⟩)] w fun en w' => en = .returned (.tuple #[]) ∧ (∃ tag', (∀ b, b < w.heap.size → tag' b = tag b) ∧ (∀ b, w.heap.size ≤ b → Mine j (tag' b)) ∧ Ob 0 w' tag' j q rs' S' (m + 1) nn) ∧ Only (fun b => tag b = tD j) w w' := by
  obtain ⟨⟨bm, M, vi, hv, hw, t1, t2, t3⟩, ⟨lv, n, F, h0, h1, h2, h3, h4, h5⟩, hmore, pv, sv, xs, ks, e1, e2, e3, e4, e5, e6, e7, e8⟩ := h
  obtain ⟨d1, d2, d3⟩ := tD_ne j
  have lq := (Array.getElem?_eq_some_iff.1 e1).1
  have hK : ∀ b, Kfoot q pv sv b → tag b = tD j := by
    rintro b (rfl | hb | hb)
    · exact e2
    · exact e4 b hb
    · exact e6 b hb
  refine (kept_any 0 q p y pv sv lv m n xs _ F bm rs'.length (S' rs'.length) (flat rs') M vi w e1 h1 hv e3 e5 (Nat.zero_le _) hm (by omega) hl (fun b hb => ⟨fun e => d1 (by rw [← hK b hb, e]; exact t1), fun e => d1 (by rw [← hK b hb, e]; exact t2), fun hF => d1 (by rw [← hK b hb]; exact t3 b hF)⟩)).mono ?_
  rintro en w' ⟨pv', sv', lc, rfl, r1, r2, r3, r4, r5, r6, r7⟩
  have O : Only (fun b => tag b = tD j) w w' := r5.mono fun b _ e => hK b e
  refine ⟨rfl, ?_, O⟩
  obtain ⟨tag', ht⟩ : ∃ tag', tag' = fun b => if b < w.heap.size then tag b else if pv'.ownBlock = some b ∨ sv'.ownBlock = some b then tD j else tV j := ⟨_, rfl⟩
  have old : ∀ b, b < w.heap.size → tag' b = tag b := fun b hb => by rw [ht]; simp [hb]
  have new : ∀ b, w.heap.size ≤ b → tag' b = if pv'.ownBlock = some b ∨ sv'.ownBlock = some b then tD j else tV j := fun b hb => by rw [ht]; simp only; rw [if_neg (by omega)]
  have nP : ∀ b, b < w.heap.size → tag b = tD j → tag b ≠ tP j := fun b _ e e' => d1 (e.symm.trans e')
  have nR : ∀ b, b < w.heap.size → tag b = tD j → tag b ≠ tR j ∧ tag b ≠ tV j := fun b _ e => ⟨fun e' => d2 (e.symm.trans e'), fun e' => d3 (e.symm.trans e')⟩
  have hvt : Vt w' tag' (tP j) p rs' S' := Vt.only (w := w) (tag := tag) ⟨bm, M, vi, hv, hw, t1, t2, t3⟩ O nP old
  have hrt : Rt w' tag' j y (S' rs'.length) nn := Rt.only (w := w) (tag := tag) ⟨lv, n, F, h0, h1, h2, h3, h4, h5⟩ O nR old
  have hpt : ∀ b, pv'.ownBlock = some b → tag' b = tD j := fun b hb => by
    by_cases hlt : b < w.heap.size
    · rcases r6 b hb with h' | h'
      · rw [old b hlt]; exact e4 b h'
      · omega
    · rw [new b (by omega), if_pos (.inl hb)]
  have hst : ∀ b, sv'.ownBlock = some b → tag' b = tD j := fun b hb => by
    by_cases hlt : b < w.heap.size
    · rcases r7 b hb with h' | h'
      · rw [old b hlt]; exact e6 b h'
      · omega
    · rw [new b (by omega), if_pos (.inr hb)]
  have hlen : xs.length = m := ownsRow_len e3
  refine ⟨tag', old, fun b hb => ?_, p, y, pv', sv', xs ++ [lc], _, r1, by rw [old q lq]; exact e2, hvt, hrt, r2, hpt, ?_, hst, e7.more hmore, fun i hi => ?_⟩
  · rw [new b hb]
    split
    · exact .inr (.inr (.inr rfl))
    · exact .inr (.inr (.inl rfl))
  · have heq : (List.range (m + 1)).map (fun i => Value.int .i64 (off rs' (if i = m then rs'.length else ks i) : Nat)) = ((List.range m).map fun i => Value.int .i64 (off rs (ks i) : Nat)) ++ [.int .i64 (flat rs').length] := by
      rw [List.range_succ, List.map_append]
      congr 1
      · refine List.map_congr_left fun i hi => ?_
        have hi' : i < m := by simpa using hi
        rw [if_neg (by omega), hmore.off _ (e7.le i hi')]
      · simp [off_all]
    rw [heq]
    exact r3
  · by_cases ei : i = m
    · subst ei
      refine ⟨lc, by rw [List.getElem?_append_right (by omega), hlen]; simp, ?_⟩
      rw [if_pos rfl]
      refine ⟨n, F, by omega, ownsRow_base r4 fun _ _ => Nat.zero_le _, h2, fun b hb => ?_, fun k hk => ⟨?_, fun b hb => ?_⟩⟩
      · rw [new b (r4.lt b hb).1, if_neg]
        rintro (e | e)
        · exact ownsRow_type r4 r2 (by decide) b hb e
        · exact ownsRow_type r4 r3 (by decide) b hb e
      · exact O.owns (h1.val k hk) fun b hb e => d3 (e.symm.trans (h5 k hk b hb))
      · rw [old b ((h1.val k hk).lt b hb).2]; exact h5 k hk b hb
    · obtain ⟨l, k1, k2⟩ := e8 i (by omega)
      refine ⟨l, by rw [List.getElem?_append_left (by omega)]; exact k1, ?_⟩
      rw [if_neg ei, hmore.st _ (e7.le i (by omega))]
      exact k2.only O (fun b hb e => (nR b hb e).2) old
end Go.Proofs.YtkgjpfamjedncaaGreat
