-- The book of bytes, with marks: its own blocks bear 2, what it has marked bears 1.
import Derived.Test.YtkgjpfamjedncaaGreatPickObKept
namespace Go.Proofs.YtkgjpfamjedncaaGreat
open Go.RowKit Go.Maps

/-- The book, and all that it has marked lies below lim. -/
structure Bt (w : World) (tag : Nat → Nat) (bw : Nat) (kl vl : Value) (nb lim : Nat) : Prop where
  ex : ∃ bl xb, BookB 0 w bw kl vl bl (.slice none 0 0) (.slice none 0 0) nb xb ∧ tag bw = 2 ∧ (∀ b, bl.ownBlock = some b → tag b = 2) ∧ ∀ u ∈ xb, ∀ b, u.ownBlock = some b → tag b = 1 ∧ b < lim
theorem Bt.only {T : Nat → Prop} {w w' : World} {tag tag' : Nat → Nat} {bw : Nat} {kl vl : Value} {nb lim : Nat} (h : Bt w tag bw kl vl nb lim) (ho : Only T w w') (hs : ∀ b, b < w.heap.size → T b → tag b ≠ 1 ∧ tag b ≠ 2) (ht : ∀ b, b < w.heap.size → tag' b = tag b) (hl : lim ≤ w.heap.size) : Bt w' tag' bw kl vl nb lim := by
  obtain ⟨bl, xb, h1, h2, h3, h4⟩ := h
  have lb := h1.lt
  refine ⟨bl, xb, h1.only ho (fun e => (hs bw lb e).2 h2) (fun b hb e => (hs b (h1.ob.lt b hb).2 e).2 (h3 b hb)) (fun u hu b hb e => (hs b (by have := (h4 u hu b hb).2; omega) e).1 (h4 u hu b hb).1), by rw [ht bw lb]; exact h2, fun b hb => by rw [ht b (h1.ob.lt b hb).2]; exact h3 b hb, fun u hu b hb => ?_⟩
  obtain ⟨k1, k2⟩ := h4 u hu b hb
  exact ⟨by rw [ht b (by omega)]; exact k1, k2⟩
theorem Bt.mono {w : World} {tag : Nat → Nat} {bw : Nat} {kl vl : Value} {nb lim lim' : Nat} (h : Bt w tag bw kl vl nb lim) (hl : lim ≤ lim') : Bt w tag bw kl vl nb lim' := by
  obtain ⟨bl, xb, h1, h2, h3, h4⟩ := h
  exact ⟨bl, xb, h1, h2, h3, fun u hu b hb => ⟨(h4 u hu b hb).1, by have := (h4 u hu b hb).2; omega⟩⟩
theorem Bt.lt {w : World} {tag : Nat → Nat} {bw : Nat} {kl vl : Value} {nb lim : Nat} (h : Bt w tag bw kl vl nb lim) : bw < w.heap.size ∧ tag bw = 2 := by
  obtain ⟨bl, xb, h1, h2, _⟩ := h
  exact ⟨h1.lt, h2⟩

theorem bt_byte {w : World} {tag : Nat → Nat} {bw : Nat} {kl vl : Value} {nb lim : Nat} (h : Bt w tag bw kl vl nb lim) (v : Value) (n : Nat) (xs : List Value) (hv : w.ownsRow lim 5 1 v n xs) (ht : ∀ b, v.ownBlock = some b → tag b = 1) (hn : n ≤ 40000000) (hnb : nb < 4000000) (hl : lim ≤ w.heap.size) :
    Calls Tryz.prog 36 #[.pointer (some ⟨bw, 2, none⟩), v] w fun en w' => en = .returned (.tuple #[]) ∧ (∃ tag', (∀ b, b < w.heap.size → tag' b = tag b) ∧ (∀ b, w.heap.size ≤ b → tag' b = 1 ∨ tag' b = 2) ∧ Bt w' tag' bw kl vl (nb + 1) w'.heap.size) ∧ Only (fun b => tag b = 2 ∨ v.ownBlock = some b) w w' := by
  obtain ⟨bl, xb, h1, h2, h3, h4⟩ := h
  refine (bookByte_any 0 bw kl vl bl (.slice none 0 0) (.slice none 0 0) nb xb lim v n xs w h1 hv hl hn hnb (fun u hu b hb e => ?_)).mono ?_
  · have k1 := (hv.lt b hb).1
    have k2 := (h4 u hu b e).2
    omega
  rintro en w' ⟨bl', o1, o2, o3, rfl, r1, r1', r2, r3⟩
  obtain ⟨tag', htt⟩ : ∃ tag', tag' = fun b => if b < w.heap.size then tag b else if bl'.ownBlock = some b then 2 else 1 := ⟨_, rfl⟩
  have old : ∀ b, b < w.heap.size → tag' b = tag b := fun b hb => by rw [htt]; simp [hb]
  have new : ∀ b, w.heap.size ≤ b → tag' b = if bl'.ownBlock = some b then 2 else 1 := fun b hb => by rw [htt]; simp only; rw [if_neg (by omega)]
  refine ⟨rfl, ⟨tag', old, fun b hb => ?_, bl', _, r1, by rw [old bw h1.lt]; exact h2, fun b hb => ?_, fun u hu b hb => ?_⟩, r2.mono fun b _ e => ?_⟩
  · rw [new b hb]
    split
    · exact .inr rfl
    · exact .inl rfl
  · by_cases hlt : b < w.heap.size
    · rcases r1' b hb with h' | h'
      · rw [old b hlt]; exact h3 b h'
      · omega
    · rw [new b (by omega), if_pos hb]
  · rw [List.mem_append] at hu
    rcases hu with hu | hu
    · obtain ⟨k1, k2⟩ := h4 u hu b hb
      have := r2.size
      exact ⟨by rw [old b (by omega)]; exact k1, by omega⟩
    · have hfin : ∀ u' m ys, w'.ownsRow 0 5 1 u' m ys → u'.ownBlock = some b → (v.ownBlock = some b ∨ w.heap.size ≤ b) → tag' b = 1 ∧ b < w'.heap.size := by
        intro u' m ys ho hb' hor
        refine ⟨?_, (ho.lt b hb').2⟩
        by_cases hlt : b < w.heap.size
        · rcases hor with h' | h'
          · rw [old b hlt]; exact ht b h'
          · omega
        · rw [new b (by omega), if_neg fun e => ownsRow_type ho r1.ob (by decide) b hb' e]
      obtain ⟨n', v', a1, a2, a3, hn', g0, g1, g2, g3, g4, hm⟩ := r1.eb nb (by omega)
      have hxl : xb.length = nb * 5 := h1.ob.1
      rw [List.getElem?_append_right (by omega), hxl] at g0 g1 g2 g3
      simp at g0 g1 g2 g3
      subst g0 g1 g2 g3
      simp only [List.mem_cons, List.not_mem_nil, or_false] at hu
      rcases hu with rfl | rfl | rfl | rfl | rfl
      · exact hfin _ _ _ hm.h0 hb (.inl hb)
      · exact hfin _ _ _ hm.h1 hb (r3 _ (by simp) b hb)
      · exact hfin _ _ _ hm.h2 hb (r3 _ (by simp) b hb)
      · exact hfin _ _ _ hm.h3 hb (r3 _ (by simp) b hb)
      · simp [Value.ownBlock] at hb
  · rcases e with rfl | e | e
    · exact .inl h2
    · exact .inl (h3 b e)
    · exact .inr e
theorem bt_looks {w : World} {tag : Nat → Nat} {bw : Nat} {kl vl : Value} {nb lim : Nat} (h : Bt w tag bw kl vl nb lim) (hnb : nb ≤ 4000000) : Calls Tryz.prog 9 #[.pointer (some ⟨bw, 2, none⟩)] w fun e w' => e = .returned (.bool true) ∧ Bl w w' := by
  obtain ⟨bl, xb, h1, _⟩ := h
  exact looksB_any 0 bw kl vl bl nb xb w h1 hnb
end Go.Proofs.YtkgjpfamjedncaaGreat
