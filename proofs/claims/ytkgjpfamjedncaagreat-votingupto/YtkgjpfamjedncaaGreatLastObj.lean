/-
  The last of some sizes that is no more than a number; which of some things a number speaks of.
-/
-- One voter of the script: the program's, the document's, and what was kept of it.
import Derived.Test.YtkgjpfamjedncaaGreatBaseNum
import Derived.Test.YtkgjpfamjedncaaGreatVTag
import Derived.Test.YtkgjpfamjedncaaGreatKept
namespace Go.Proofs.YtkgjpfamjedncaaGreat
open Go.RowKit
attribute [local go_sem ↓] Go.wp_at_zero Go.wp_at_succ

def pk (c n : Int) : Int := (if c < 0 then -(c + 1) else c) % n
theorem pk_range (c n : Int) (hn : 0 < n) : 0 ≤ pk c n ∧ pk c n < n := ⟨Int.emod_nonneg _ (by omega), Int.emod_lt_of_pos _ hn⟩
set_option maxRecDepth 100000 in
set_option maxHeartbeats 1000000 in
theorem pick_any (c n : Int) (w : World) (h0 : -9223372036854775808 ≤ c) (h1 : c ≤ 9223372036854775807) (hn : 0 < n) (hn1 : n ≤ 9223372036854775807) :
    Calls Tryz.prog 11 #[.int .i64 c, .int .i64 n] w fun e w' => e = .returned (.int .i64 (pk c n)) ∧ w' = w := by
  unfold pk
  have hnz : n ≠ 0 := by omega
  by_cases hc : c < 0
  · rw [if_pos hc]
    have e3 : Int.tmod (-(c + 1)) n = (-(c + 1)) % n := Int.tmod_eq_emod_of_nonneg (by omega)
    have r := Int.emod_nonneg (-(c + 1)) hnz
    have r2 := Int.emod_lt_of_pos (-(c + 1)) hn
    go_enter Tryz.func11, Tryz.ntmps11
    go_wp2
    go_ret
    exact ⟨rfl, rfl⟩
  · rw [if_neg hc]
    have e3 : Int.tmod c n = c % n := Int.tmod_eq_emod_of_nonneg (by omega)
    have r := Int.emod_nonneg c hnz
    have r2 := Int.emod_lt_of_pos c hn
    go_enter Tryz.func11, Tryz.ntmps11
    go_wp2
    go_ret
    exact ⟨rfl, rfl⟩
theorem pick_nat (c : Int) (n : Nat) (w : World) (h0 : -9223372036854775808 ≤ c ∧ c ≤ 9223372036854775807) (hn : 0 < n) (hn1 : n ≤ 100000000) :
    Calls Tryz.prog 11 #[.int .i64 c, .int .i64 (n : Int)] w fun e w' => e = .returned (.int .i64 ((pk c n).toNat : Nat)) ∧ w' = w := by
  refine (pick_any c n w h0.1 h0.2 (by omega) (by omega)).mono ?_
  rintro e w' ⟨rfl, rfl⟩
  have := pk_range c n (by omega)
  exact ⟨by rw [Int.toNat_of_nonneg this.1], rfl⟩
theorem pk_lt (c : Int) (n : Nat) (hn : 0 < n) : (pk c n).toNat < n := by
  have := pk_range c n (by omega)
  omega

/-- Of the first k. -/
def lastTo (zs : List Int) (n : Int) : Nat → Nat
  | 0 => 0
  | k + 1 => if zs.getD k 0 ≤ n then k else lastTo zs n k
theorem lastTo_le (zs : List Int) (n : Int) : ∀ k, lastTo zs n k ≤ k
  | 0 => Nat.le_refl _
  | k + 1 => by unfold lastTo; split; omega; have := lastTo_le zs n k; omega
set_option maxRecDepth 100000 in
set_option maxHeartbeats 1000000 in
theorem last_any (v : Value) (zs : List Int) (n : Int) (w : World) (hv : Sl w v (zs.map (Value.int .i64))) (hs : zs.length ≤ 4000000) :
    Calls Tryz.prog 37 #[v, .int .i64 n] w fun e w' => e = .returned (.int .i64 (lastTo zs n zs.length : Nat)) ∧ w' = w := by
  obtain ⟨a, c, e⟩ := hv.len
  rw [List.length_map] at e
  have hc : Hid (∀ k, k < zs.length → ∃ b o, a = some ⟨b, o, none⟩ ∧ b < w.heap.size ∧ w.cell? ⟨b, o + k, none⟩ = some (.int .i64 (zs.getD k 0))) := fun k hk => by
    rcases hv with ⟨a9, c9, e9, hz⟩ | ⟨b, o, c', e9, hb, hc⟩
    · simp at hz; subst hz; simp at hk
    · rw [e] at e9
      simp only [Value.slice.injEq] at e9
      refine ⟨b, o, e9.1, hb, ?_⟩
      rw [hc k (by simpa using hk)]
      simp [List.getD, List.getElem?_eq_getElem hk]
  subst e
  clear hv
  go_enter Tryz.func37, Tryz.ntmps37
  go_wp2
  go_loop [5, 6] (fun iv jv => ∃ k : Nat, k ≤ zs.length ∧ iv = .int .i64 (lastTo zs n k : Nat) ∧ jv = .int .i64 k) (fun _ jv => zs.length - (intOf jv).toNat)
  case atStart => exact ⟨0, Nat.zero_le _, rfl, rfl⟩
  case round =>
    obtain ⟨k, hk, rfl, rfl⟩ := hrel
    by_cases hlt : k < zs.length
    · obtain ⟨b, o, rfl, hb, hcell⟩ := hc.out k hlt
      have hl : Hid (lastTo zs n (k + 1) = if zs.getD k 0 ≤ n then k else lastTo zs n k) := rfl
      generalize zs.getD k 0 = z at *
      by_cases hz : z ≤ n
      · have hl2 : Hid (lastTo zs n (k + 1) = k) := by unfold Hid; rw [hl.out, if_pos hz]
        go_wp2
        go_round
        case rel => exact ⟨k + 1, by omega, by rw [hl2.out], by go_num⟩
        case measure => simp [intOf]; omega
      · have hl2 : Hid (lastTo zs n (k + 1) = lastTo zs n k) := by unfold Hid; rw [hl.out, if_neg hz]
        go_wp2
        go_round
        case rel => exact ⟨k + 1, by omega, by rw [hl2.out], by go_num⟩
        case measure => simp [intOf]; omega
    · obtain rfl : k = zs.length := by omega
      go_wp2
      go_ret
      exact ⟨rfl, rfl⟩
end Go.Proofs.YtkgjpfamjedncaaGreat

namespace Go.Proofs.YtkgjpfamjedncaaGreat
open Go.RowKit Go.Maps

/-- The marks of voter j: the program's blocks, the document's slots, values, the script's own. -/
def tP (j : Nat) : Nat := 10 + 8 * j
def tR (j : Nat) : Nat := 11 + 8 * j
def tV (j : Nat) : Nat := 12 + 8 * j
def tD (j : Nat) : Nat := 13 + 8 * j
def Mine (j t : Nat) : Prop := t = tP j ∨ t = tR j ∨ t = tV j ∨ t = tD j

/-- A row of slots that was kept: it holds E. -/
structure Past (w : World) (tag : Nat → Nat) (t : Nat) (l : Value) (E : Int → Ep) : Prop where
  ex : ∃ n F, n < 4000000 ∧ w.ownsRow 0 140 4 l n (row4 F n) ∧ Rl n F E ∧ (∀ b, l.ownBlock = some b → tag b = t) ∧ ∀ i, i < n → w.ownsRow 0 5 1 (F i).v (F i).s.val.length ((F i).s.val.map B8) ∧ ∀ b, (F i).v.ownBlock = some b → tag b = t
theorem Past.only {T : Nat → Prop} {w w' : World} {tag tag' : Nat → Nat} {t : Nat} {l : Value} {E : Int → Ep} (h : Past w tag t l E) (ho : Only T w w') (hs : ∀ b, b < w.heap.size → T b → tag b ≠ t) (ht : ∀ b, b < w.heap.size → tag' b = tag b) : Past w' tag' t l E := by
  obtain ⟨n, F, h0, h1, h2, h3, h4⟩ := h
  refine ⟨n, F, h0, ho.owns h1 fun b hb e => hs b (h1.lt b hb).2 e (h3 b hb), h2, fun b hb => by rw [ht b (h1.lt b hb).2]; exact h3 b hb, fun i hi => ?_⟩
  obtain ⟨k1, k2⟩ := h4 i hi
  exact ⟨ho.owns k1 fun b hb e => hs b (k1.lt b hb).2 e (k2 b hb), fun b hb => by rw [ht b (k1.lt b hb).2]; exact k2 b hb⟩

/-- The document's voter, whose blocks bear the marks of j. -/
structure Rt (w : World) (tag : Nat → Nat) (j y : Nat) (E : Int → Ep) (nn : Nat) : Prop where
  ex : ∃ lv n F, n ≤ nn ∧ Rw 0 w y lv n F ∧ Rl n F E ∧ tag y = tR j ∧ (∀ b, lv.ownBlock = some b → tag b = tR j) ∧ ∀ i, i < n → ∀ b, (F i).v.ownBlock = some b → tag b = tV j
theorem Rt.only {T : Nat → Prop} {w w' : World} {tag tag' : Nat → Nat} {j y nn : Nat} {E : Int → Ep} (h : Rt w tag j y E nn) (ho : Only T w w') (hs : ∀ b, b < w.heap.size → T b → tag b ≠ tR j ∧ tag b ≠ tV j) (ht : ∀ b, b < w.heap.size → tag' b = tag b) : Rt w' tag' j y E nn := by
  obtain ⟨lv, n, F, h0, h1, h2, h3, h4, h5⟩ := h
  refine ⟨lv, n, F, h0, h1.only ho (fun e => (hs y h1.lt e).1 h3) (fun b hb e => (hs b (h1.own.lt b hb).2 e).1 (h4 b hb)) (fun i hi b hb e => (hs b ((h1.val i hi).lt b hb).2 e).2 (h5 i hi b hb)), h2, by rw [ht y h1.lt]; exact h3, fun b hb => by rw [ht b (h1.own.lt b hb).2]; exact h4 b hb, fun i hi b hb => by rw [ht b ((h1.val i hi).lt b hb).2]; exact h5 i hi b hb⟩

/-- How what was kept goes with the records: behind keeping i there were ks i of them. -/
structure Kp (rs : List Rc) (ks : Nat → Nat) (m : Nat) : Prop where
  pos : 1 ≤ m
  zero : ks 0 = 0
  step : ∀ i, i + 1 < m → ks (i + 1) = ks i ∨ ks (i + 1) = ks i + 1
  last : ks (m - 1) = rs.length

/-- Voter j of the script, in block q. -/
structure Ob (B0 : Nat) (w : World) (tag : Nat → Nat) (j q : Nat) (rs : List Rc) (S : Nat → Int → Ep) (m : Nat) (nn : Nat) : Prop where
  ex : ∃ p y pv sv xs ks, w.heap[q]? = some (.cells #[.pointer (some ⟨p, 0, none⟩), .pointer (some ⟨y, 0, none⟩), pv, sv] 91 (0, 0)) ∧ tag q = tD j ∧
    Vt w tag (tP j) p rs S ∧ Rt w tag j y (S rs.length) nn ∧
    w.ownsRow B0 88 1 pv m xs ∧ (∀ b, pv.ownBlock = some b → tag b = tD j) ∧ w.ownsRow B0 3 1 sv m ((List.range m).map fun i => .int .i64 (off rs (ks i) : Nat)) ∧ (∀ b, sv.ownBlock = some b → tag b = tD j) ∧
    Kp rs ks m ∧ ∀ i, i < m → ∃ l, xs[i]? = some l ∧ Past w tag (tV j) l (S (ks i))
theorem Ob.only {T : Nat → Prop} {B0 : Nat} {w w' : World} {tag tag' : Nat → Nat} {j q : Nat} {rs : List Rc} {S : Nat → Int → Ep} {m nn : Nat} (h : Ob B0 w tag j q rs S m nn) (ho : Only T w w') (hs : ∀ b, b < w.heap.size → T b → ¬ Mine j (tag b)) (ht : ∀ b, b < w.heap.size → tag' b = tag b) : Ob B0 w' tag' j q rs S m nn := by
  obtain ⟨p, y, pv, sv, xs, ks, h1, h2, h3, h4, h5, h6, h7, h8, h9, h10⟩ := h
  have lq := (Array.getElem?_eq_some_iff.1 h1).1
  have n0 : ∀ b, b < w.heap.size → T b → tag b ≠ tP j := fun b hb e e' => hs b hb e (.inl e')
  have n1 : ∀ b, b < w.heap.size → T b → tag b ≠ tR j := fun b hb e e' => hs b hb e (.inr (.inl e'))
  have n2 : ∀ b, b < w.heap.size → T b → tag b ≠ tV j := fun b hb e e' => hs b hb e (.inr (.inr (.inl e')))
  have n3 : ∀ b, b < w.heap.size → T b → tag b ≠ tD j := fun b hb e e' => hs b hb e (.inr (.inr (.inr e')))
  refine ⟨p, y, pv, sv, xs, ks, (ho.block q lq fun e => n3 q lq e h2).trans h1, by rw [ht q lq]; exact h2, h3.only ho n0 ht, h4.only ho (fun b hb e => ⟨n1 b hb e, n2 b hb e⟩) ht,
    ho.owns h5 fun b hb e => n3 b (h5.lt b hb).2 e (h6 b hb), fun b hb => by rw [ht b (h5.lt b hb).2]; exact h6 b hb, ho.owns h7 fun b hb e => n3 b (h7.lt b hb).2 e (h8 b hb), fun b hb => by rw [ht b (h7.lt b hb).2]; exact h8 b hb, h9, fun i hi => ?_⟩
  obtain ⟨l, k1, k2⟩ := h10 i hi
  exact ⟨l, k1, k2.only ho n2 ht⟩
theorem Ob.bl {B0 : Nat} {w w' : World} {tag : Nat → Nat} {j q : Nat} {rs : List Rc} {S : Nat → Int → Ep} {m nn : Nat} (h : Ob B0 w tag j q rs S m nn) (hb : Bl w w') : Ob B0 w' tag j q rs S m nn := h.only (Only.of_bl (S := fun _ => False) hb) (fun _ _ e => e.elim) (fun _ _ => rfl)

/-- Of what was kept one goes with each number of records. -/
theorem Kp.mono {rs : List Rc} {ks : Nat → Nat} {m : Nat} (h : Kp rs ks m) : ∀ a b, a ≤ b → b < m → ks a ≤ ks b := by
  intro a b hab
  induction b with
  | zero => intro _; rw [show a = 0 by omega]; exact Nat.le_refl _
  | succ b ih =>
    intro hb
    by_cases e : a = b + 1
    · rw [e]; exact Nat.le_refl _
    · have := ih (by omega) (by omega)
      rcases h.step b hb with h1 | h1 <;> omega
theorem Kp.all {rs : List Rc} {ks : Nat → Nat} {m : Nat} (h : Kp rs ks m) : ∀ n, n < m → ∀ k, k ≤ ks n → ∃ i, i ≤ n ∧ ks i = k := by
  intro n
  induction n with
  | zero => intro _ k hk; rw [h.zero] at hk; exact ⟨0, Nat.le_refl _, by rw [h.zero]; omega⟩
  | succ n ih =>
    intro hn k hk
    by_cases e : k = ks (n + 1)
    · exact ⟨n + 1, Nat.le_refl _, e.symm⟩
    · rcases h.step n hn with h1 | h1
      · obtain ⟨i, i1, i2⟩ := ih (by omega) k (by omega); exact ⟨i, by omega, i2⟩
      · obtain ⟨i, i1, i2⟩ := ih (by omega) k (by omega); exact ⟨i, by omega, i2⟩
end Go.Proofs.YtkgjpfamjedncaaGreat
