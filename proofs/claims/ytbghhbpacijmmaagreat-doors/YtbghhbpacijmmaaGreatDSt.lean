-- A client: what it is, as far as its doors go.
import Derived.Test.YtbghhbpacijmmaaGreatRowy
import Derived.Test.YtbghhbpacijmmaaGreatPick
import Derived.Test.YtbghhbpacijmmaaGreatDMap
import Derived.Test.YtbghhbpacijmmaaGreatBytesRead
import Derived.Deep.MidRow
namespace Go.Proofs.YtbghhbpacijmmaaGreat
open Go.RowKit
attribute [local go_sem ↓] Go.wp_at_zero Go.wp_at_succ

/-- Block p has n cells, told by K, and is of the type t. -/
def At (n : Nat) (t : TypeId) (w : World) (p : Nat) (K : Nat → Value) : Prop :=
  ∃ arr, w.heap[p]? = some (.cells arr t (0, 0)) ∧ ∀ i, i < n → arr[i]? = some (K i)
def upd (K : Nat → Value) (i : Nat) (u : Value) : Nat → Value := fun j => if j = i then u else K j
theorem upd_same (K : Nat → Value) (i : Nat) (u : Value) : upd K i u i = u := by simp [upd]
theorem upd_other (K : Nat → Value) (i j : Nat) (u : Value) (h : j ≠ i) : upd K i u j = K j := by simp [upd, h]
section
variable {n : Nat} {t : TypeId} {w w' : World} {p : Nat} {K : Nat → Value}
theorem At.lt (h : At n t w p K) : p < w.heap.size := by
  obtain ⟨arr, hb, _⟩ := h; exact (Array.getElem?_eq_some_iff.1 hb).1
theorem At.cell (h : At n t w p K) (i : Nat) (hi : i < n) : w.cell? ⟨p, i, none⟩ = some (K i) := by
  obtain ⟨arr, hb, hc⟩ := h
  rw [cell_of_row w p i _ t (0, 0) hb]; exact hc i hi
theorem At.frozen (h : At n t w p K) (i : Nat) : w.frozen? ⟨p, i, none⟩ = false := by
  obtain ⟨arr, hb, hc⟩ := h
  exact frozen_of_row w p i _ t hb
theorem At.of_heap (h : At n t w p K) (e : w'.heap[p]? = w.heap[p]?) : At n t w' p K := by
  obtain ⟨arr, hb, r⟩ := h
  exact ⟨arr, e.trans hb, r⟩
theorem At.only {S : Nat → Prop} (h : At n t w p K) (ho : Only S w w') (hs : ¬ S p) : At n t w' p K := h.of_heap (ho.block p h.lt hs)
theorem At.bl (h : At n t w p K) (hb : Bl w w') : At n t w' p K := h.of_heap (hb.heap h.lt)
theorem At.set (h : At n t w p K) (i : Nat) (u : Value) : At n t (w.setCell ⟨p, i, none⟩ u) p (upd K i u) := by
  obtain ⟨arr, hb, hc⟩ := h
  refine ⟨_, Go.heap_setCell_same w p i _ t u hb, fun j hj => ?_⟩
  unfold upd
  rw [Array.getElem?_setIfInBounds]
  have hsz := (Array.getElem?_eq_some_iff.1 (hc j hj)).1
  by_cases e : i = j
  · subst e; simp [hsz]
  · rw [if_neg e, if_neg (Ne.symm e)]; exact hc j hj
theorem At.ne_own (h : At n t w p K) {base : Nat} {e : TypeId} {size : Nat} {v : Value} {m : Nat} {xs : List Value} (ho : w.ownsRow base e size v m xs) (he : e ≠ t) : v.ownBlock ≠ some p := by
  obtain ⟨arr, hb, _⟩ := h
  exact own_ne_block ho hb he
theorem At.ne {t' : TypeId} {n' : Nat} {q : Nat} {Q : Nat → Value} (h : At n t w p K) (h' : At n' t' w q Q) (ht : t ≠ t') : p ≠ q := by
  rintro rfl
  obtain ⟨arr, hb, _⟩ := h
  obtain ⟨arr', hb', _⟩ := h'
  rw [hb] at hb'; simp at hb'; exact ht hb'.2
theorem At.ne_map (h : At n t w p K) {b : Nat} {es : Array MapEntry} {c : Nat} (hb : w.heap[b]? = some (.map es c)) : p ≠ b := by
  rintro rfl
  obtain ⟨arr, h1, _⟩ := h
  rw [h1] at hb; simp at hb
end

/-- The cells of n results that are not there yet. -/
def zs : Nat → List Value
  | 0 => []
  | n + 1 => zs n ++ [.int .i64 0, .int .i64 0, .slice none 0 0]
theorem zs_len (n : Nat) : (zs n).length = 3 * n := by
  induction n with
  | zero => rfl
  | succ n ih => simp [zs, ih]; omega
theorem zs_at (n i : Nat) (h : i < n) : (zs n)[3 * i]? = some (.int .i64 0) ∧ (zs n)[3 * i + 1]? = some (.int .i64 0) ∧ (zs n)[3 * i + 2]? = some (.slice none 0 0) := by
  induction n with
  | zero => omega
  | succ n ih =>
    by_cases e : i < n
    · obtain ⟨h1, h2, h3⟩ := ih e
      have hl := zs_len n
      simp only [zs]
      rw [List.getElem?_append_left (by omega), List.getElem?_append_left (by omega), List.getElem?_append_left (by omega)]
      exact ⟨h1, h2, h3⟩
    · have : i = n := by omega
      subst this
      have hl := zs_len i
      simp only [zs]
      rw [List.getElem?_append_right (by omega), List.getElem?_append_right (by omega), List.getElem?_append_right (by omega), hl]
      simp

structure Cs (w : World) (p bm : Nat) (a b c d id : Int) (rs : Value) (ps : List Nat) (K : Nat → Value) : Prop where
  at' : At 55 114 w p K
  k0 : K 0 = .int .i64 a
  k1 : K 1 = .int .i64 b
  k2 : K 2 = .int .i64 c
  k3 : K 3 = .int .i64 d
  k4 : K 4 = .int .i64 id
  k7 : K 7 = rs
  k8 : K 8 = .map (some bm)
  mp : w.heap[bm]? = some (.map (ents ps) ps.length)
  call : ∀ i (h : i < ps.length), ∃ Q, At 29 168 w ps[i] Q ∧ Q 0 = .int .i64 1 ∧ Q 1 = .int .i64 i ∧ Q 26 = .slice none 0 0 ∧ ∃ l : Nat, l < 8 ∧ Q 2 = .int .i64 l
  own : w.ownsRow 0 43 3 rs ps.length (zs ps.length)

section
variable {w w' : World} {p bm : Nat} {a b c d id : Int} {rs : Value} {ps : List Nat} {K : Nat → Value}
theorem Cs.blt (h : Cs w p bm a b c d id rs ps K) : bm < w.heap.size := (Array.getElem?_eq_some_iff.1 h.mp).1
theorem Cs.bl (h : Cs w p bm a b c d id rs ps K) (hb : Bl w w') : Cs w' p bm a b c d id rs ps K :=
  ⟨h.at'.bl hb, h.k0, h.k1, h.k2, h.k3, h.k4, h.k7, h.k8, (hb.heap h.blt).trans h.mp, fun i hi => by
    obtain ⟨Q, h1, h2⟩ := h.call i hi
    exact ⟨Q, h1.bl hb, h2⟩, (Only.of_bl (S := fun _ => False) hb).owns h.own fun _ _ e => e⟩
theorem Cs.c0 (h : Cs w p bm a b c d id rs ps K) : w.cell? ⟨p, 0, none⟩ = some (.int .i64 a) := by rw [h.at'.cell 0 (by decide), h.k0]
theorem Cs.c1 (h : Cs w p bm a b c d id rs ps K) : w.cell? ⟨p, 1, none⟩ = some (.int .i64 b) := by rw [h.at'.cell 1 (by decide), h.k1]
theorem Cs.c2 (h : Cs w p bm a b c d id rs ps K) : w.cell? ⟨p, 2, none⟩ = some (.int .i64 c) := by rw [h.at'.cell 2 (by decide), h.k2]
theorem Cs.c3 (h : Cs w p bm a b c d id rs ps K) : w.cell? ⟨p, 3, none⟩ = some (.int .i64 d) := by rw [h.at'.cell 3 (by decide), h.k3]
theorem Cs.c4 (h : Cs w p bm a b c d id rs ps K) : w.cell? ⟨p, 4, none⟩ = some (.int .i64 id) := by rw [h.at'.cell 4 (by decide), h.k4]
theorem Cs.c7 (h : Cs w p bm a b c d id rs ps K) : w.cell? ⟨p, 7, none⟩ = some rs := by rw [h.at'.cell 7 (by decide), h.k7]
theorem Cs.c8 (h : Cs w p bm a b c d id rs ps K) : w.cell? ⟨p, 8, none⟩ = some (.map (some bm)) := by rw [h.at'.cell 8 (by decide), h.k8]
end
end Go.Proofs.YtbghhbpacijmmaaGreat
