-- Voters are made, one behind the other.
import Derived.Test.YtbghhbpacijmmaaProps
import Derived.Lib.SlBytesConst
namespace Go.Proofs.Ytbghhbpacijmmaa
open Go.RowKit Go.Maps

def otherB : List Int := [111, 116, 104, 101, 114]
/-- What a voter has behind its first two calls. -/
def E1 (e : Int) : Int → Ep := updE (fun _ => nop) (e + 1) ⟨1, 0, []⟩
def E2 (e : Int) : Int → Ep := updE (E1 e) (e + 1) ⟨1, 1, otherB⟩
theorem E2_at (e : Int) : E2 e e = nop := by
  have h : ¬ e = e + 1 := by omega
  simp [E2, E1, updE, h]
def ptrs (P : Nat → Nat) (i : Nat) : List Value := (List.range i).map fun j => .pointer (some ⟨P j, 0, none⟩)
theorem ptrs_succ (P : Nat → Nat) (i p : Nat) (h : P i = p) : ptrs P (i + 1) = ptrs P i ++ [.pointer (some ⟨p, 0, none⟩)] := by
  unfold ptrs
  rw [List.range_succ, List.map_append]
  simp [h]
theorem ptrs_up (P : Nat → Nat) (i p : Nat) : ptrs (upN P i p) i = ptrs P i := by
  unfold ptrs
  refine List.map_congr_left fun j hj => ?_
  have : j < i := by simpa using hj
  rw [upN_other _ _ _ _ (by omega)]

/-- The first i voters have been made. -/
structure Mk (w : World) (i : Nat) (e : Int) (sv : Value) (wr : World) : Prop where
  ex : ∃ tag P, Vots i wr tag P (2 * i) (fun _ => E2 e) ∧ (∀ b, b < w.heap.size → tag b = 9) ∧ (∀ g, sv.ownBlock = some g → tag g = 9) ∧ wr.ownsRow w.heap.size 43 1 sv i (ptrs P i)
  bl : Bl w wr
/-- And one more, which is as E tells. -/
structure Mp1 (w : World) (i : Nat) (e : Int) (sv : Value) (p t : Nat) (E : Int → Ep) (wr : World) : Prop where
  ex : ∃ tag P, Vots (i + 1) wr tag P t (upN (fun _ => E2 e) i E) ∧ P i = p ∧ (∀ b, b < w.heap.size → tag b = 9) ∧ (∀ g, sv.ownBlock = some g → tag g = 9) ∧ wr.ownsRow w.heap.size 43 1 sv i (ptrs P i)
  bl : Bl w wr

theorem mk_zero (w : World) (e : Int) : Mk w 0 e (.slice none 0 0) w :=
  ⟨⟨fun _ => 9, fun _ => 0, fun i h => by omega, fun _ _ => rfl, fun _ _ => rfl, rfl, .inl ⟨rfl, rfl⟩⟩, Bl.refl w⟩
theorem Mk.turn {w : World} {i : Nat} {e : Int} {sv : Value} {wr W : World} (h : Mk w i e sv wr) (hb : Bl wr W) : Mk w i e sv W := by
  obtain ⟨⟨tag, P, h1, h2, h3, h4⟩, hl⟩ := h
  exact ⟨⟨tag, P, h1.bl hb, h2, h3, (Only.of_bl (S := fun _ => False) hb).owns h4 fun _ _ e => e⟩, hl.trans hb⟩
theorem Mp1.turn {w : World} {i : Nat} {e : Int} {sv : Value} {p t : Nat} {E : Int → Ep} {wr W : World} (h : Mp1 w i e sv p t E wr) (hb : Bl wr W) : Mp1 w i e sv p t E W := by
  obtain ⟨⟨tag, P, h1, h0, h2, h3, h4⟩, hl⟩ := h
  exact ⟨⟨tag, P, h1.bl hb, h0, h2, h3, (Only.of_bl (S := fun _ => False) hb).owns h4 fun _ _ e => e⟩, hl.trans hb⟩
theorem mk_open {w : World} {i : Nat} {e : Int} {sv : Value} {wr : World} (h : Mk w i e sv wr) :
    Calls Try.prog 15 #[.slice none 0 0] wr fun en w1 => ∃ p, en = .returned (.tuple #[.pointer (some ⟨p, 0, none⟩), .int .i64 0]) ∧ Mp1 w i e sv p (2 * i) (fun _ => nop) w1 := by
  obtain ⟨⟨tag, P, h1, h2, h3, h4⟩, hl⟩ := h
  refine (rip_open (rip_nil wr) (by omega)).mono ?_
  rintro en w1 ⟨p, rfl, a1, a2, a3, a4⟩
  have lw := hl.lt
  refine ⟨p, rfl, ⟨tagTo tag wr.heap.size i, upN P i p, fun j hj => ?_, upN_same _ _ _, fun b hb => by rw [tagTo_old _ _ _ _ (by omega)]; exact h2 b hb, fun g hg => by rw [tagTo_old _ _ _ _ (h4.lt g hg).2]; exact h3 g hg, by rw [ptrs_up]; exact (Only.of_bl (S := fun _ => False) a3).owns h4 fun _ _ e => e⟩, hl.trans a3⟩
  by_cases ej : j = i
  · subst ej
    rw [upN_same, upN_same]
    exact (a4 tag j).mono (by omega)
  · rw [upN_other _ _ _ _ ej, upN_other _ _ _ _ ej]
    exact (h1 j (by omega)).only (Only.of_bl (S := fun _ => False) a3) (fun _ _ e => e.elim) (fun b hb => tagTo_old _ _ _ _ hb)
/-- A call of the new voter. -/
theorem Mp1.step {w : World} {i : Nat} {e : Int} {sv : Value} {p t' : Nat} {E E' : Int → Ep} {W w' : World} {tag P : Nat → Nat} (hi : i < 9) (hl : Bl w W) (h0 : P i = p) (h2 : ∀ b, b < w.heap.size → tag b = 9) (h3 : ∀ g, sv.ownBlock = some g → tag g = 9) (h4 : W.ownsRow w.heap.size 43 1 sv i (ptrs P i))
    (r1 : Vots (i + 1) w' (tagTo tag W.heap.size i) P t' (upN (upN (fun _ => E2 e) i E) i E')) (r2 : Only (fun b => tag b = i) W w') : Mp1 w i e sv p t' E' w' := by
  have lw := hl.lt
  rw [upN_upN] at r1
  refine ⟨⟨_, P, r1, h0, fun b hb => by rw [tagTo_old _ _ _ _ (by omega)]; exact h2 b hb, fun g hg => by rw [tagTo_old _ _ _ _ (h4.lt g hg).2]; exact h3 g hg, r2.owns h4 fun b hb e => by have := h3 b hb; omega⟩, ?_⟩
  have hO : Only (fun b => tag b = i) w w' := (Only.of_bl hl).trans r2
  exact hO.to_bl fun b hb e => by have := h2 b hb; omega
theorem mk_prep {w : World} {i : Nat} {e : Int} {sv : Value} {p : Nat} {wr : World} (h : Mp1 w i e sv p (2 * i) (fun _ => nop) wr) (hi : i < 5) (he : 0 ≤ e) (he' : e ≤ 1000) :
    Calls Try.prog 16 #[.pointer (some ⟨p, 0, none⟩), .int .i64 (e + 1), .int .i64 1] wr fun en w1 => ∃ va vc, en = .returned (voteR 1 1 0 (.slice va 0 vc)) ∧ Mp1 w i e sv p (2 * i + 1) (E1 e) w1 := by
  obtain ⟨⟨tag, P, h1, h0, h2, h3, h4⟩, hl⟩ := h
  subst h0
  have he2 : upN (fun _ => E2 e) i (fun _ => nop) i (e + 1) = nop := by rw [upN_same]
  refine (vots_prep h1 (Bl.refl wr) (Nat.lt_succ_self i) (e + 1) 1 (by omega) (Go.WalkArith.wf_i64 (by omega)) (by decide) (by omega) (by omega) (by rw [he2]; simp [nop])).mono ?_
  rintro en w1 ⟨va, vc, rfl, r0, r1, r2⟩
  rw [he2] at r0 r1 ⊢
  refine ⟨va, vc, rfl, Mp1.step (by omega) hl rfl h2 h3 h4 (by
    rw [upN_same] at r1
    exact r1) r2⟩
theorem mk_acc {w : World} {i : Nat} {e : Int} {sv : Value} {p : Nat} {wr W : World} (h : Mp1 w i e sv p (2 * i + 1) (E1 e) wr) (hW : Bl wr W) (hi : i < 5) (he : 0 ≤ e) (he' : e ≤ 1000) (v : Value) (hv : Bs W v (otherB.map B8)) (hvb : ∀ g, v.ownBlock = some g → wr.heap.size ≤ g ∧ g < W.heap.size) :
    Calls Try.prog 17 #[.pointer (some ⟨p, 0, none⟩), .int .i64 (e + 1), .int .i64 1, v] W fun en w1 => en = .returned (voteR 1 1 0 (.slice none 0 0)) ∧ Mp1 w i e sv p (2 * i + 2) (E2 e) w1 ∧ ∀ g, wr.heap.size ≤ g → g < W.heap.size → w1.heap[g]? = W.heap[g]? := by
  obtain ⟨⟨tag0, P, h10, h0, h20, h30, h4⟩, hl⟩ := h
  subst h0
  have lw := hl.lt
  obtain ⟨tag, ht⟩ : ∃ tag, tag = tagTo tag0 wr.heap.size 9 := ⟨_, rfl⟩
  have h1 : Vots (i + 1) wr tag P (2 * i + 1) (upN (fun _ => E2 e) i (E1 e)) := h10.only (Only.refl (fun _ => False) wr) (fun _ _ e => e.elim) (fun b hb => by rw [ht]; exact tagTo_old _ _ _ _ hb)
  have h2 : ∀ b, b < w.heap.size → tag b = 9 := fun b hb => by rw [ht, tagTo_old _ _ _ _ (by omega)]; exact h20 b hb
  have h3 : ∀ g, sv.ownBlock = some g → tag g = 9 := fun g hg => by rw [ht, tagTo_old _ _ _ _ (h4.lt g hg).2]; exact h30 g hg
  have he2 : upN (fun _ => E2 e) i (E1 e) i (e + 1) = ⟨1, 0, []⟩ := by rw [upN_same]; simp [E1, updE]
  refine (vots_acc h1 hW (Nat.lt_succ_self i) (e + 1) 1 (by omega) (Go.WalkArith.wf_i64 (by omega)) (by decide) (by omega) (by omega) (by rw [he2]; simp) (by rw [he2]; simp) v otherB hv hvb (by decide) (by decide) (by decide)).mono ?_
  rintro en w1 ⟨rfl, r1, r2⟩
  refine ⟨rfl, Mp1.step (by omega) (hl.trans hW) rfl h2 h3 ((Only.of_bl (S := fun _ => False) hW).owns h4 fun _ _ e => e) (by
    rw [upN_same] at r1
    exact r1) r2, fun g hg1 hg2 => r2.block g hg2 (by rw [ht, tagTo_new _ _ _ _ hg1]; omega)⟩
theorem Mp1.own {w : World} {i : Nat} {e : Int} {sv : Value} {p : Nat} {wr : World} (h : Mp1 w i e sv p (2 * i + 2) (E2 e) wr) (hi : i < 5) : ∃ xs, wr.ownsRow w.heap.size 43 1 sv i xs ∧ ∀ sv' w', Grew w.heap.size 43 wr w' sv sv' (i + 1) (xs ++ [.pointer (some ⟨p, 0, none⟩)]) → Mk w (i + 1) e sv' w' := by
  obtain ⟨⟨tag, P, h1, h0, h2, h3, h4⟩, hl⟩ := h
  refine ⟨_, h4, fun sv' w' G => ?_⟩
  have lw := hl.lt
  refine ⟨⟨tagTo tag wr.heap.size 9, P, ?_, fun b hb => by rw [tagTo_old _ _ _ _ (by omega)]; exact h2 b hb, fun g hg => ?_, by rw [ptrs_succ P i p h0]; exact G.own⟩, hl.trans_only G.only fun n e => (h4.lt n e).1⟩
  · rw [upN_self (fun _ => E2 e) i (E2 e) rfl] at h1
    exact (h1.only G.only (fun b _ e => by have := h3 b e; omega) (fun b hb => tagTo_old _ _ _ _ hb)).mono (by omega)
  · rcases G.lies g hg with hg' | hg'
    · rw [tagTo_old _ _ _ _ (h4.lt g hg').2]; exact h3 g hg'
    · exact tagTo_new _ _ _ _ hg'
theorem heap_alloc_new' (w : World) (o o' : Obj) : ((w.alloc o).alloc o').heap[w.heap.size + 1]? = some o' := by
  have := heap_alloc_new (w.alloc o) o'
  have e : (w.alloc o).heap.size = w.heap.size + 1 := by simp
  rwa [e] at this
theorem cell_one_new' (w : World) (o : Obj) (x : Value) (t : TypeId) : ∀ j u, [x][j]? = some u → ((w.alloc o).alloc (.cells #[x] t)).cell? ((⟨w.heap.size + 1, 0, none⟩ : Addr).add j) = some u := fun j u hj => by
  rw [add_eq, Nat.zero_add, cell_of_row _ _ j _ t _ (heap_alloc_new' w o _)]
  simpa using hj
theorem Grew.of_lies' {base : Nat} {e : TypeId} {w w1 : World} {v : Value} {o o' : Obj} {n g cap : Nat} {xs : List Value} (hown : w1.ownsRow base e 1 (.slice (some ⟨g, 0, none⟩) n cap) n xs) (hgrow : ((w.alloc o).alloc o').grownBy w1 v.ownBlock) (hat : v.ownBlock = some g ∨ g = w.heap.size + 2) : Grew base e (w.alloc o) w1 v (.slice (some ⟨g, 0, none⟩) n cap) n xs := by
  have e : (w.alloc o).heap.size = w.heap.size + 1 := by simp
  exact Grew.of_lies hown hgrow (by rw [e]; exact hat)
theorem conv22 (C : Array Value) (n c : Nat) (w : World) (o : Obj) : (convert 22 22 (.slice (some ⟨w.heap.size + 1, 0, none⟩) n c)).run Try.prog ((w.alloc o).alloc (.cells C 5)) = .ok (.slice (some ⟨w.heap.size + 1, 0, none⟩) n c) ((w.alloc o).alloc (.cells C 5 (C.size, C.size + 1))) := by
  have h := Go.Lib.run_convert_bytes_const (P := Try.prog) (w.alloc o) 22 5 C n c Try.underlying22 Try.underlying5
  have e : (w.alloc o).heap.size = w.heap.size + 1 := by simp
  rw [e] at h
  exact h
end Go.Proofs.Ytbghhbpacijmmaa
