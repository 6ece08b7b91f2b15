/-
  What a call owns: rows of its own, and lists of such rows.
-/
import Derived.Test.YtkgjpfamjedncaaGreatLays
namespace Go.Proofs.YtkgjpfamjedncaaGreat
open Go.RowKit

theorem Tryz.info3 : (Tryz.prog.info? 3).map (fun i => (i.zero, i.size, i.bytes)) = some (some (.int .i64 0), 1, 8) := by kernel_rfl
theorem Tryz.info24 : (Tryz.prog.info? 24).map (fun i => (i.zero, i.size, i.bytes)) = some (some (.slice none 0 0), 1, 24) := by kernel_rfl

/-- All old blocks but those in S are as they were. -/
structure Only (S : Nat → Prop) (w w' : World) : Prop where
  os : w'.os = w.os
  tape : w'.tape = w.tape
  output : w'.output = w.output
  size : w.heap.size ≤ w'.heap.size
  block : ∀ k, k < w.heap.size → ¬ S k → w'.heap[k]? = w.heap[k]?

theorem Only.refl (S : Nat → Prop) (w : World) : Only S w w := ⟨rfl, rfl, rfl, Nat.le_refl _, fun _ _ _ => rfl⟩
theorem Only.trans {S : Nat → Prop} {a b c : World} (h : Only S a b) (k : Only S b c) : Only S a c :=
  ⟨k.os.trans h.os, k.tape.trans h.tape, k.output.trans h.output, Nat.le_trans h.size k.size, fun i hi hs => (k.block i (Nat.lt_of_lt_of_le hi h.size) hs).trans (h.block i hi hs)⟩
theorem Only.mono {S T : Nat → Prop} {a b : World} (h : Only S a b) (hst : ∀ k, k < a.heap.size → S k → T k) : Only T a b :=
  ⟨h.os, h.tape, h.output, h.size, fun i hi hs => h.block i hi (fun e => hs (hst i hi e))⟩
theorem Only.of_bl {S : Nat → Prop} {a b : World} (h : Bl a b) : Only S a b := ⟨h.os, h.tape, h.output, h.size, fun i hi _ => h.block i hi⟩
theorem Only.of_grown {a b : World} {row : Option Nat} (h : a.grownBy b row) : Only (fun k => some k = row) a b := ⟨h.os, h.tape, h.output, h.size, fun i hi hs => h.block i hi hs⟩
theorem Only.to_bl {S : Nat → Prop} {a b : World} (h : Only S a b) (hs : ∀ k, k < a.heap.size → ¬ S k) : Bl a b := ⟨h.os, h.tape, h.output, h.size, fun i hi => h.block i hi (hs i hi)⟩
theorem Only.setCell {S : Nat → Prop} {a w : World} (h : Only S a w) (p : Addr) (hp : S p.block ∨ a.heap.size ≤ p.block) (u : Value) : Only S a (w.setCell p u) :=
  ⟨h.os, h.tape, h.output, by have := h.size; simp [World.setCell]; omega, fun k hk hs => by rw [Below.heap_setCell _ _ _ _ (by rintro rfl; rcases hp with hp | hp; exact hs hp; omega)]; exact h.block k hk hs⟩
theorem Only.alloc {S : Nat → Prop} {a w : World} (h : Only S a w) (o : Obj) : Only S a (w.alloc o) := h.trans (Only.of_bl ((Bl.refl _).alloc _))
theorem Only.drewN {S : Nat → Prop} {a w : World} (h : Only S a w) (n : Nat) : Only S a (w.drewN n) := h.trans (Only.of_bl ((Bl.refl _).drewN _))
theorem Only.drew {S : Nat → Prop} {a w : World} (h : Only S a w) : Only S a w.drew := h.trans (Only.of_bl ((Bl.refl _).drew))
theorem Only.cell {S : Nat → Prop} {w w' : World} (h : Only S w w') {b o : Nat} (hb : b < w.heap.size) (hs : ¬ S b) : w'.cell? ⟨b, o, none⟩ = w.cell? ⟨b, o, none⟩ := World.cell?_of_block (h.block b hb hs)
theorem Only.frozen {S : Nat → Prop} {w w' : World} (h : Only S w w') {b o : Nat} (hb : b < w.heap.size) (hs : ¬ S b) : w'.frozen? ⟨b, o, none⟩ = w.frozen? ⟨b, o, none⟩ := World.frozen?_of_block (h.block b hb hs)

theorem ownsRow_of {w w' : World} {base : Nat} {e : TypeId} {size : Nat} {v : Value} {n : Nat} {xs : List Value} (h : w.ownsRow base e size v n xs) (hh : ∀ b, v.ownBlock = some b → w'.heap[b]? = w.heap[b]?) : w'.ownsRow base e size v n xs := by
  refine ⟨h.1, ?_⟩
  rcases h.2 with hn | ⟨g, cap, cur, rfl, hb, hg, rest⟩
  · exact .inl hn
  · exact .inr ⟨g, cap, cur, rfl, hb, by rw [hh g rfl]; exact hg, rest⟩

theorem ownsRow_base {w : World} {base base' : Nat} {e : TypeId} {size : Nat} {v : Value} {n : Nat} {xs : List Value} (h : w.ownsRow base e size v n xs) (hh : ∀ b, v.ownBlock = some b → base' ≤ b) : w.ownsRow base' e size v n xs := by
  refine ⟨h.1, ?_⟩
  rcases h.2 with hn | ⟨g, cap, cur, rfl, hb, hg, rest⟩
  · exact .inl hn
  · exact .inr ⟨g, cap, cur, rfl, hh g rfl, hg, rest⟩

theorem Only.owns {S : Nat → Prop} {w w' : World} (ho : Only S w w') {base : Nat} {e : TypeId} {size : Nat} {v : Value} {n : Nat} {xs : List Value} (h : w.ownsRow base e size v n xs) (hs : ∀ b, v.ownBlock = some b → ¬ S b) : w'.ownsRow base e size v n xs :=
  ownsRow_of h fun b hb => ho.block b (h.lt b hb).2 (hs b hb)

/-- The element type of an owned row tells rows apart. -/
theorem ownsRow_type {w : World} {base base' : Nat} {e e' : TypeId} {size size' : Nat} {v v' : Value} {n n' : Nat} {xs xs' : List Value} (h : w.ownsRow base e size v n xs) (h' : w.ownsRow base' e' size' v' n' xs') (hne : e ≠ e') (b : Nat) (hb : v.ownBlock = some b) : v'.ownBlock ≠ some b := by
  intro hb'
  rcases h.2 with ⟨rfl, _⟩ | ⟨g, cap, cur, rfl, _, hg, _⟩
  · simp [Value.ownBlock] at hb
  · rcases h'.2 with ⟨rfl, _⟩ | ⟨g', cap', cur', rfl, _, hg', _⟩
    · simp [Value.ownBlock] at hb'
    · simp [Value.ownBlock] at hb hb'
      subst hb; subst hb'
      rw [hg] at hg'
      simp at hg'
      exact hne hg'.2

/-- Rows of numbers that the call owns, each in a block of its own, listed in a row g that it owns too. -/
structure Rowy (base : Nat) (w : World) (g n : Nat) (ms : List Value) (R : List (List Int)) : Prop where
  own : w.ownsRow base 24 1 (.slice (some ⟨g, 0, none⟩) n n) n ms
  len : R.length = n
  row : ∀ i (h : i < ms.length) (h' : i < R.length), w.ownsRow base 3 1 ms[i] R[i].length (R[i].map (Value.int .i64))
  apart : ∀ i j (hi : i < ms.length) (hj : j < ms.length) b, i ≠ j → ms[i].ownBlock = some b → ms[j].ownBlock ≠ some b

theorem Rowy.mlen {base : Nat} {w : World} {g n : Nat} {ms : List Value} {R : List (List Int)} (h : Rowy base w g n ms R) : ms.length = n := by
  have := h.own.1; omega

theorem ownsRow_len {w : World} {base : Nat} {e : TypeId} {v : Value} {n : Nat} {xs : List Value} (h : w.ownsRow base e 1 v n xs) : xs.length = n := by
  have := h.1; omega

theorem ownsRow_sl {w : World} {base : Nat} {e : TypeId} {v : Value} {n : Nat} {xs : List Value} (h : w.ownsRow base e 1 v n xs) : Sl w v xs := by
  have hl := ownsRow_len h
  rcases h.2 with ⟨rfl, rfl⟩ | ⟨g, cap, cur, rfl, _, hg, _⟩
  · exact .inl ⟨_, _, rfl, List.length_eq_zero_iff.1 hl⟩
  · refine .inr ⟨g, 0, cap, by rw [hl], (Array.getElem?_eq_some_iff.1 hg).1, fun j hj => ?_⟩
    rw [Nat.zero_add, h.cellAt j (by omega)]
    simp [hj]

theorem Rowy.sll {base : Nat} {w : World} {g n : Nat} {ms : List Value} {R : List (List Int)} (h : Rowy base w g n ms R) : Sll w (.slice (some ⟨g, 0, none⟩) n n) R :=
  ⟨ms, ownsRow_sl h.own, by rw [h.mlen, h.len], fun i hi hi' => ownsRow_sl (h.row i hi hi')⟩

/-- Nothing that the rows own has turned. -/
theorem Rowy.only {S : Nat → Prop} {base : Nat} {w w' : World} {g n : Nat} {ms : List Value} {R : List (List Int)} (h : Rowy base w g n ms R) (ho : Only S w w') (hs : ∀ b, base ≤ b → b < w.heap.size → ¬ S b) : Rowy base w' g n ms R :=
  ⟨ho.owns h.own fun b hb => hs b (h.own.lt b hb).1 (h.own.lt b hb).2, h.len, fun i hi hi' => ho.owns (h.row i hi hi') fun b hb => hs b ((h.row i hi hi').lt b hb).1 ((h.row i hi hi').lt b hb).2, h.apart⟩
theorem Rowy.bl {base : Nat} {w w' : World} {g n : Nat} {ms : List Value} {R : List (List Int)} (h : Rowy base w g n ms R) (ho : Bl w w') : Rowy base w' g n ms R :=
  h.only (Only.of_bl (S := fun _ => False) ho) fun _ _ _ e => e

/-- One row k is appended to, and stored. -/
theorem Rowy.push {base : Nat} {w w1 : World} {g n : Nat} {ms : List Value} {R : List (List Int)} (h : Rowy base w g n ms R) {k : Nat} (hk : k < n) (hkm : k < ms.length) (hkR : k < R.length) {g' c : Nat} {x : Int}
    (hg : w.grownBy w1 ms[k].ownBlock) (hv : ms[k].ownBlock = some g' ∨ w.heap.size ≤ g') (ho : w1.ownsRow base 3 1 (.slice (some ⟨g', 0, none⟩) (R[k].length + 1) c) (R[k].length + 1) (R[k].map (Value.int .i64) ++ [.int .i64 x])) :
    Rowy base (w1.setCell ⟨g, k, none⟩ (.slice (some ⟨g', 0, none⟩) (R[k].length + 1) c)) g n (ms.set k (.slice (some ⟨g', 0, none⟩) (R[k].length + 1) c)) (R.set k (R[k] ++ [x])) := by
  have hgrow := Only.of_grown hg
  have hown1 : w1.ownsRow base 24 1 (.slice (some ⟨g, 0, none⟩) n n) n ms := hgrow.owns h.own fun b hb e => ownsRow_type h.own (h.row k hkm hkR) (by decide) b hb e.symm
  obtain ⟨hst, hgr⟩ := hown1.stored k (.slice (some ⟨g', 0, none⟩) (R[k].length + 1) c)
  have hgr' := Only.of_grown hgr
  have hgne : ∀ b, (Value.slice (some ⟨g', 0, none⟩) (R[k].length + 1) c).ownBlock = some b → ¬ some b = some g := by
    intro b hb e
    exact ownsRow_type ho hown1 (by decide) b hb (by simp [Value.ownBlock]; simpa using e.symm)
  refine ⟨hst, by simpa using h.len, fun i hi hi' => ?_, fun i j hi hj b hij hb => ?_⟩
  · simp only [List.length_set] at hi hi'
    by_cases hik : i = k
    · subst hik
      simp only [List.getElem_set_self]
      have := hgr'.owns ho (fun b hb => hgne b hb)
      simpa using this
    · rw [List.getElem_set_ne (by omega), List.getElem_set_ne (by omega)]
      have hr := h.row i hi hi'
      have hr1 := hgrow.owns hr fun b hb e => h.apart i k hi hkm b hik hb e.symm
      exact hgr'.owns hr1 fun b hb e => ownsRow_type hr1 hown1 (by decide) b hb (by simp [Value.ownBlock]; simpa using e.symm)
  · have hi2 : i < ms.length := by simpa using hi
    have hj2 : j < ms.length := by simpa using hj
    by_cases hik : i = k
    · subst hik
      rw [List.getElem_set_self] at hb
      rw [List.getElem_set_ne (by omega)]
      simp [Value.ownBlock] at hb
      subst hb
      intro e
      rcases hv with hv | hv
      · exact h.apart i j hkm hj2 g' hij hv e
      · have := (h.row j hj2 (by rw [h.len, ← h.mlen]; exact hj2)).lt _ e; omega
    · rw [List.getElem_set_ne (by omega)] at hb
      by_cases hjk : j = k
      · subst hjk
        rw [List.getElem_set_self]
        intro e
        simp [Value.ownBlock] at e
        subst e
        rcases hv with hv | hv
        · exact h.apart i j hi2 hkm g' hij hb hv
        · have := (h.row i hi2 (by rw [h.len, ← h.mlen]; exact hi2)).lt _ hb; omega
      · rw [List.getElem_set_ne (by omega)]
        exact h.apart i j hi2 hj2 b hij hb

end Go.Proofs.YtkgjpfamjedncaaGreat
