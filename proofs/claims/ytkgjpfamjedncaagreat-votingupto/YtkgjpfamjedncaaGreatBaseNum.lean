/-
  What is meant by a slice that reads as a list, by a world in which nothing old has turned, and by rows that a call owns.
-/
/-
  Numbers as bytes, and back.
-/
import Derived.Test.YtkgjpfamjedncaaGreatRows
import Derived.WalkKit
import Derived.WalkSpells
import Derived.WalkLawsBesides
import Derived.Deep.QuietTactic
import Derived.BigQuiet
import Derived.Deep.RegionWith
import Derived.Deep.RegionLaw
import Derived.Deep.RegionHeld3
import Derived.Deep.AppendLies
import Derived.Deep.DrawnRows
import Derived.Laws.CopyOwn
namespace Go.Proofs.YtkgjpfamjedncaaGreat
open Go.RowKit

theorem hid {p : Prop} (h : p) : Hid p := h

/-- A slice value v whose elements (one cell each) are cs. -/
def Sl (w : World) (v : Value) (cs : List Value) : Prop :=
  (∃ a c, v = .slice a 0 c ∧ cs = []) ∨ ∃ b o c, v = .slice (some ⟨b, o, none⟩) cs.length c ∧ b < w.heap.size ∧ ∀ j, (h : j < cs.length) → w.cell? ⟨b, o + j, none⟩ = some cs[j]

/-- Nothing that was there has turned. -/
def Bl (w w' : World) : Prop := Below w.heap.size w w'

theorem Bl.refl (w : World) : Bl w w := Below.refl _ _
theorem Bl.trans {a b c : World} (h : Bl a b) (k : Bl b c) : Bl a c := Below.trans h (Below.mono k h.size)
theorem Bl.drewN {a w : World} (h : Bl a w) (n : Nat) : Bl a (w.drewN n) := by
  exact ⟨h.os, h.tape, h.output, h.size, h.block⟩
theorem Bl.drew {a w : World} (h : Bl a w) : Bl a w.drew := Below.drew h
theorem Bl.alloc {a w : World} (h : Bl a w) (o : Obj) : Bl a (w.alloc o) := Below.alloc h h.size o
theorem Bl.lt {w w' : World} (h : Bl w w') : w.heap.size ≤ w'.heap.size := h.size
theorem Bl.cell {w w' : World} (h : Bl w w') {b o : Nat} (hb : b < w.heap.size) : w'.cell? ⟨b, o, none⟩ = w.cell? ⟨b, o, none⟩ := Below.cell h hb
theorem Bl.frozen {w w' : World} (h : Bl w w') {b o : Nat} (hb : b < w.heap.size) : w'.frozen? ⟨b, o, none⟩ = w.frozen? ⟨b, o, none⟩ := Below.frozen h hb
theorem Bl.heap {w w' : World} (h : Bl w w') {b : Nat} (hb : b < w.heap.size) : w'.heap[b]? = w.heap[b]? := h.block b hb

theorem Sl.bl {w w' : World} {v : Value} {cs : List Value} (h : Sl w v cs) (hb : Bl w w') : Sl w' v cs := by
  rcases h with h | ⟨b, o, c, rfl, hl, hc⟩
  · exact Or.inl h
  · refine Or.inr ⟨b, o, c, rfl, Nat.lt_of_lt_of_le hl hb.lt, fun j hj => ?_⟩
    rw [← hc j hj]; exact hb.cell hl

theorem ret_bool {a b : Bool} (h : a = b) : Ending.returned (.bool a) = .returned (.bool b) := by rw [h]
theorem ret_int {k : IntKind} {a b : Int} (h : a = b) : Ending.returned (.int k a) = .returned (.int k b) := by rw [h]

theorem not_mem_take_succ {x : Int} {zs : List Int} {k : Nat} (hk : k < zs.length) (h : ¬ x ∈ zs.take k) (hx : (zs[k] == x) = false) : ¬ x ∈ zs.take (k + 1) := by
  rw [List.take_succ_eq_append_getElem hk, List.mem_append]; rintro (e | e)
  · exact h e
  · simp at e hx; exact hx e.symm
theorem mem_of_beq {x : Int} {zs : List Int} {k : Nat} (hk : k < zs.length) (hx : (zs[k] == x) = true) : x ∈ zs := by
  simp at hx; rw [← hx]; exact List.getElem_mem hk

theorem Sl.empty {w : World} {v : Value} (h : Sl w v []) : ∃ a c, v = .slice a 0 c := by
  rcases h with ⟨a, c, rfl, _⟩ | ⟨b, o, c, rfl, _⟩
  · exact ⟨_, _, rfl⟩
  · exact ⟨_, _, rfl⟩
theorem Sl.len {w : World} {v : Value} {cs : List Value} (h : Sl w v cs) : ∃ a c, v = .slice a cs.length c := by
  rcases h with ⟨a9, c9, rfl, rfl⟩ | ⟨b, o, c, rfl, _⟩
  · exact ⟨_, _, rfl⟩
  · exact ⟨_, _, rfl⟩

/-- All old blocks but those in S are as they were. -/
structure Only (S : Nat → Prop) (w w' : World) : Prop where
  os : w'.os = w.os
  tape : w'.tape = w.tape
  output : w'.output = w.output
  size : w.heap.size ≤ w'.heap.size
  block : ∀ k, k < w.heap.size → ¬ S k → w'.heap[k]? = w.heap[k]?

theorem Only.refl (S : Nat → Prop) (w : World) : Only S w w := ⟨rfl, rfl, rfl, Nat.le_refl _, fun _ _ _ => rfl⟩
theorem Only.trans {S : Nat → Prop} {a b c : World} (h : Only S a b) (k : Only S b c) : Only S a c :=
  ⟨k.os.trans h.os, k.tape.trans h.tape, k.output.trans h.output, Nat.le_trans h.size k.size, fun i hi hs => (k.block i (Nat.lt_of_lt_of_le hi h.size) hs).trans (h.block i hi hs)⟩
theorem Only.mono {S T : Nat → Prop} {a b : World} (h : Only S a b) (hst : ∀ k, k < a.heap.size → S k → T k) : Only T a b :=
  ⟨h.os, h.tape, h.output, h.size, fun i hi hs => h.block i hi (fun e => hs (hst i hi e))⟩
theorem Only.of_bl {S : Nat → Prop} {a b : World} (h : Bl a b) : Only S a b := ⟨h.os, h.tape, h.output, h.size, fun i hi _ => h.block i hi⟩
theorem Only.of_grown {a b : World} {row : Option Nat} (h : a.grownBy b row) : Only (fun k => some k = row) a b := ⟨h.os, h.tape, h.output, h.size, fun i hi hs => h.block i hi hs⟩
theorem Only.to_bl {S : Nat → Prop} {a b : World} (h : Only S a b) (hs : ∀ k, k < a.heap.size → ¬ S k) : Bl a b := ⟨h.os, h.tape, h.output, h.size, fun i hi => h.block i hi (hs i hi)⟩
theorem Only.setCell {S : Nat → Prop} {a w : World} (h : Only S a w) (p : Addr) (hp : S p.block ∨ a.heap.size ≤ p.block) (u : Value) : Only S a (w.setCell p u) :=
  ⟨h.os, h.tape, h.output, by have := h.size; simp [World.setCell]; omega, fun k hk hs => by rw [Below.heap_setCell _ _ _ _ (by rintro rfl; rcases hp with hp | hp; exact hs hp; omega)]; exact h.block k hk hs⟩
theorem Only.alloc {S : Nat → Prop} {a w : World} (h : Only S a w) (o : Obj) : Only S a (w.alloc o) := h.trans (Only.of_bl ((Bl.refl _).alloc _))
theorem Only.drewN {S : Nat → Prop} {a w : World} (h : Only S a w) (n : Nat) : Only S a (w.drewN n) := h.trans (Only.of_bl ((Bl.refl _).drewN _))
theorem Only.drew {S : Nat → Prop} {a w : World} (h : Only S a w) : Only S a w.drew := h.trans (Only.of_bl ((Bl.refl _).drew))
theorem Only.cell {S : Nat → Prop} {w w' : World} (h : Only S w w') {b o : Nat} (hb : b < w.heap.size) (hs : ¬ S b) : w'.cell? ⟨b, o, none⟩ = w.cell? ⟨b, o, none⟩ := World.cell?_of_block (h.block b hb hs)
theorem Only.frozen {S : Nat → Prop} {w w' : World} (h : Only S w w') {b o : Nat} (hb : b < w.heap.size) (hs : ¬ S b) : w'.frozen? ⟨b, o, none⟩ = w.frozen? ⟨b, o, none⟩ := World.frozen?_of_block (h.block b hb hs)

theorem ownsRow_of {w w' : World} {base : Nat} {e : TypeId} {size : Nat} {v : Value} {n : Nat} {xs : List Value} (h : w.ownsRow base e size v n xs) (hh : ∀ b, v.ownBlock = some b → w'.heap[b]? = w.heap[b]?) : w'.ownsRow base e size v n xs := by
  refine ⟨h.1, ?_⟩
  rcases h.2 with hn | ⟨g, cap, cur, rfl, hb, hg, rest⟩
  · exact .inl hn
  · exact .inr ⟨g, cap, cur, rfl, hb, by rw [hh g rfl]; exact hg, rest⟩

theorem ownsRow_base {w : World} {base base' : Nat} {e : TypeId} {size : Nat} {v : Value} {n : Nat} {xs : List Value} (h : w.ownsRow base e size v n xs) (hh : ∀ b, v.ownBlock = some b → base' ≤ b) : w.ownsRow base' e size v n xs := by
  refine ⟨h.1, ?_⟩
  rcases h.2 with hn | ⟨g, cap, cur, rfl, hb, hg, rest⟩
  · exact .inl hn
  · exact .inr ⟨g, cap, cur, rfl, hh g rfl, hg, rest⟩

theorem Only.owns {S : Nat → Prop} {w w' : World} (ho : Only S w w') {base : Nat} {e : TypeId} {size : Nat} {v : Value} {n : Nat} {xs : List Value} (h : w.ownsRow base e size v n xs) (hs : ∀ b, v.ownBlock = some b → ¬ S b) : w'.ownsRow base e size v n xs :=
  ownsRow_of h fun b hb => ho.block b (h.lt b hb).2 (hs b hb)

/-- The element type of an owned row tells rows apart. -/
theorem ownsRow_type {w : World} {base base' : Nat} {e e' : TypeId} {size size' : Nat} {v v' : Value} {n n' : Nat} {xs xs' : List Value} (h : w.ownsRow base e size v n xs) (h' : w.ownsRow base' e' size' v' n' xs') (hne : e ≠ e') (b : Nat) (hb : v.ownBlock = some b) : v'.ownBlock ≠ some b := by
  intro hb'
  rcases h.2 with ⟨rfl, _⟩ | ⟨g, cap, cur, rfl, _, hg, _⟩
  · simp [Value.ownBlock] at hb
  · rcases h'.2 with ⟨rfl, _⟩ | ⟨g', cap', cur', rfl, _, hg', _⟩
    · simp [Value.ownBlock] at hb'
    · simp [Value.ownBlock] at hb hb'
      subst hb; subst hb'
      rw [hg] at hg'
      simp at hg'
      exact hne hg'.2

theorem ownsRow_len {w : World} {base : Nat} {e : TypeId} {v : Value} {n : Nat} {xs : List Value} (h : w.ownsRow base e 1 v n xs) : xs.length = n := by
  have := h.1; omega

theorem ownsRow_sl {w : World} {base : Nat} {e : TypeId} {v : Value} {n : Nat} {xs : List Value} (h : w.ownsRow base e 1 v n xs) : Sl w v xs := by
  have hl := ownsRow_len h
  rcases h.2 with ⟨rfl, rfl⟩ | ⟨g, cap, cur, rfl, _, hg, _⟩
  · exact .inl ⟨_, _, rfl, List.length_eq_zero_iff.1 hl⟩
  · refine .inr ⟨g, 0, cap, by rw [hl], (Array.getElem?_eq_some_iff.1 hg).1, fun j hj => ?_⟩
    rw [Nat.zero_add, h.cellAt j (by omega)]
    simp [hj]

theorem owns_oneCell {w : World} {base : Nat} {e : TypeId} {size : Nat} {v : Value} {n : Nat} {xs : List Value} (h : w.ownsRow base e size v n xs) : v.oneCell' = true := by
  rcases h.2 with ⟨rfl, _⟩ | ⟨g, cap, cur, rfl, _⟩ <;> rfl

/-- What turns lies behind all that was there. -/
theorem Bl.trans_only {S : Nat → Prop} {a b c : World} (h : Bl a b) (k : Only S b c) (hs : ∀ n, S n → a.heap.size ≤ n) : Bl a c :=
  ⟨k.os.trans h.os, k.tape.trans h.tape, k.output.trans h.output, Nat.le_trans h.lt k.size, fun i hi => (k.block i (Nat.lt_of_lt_of_le hi h.lt) (fun e => by have := hs i e; omega)).trans (h.block i hi)⟩

theorem ownsRow_full {w : World} {base : Nat} {e : TypeId} {g n : Nat} {xs : List Value} (h : w.ownsRow base e 1 (.slice (some ⟨g, 0, none⟩) n n) n xs) : w.heap[g]? = some (.cells xs.toArray e (0, 0)) := by
  rcases h.2 with ⟨h', _⟩ | ⟨g', cap', cur, h', _, hg, _, _, hs, htake⟩
  · simp at h'
  · simp only [Value.slice.injEq, Option.some.injEq, Addr.mk.injEq, and_true, true_and] at h'
    obtain ⟨rfl, rfl⟩ := h'
    rw [List.take_of_length_le (by simp; omega)] at htake
    rw [hg, ← htake]
theorem ownsRow_heap {w : World} {base : Nat} {e : TypeId} {g n : Nat} {xs : List Value} (h : w.heap[g]? = some (.cells xs.toArray e (0, 0))) (hb : base ≤ g) (hl : xs.length = n) (hm : n ≤ maxLen) : w.ownsRow base e 1 (.slice (some ⟨g, 0, none⟩) n n) n xs :=
  ⟨by omega, .inr ⟨g, n, xs.toArray, rfl, hb, h, Nat.le_refl _, hm, by simpa using hl, by simp; exact List.take_of_length_le (by omega)⟩⟩
/-- A row that is owned whole is owned to any shorter length. -/
theorem ownsRow_cut {w : World} {base : Nat} {e : TypeId} {g n : Nat} {xs : List Value} (h : w.ownsRow base e 1 (.slice (some ⟨g, 0, none⟩) n n) n xs) (k : Nat) (hk : k ≤ n) : w.ownsRow base e 1 (.slice (some ⟨g, 0, none⟩) k n) k (xs.take k) := by
  rcases h.2 with ⟨h', _⟩ | ⟨g', cap', cur, h', hb, hg, _, hm, hs, htake⟩
  · simp at h'
  · simp only [Value.slice.injEq, Option.some.injEq, Addr.mk.injEq, and_true, true_and] at h'
    obtain ⟨rfl, rfl⟩ := h'
    have := ownsRow_len h
    refine ⟨by simp; omega, .inr ⟨g, n, cur, rfl, hb, hg, hk, hm, hs, ?_⟩⟩
    rw [← htake, List.take_take]
    congr 1
    omega

theorem add_eq (b o j : Nat) : (⟨b, o, none⟩ : Addr).add j = ⟨b, o + j, none⟩ := by
  unfold Addr.add; split <;> simp_all

theorem own_cell {w : World} {base : Nat} {e : TypeId} {g n c : Nat} {xs : List Value} (h : w.ownsRow base e 1 (.slice (some ⟨g, 0, none⟩) n c) n xs) (j : Nat) (hj : j < n) : ∃ old, w.cell? ⟨g, j, none⟩ = some old := by
  have := ownsRow_len h
  exact ⟨xs[j], by rw [h.cellAt j (by omega), List.getElem?_eq_getElem]⟩

theorem own_shape {w : World} {base : Nat} {e : TypeId} {v : Value} {n : Nat} {xs : List Value} (h : w.ownsRow base e 1 v n xs) (hn : 0 < n) : ∃ g cap, v = .slice (some ⟨g, 0, none⟩) n cap := by
  rcases h.2 with ⟨_, h'⟩ | ⟨g, cap, cur, h', _⟩
  · omega
  · exact ⟨g, cap, h'⟩

theorem far {W W' w3 : World} {row : Option Nat} (hb : Bl W W') (hg : W'.grownBy w3 row) {b o : Nat} (hlt : b < W.heap.size) (hne : row ≠ some b) : w3.cell? ⟨b, o, none⟩ = W.cell? ⟨b, o, none⟩ ∧ w3.frozen? ⟨b, o, none⟩ = W.frozen? ⟨b, o, none⟩ :=
  ⟨(hg.cell_far _ (Nat.lt_of_lt_of_le hlt hb.lt) (Ne.symm hne)).trans (hb.cell hlt), (hg.frozen_far _ (Nat.lt_of_lt_of_le hlt hb.lt) (Ne.symm hne)).trans (hb.frozen hlt)⟩

/-- The element type tells an owned row from a block. -/
theorem own_ne_block {w : World} {base : Nat} {e e' : TypeId} {size : Nat} {v : Value} {n : Nat} {xs : List Value} (h : w.ownsRow base e size v n xs) {R : Nat} {c : Array Value} {f : Nat × Nat} (hR : w.heap[R]? = some (.cells c e' f)) (hne : e ≠ e') : v.ownBlock ≠ some R := by
  intro hb
  rcases h.2 with ⟨rfl, _⟩ | ⟨g, cap, cur, rfl, _, hg, _⟩
  · simp [Value.ownBlock] at hb
  · simp [Value.ownBlock] at hb
    subst hb
    rw [hR] at hg
    simp at hg
    exact hne hg.2.1.symm

theorem own_type {w : World} {base : Nat} {e : TypeId} {size : Nat} {v : Value} {n : Nat} {xs : List Value} (h : w.ownsRow base e size v n xs) (b : Nat) (hb : v.ownBlock = some b) : ∃ c, w.heap[b]? = some (.cells c e (0, 0)) := by
  rcases h.2 with ⟨rfl, _⟩ | ⟨g, cap, cur, rfl, _, hg, _⟩
  · simp [Value.ownBlock] at hb
  · simp [Value.ownBlock] at hb
    subst hb
    exact ⟨_, hg⟩

end Go.Proofs.YtkgjpfamjedncaaGreat

namespace Go.Proofs.YtkgjpfamjedncaaGreat
open Go.RowKit
theorem Tryz.info5 : (Tryz.prog.info? 5).map (fun i => (i.zero, i.size, i.bytes)) = some (some (.int .u8 0), 1, 1) := by kernel_rfl

/-- A byte as a value. -/
def B8 (x : Int) : Value := .int .u8 x
/-- Byte j of a number. -/
def byteAt (n : Int) (j : Nat) : Int := IntKind.u64.wrap n / 2 ^ (56 - 8 * j) % 256
def enc8 (n : Int) : List Int := (List.range 8).map (byteAt n)
theorem enc8_len (n : Int) : (enc8 n).length = 8 := by simp [enc8]
theorem enc8_succ (n : Int) (j : Nat) (h : j < 8) : (enc8 n).take (j + 1) = (enc8 n).take j ++ [byteAt n j] := by
  rw [List.take_succ_eq_append_getElem (by rw [enc8_len]; exact h)]
  simp [enc8]

/-- What an append to a row of the call's own leaves. -/
structure Grew (base : Nat) (e : TypeId) (w w' : World) (v v' : Value) (n : Nat) (xs : List Value) : Prop where
  own : w'.ownsRow base e 1 v' n xs
  only : Only (fun b => v.ownBlock = some b) w w'
  lies : ∀ b, v'.ownBlock = some b → v.ownBlock = some b ∨ w.heap.size ≤ b
  shape : ∃ a c, v' = .slice a n c

theorem Grew.trans {base : Nat} {e : TypeId} {w w1 w2 : World} {v v1 v2 : Value} {n m : Nat} {xs ys : List Value} (h : Grew base e w w1 v v1 n xs) (k : Grew base e w1 w2 v1 v2 m ys) : Grew base e w w2 v v2 m ys := by
  refine ⟨k.own, ⟨k.only.os.trans h.only.os, k.only.tape.trans h.only.tape, k.only.output.trans h.only.output, Nat.le_trans h.only.size k.only.size, fun i hi hs => ?_⟩, fun b hb => ?_, k.shape⟩
  · rw [k.only.block i (Nat.lt_of_lt_of_le hi h.only.size) (fun e => ?_), h.only.block i hi hs]
    rcases h.lies i e with e' | e'
    · exact hs e'
    · omega
  · rcases k.lies b hb with hb' | hb'
    · exact h.lies b hb'
    · exact .inr (Nat.le_trans h.only.size hb')
/-- A row that was grown by the law of append, behind a new block. -/
theorem Grew.of_lies {base : Nat} {e : TypeId} {w w1 : World} {v : Value} {o : Obj} {n g cap : Nat} {xs : List Value} (hown : w1.ownsRow base e 1 (.slice (some ⟨g, 0, none⟩) n cap) n xs) (hgrow : (w.alloc o).grownBy w1 v.ownBlock) (hat : v.ownBlock = some g ∨ g = w.heap.size + 1) : Grew base e w w1 v (.slice (some ⟨g, 0, none⟩) n cap) n xs :=
  ⟨hown, (Only.of_bl ((Bl.refl _).alloc o)).trans ((Only.of_grown hgrow).mono fun k _ e => e.symm), fun b hb => by
    simp [Value.ownBlock] at hb
    subst hb
    rcases hat with h | h
    · exact .inl h
    · exact .inr (by omega), ⟨_, _, rfl⟩⟩
theorem Grew.refl {base : Nat} {e : TypeId} {w : World} {v : Value} {n : Nat} {xs : List Value} (h : w.ownsRow base e 1 v n xs) : Grew base e w w v v n xs :=
  ⟨h, Only.refl _ _, fun b hb => .inl hb, by
    obtain ⟨a, c, e⟩ := (ownsRow_sl h).len
    rw [ownsRow_len h] at e
    exact ⟨a, c, e⟩⟩

set_option maxRecDepth 100000 in
set_option maxHeartbeats 1000000 in
theorem appendNumber_any (base : Nat) (v : Value) (k : Nat) (xs : List Value) (n : Int) (w : World) (hv : w.ownsRow base 5 1 v k xs) (hb : base ≤ w.heap.size) (hk : k ≤ 40000000) :
    Calls Tryz.prog 122 #[v, .int .i64 n] w fun e w' => ∃ v', e = .returned v' ∧ Grew base 5 w w' v v' (k + 8) (xs ++ (enc8 n).map B8) := by
  obtain ⟨i5, ji, jz0, jz1, jz2⟩ := info_parts Tryz.info5
  have Hv := hid hv
  clear hv
  go_enter Tryz.func122, Tryz.ntmps122
  go_wp2
  go_loopw [0, 6] (fun d sh wr => ∃ (j : Nat), j ≤ 8 ∧ sh = .int .i64 (56 - 8 * (j : Int)) ∧ Grew base 5 w wr v d (k + j) (xs ++ ((enc8 n).take j).map B8)) (fun _ sh _ => (intOf sh + 8).toNat)
  case atStart => exact ⟨0, by omega, rfl, by simpa using Grew.refl Hv.out⟩
  case round =>
    obtain ⟨j, hj, rfl, hG⟩ := hrel
    have HG := hid hG
    clear hG
    by_cases hlt : j < 8
    · have hby : Hid ((k + j + 1) * 1 ≤ 140737488355328) := by unfold Hid; omega
      have hml : Hid (k + j + 1 ≤ maxLen) := by unfold Hid maxLen; omega
      have hsz := Nat.le_trans hb HG.out.only.size
      have hd : decide (8 * (j : Int) ≤ 56) = true := by simp; omega
      go_wp2_with (at_builtin; refine wpList_append_lies _ rfl _ _ 40 rfl base 5 i5 (.int .u8 0) 1 1 Tryz.underlying40 ji jz0 jz1 jz2 rfl (by decide) _ (k + j) _ rfl (HG.out.own.alloc _) ⟨wr.heap.size, 0, none⟩ 1 1 [B8 (byteAt n j)] rfl rfl (cell_one_new _ _ _) (by simp [B8, Value.oneCell']) (by decide) hml.out hby.out (by simp; omega) (wr.heap.size + 1) (by simp) ?_)
      intro g cap w1 hown hgrow hat hlt'
      have HG1 := hid (HG.out.trans (Grew.of_lies hown hgrow hat))
      have HE := hid (enc8_succ n j hlt)
      clear hown hgrow hat HG
      go_wp2
      go_roundw
      case rel => exact ⟨j + 1, by omega, by go_num, by rw [HE.out]; simpa [Nat.add_assoc] using HG1.out⟩
      case measure => simp [intOf]; omega
    · have hj8 : j = 8 := by omega
      subst hj8
      go_wp2
      go_ret
      refine ⟨_, rfl, ?_⟩
      have := HG.out
      rw [List.take_of_length_le (by rw [enc8_len]; omega)] at this
      exact this
/-- The number that j bytes have told. -/
def topOf (n : Int) (j : Nat) : Int := IntKind.u64.wrap n / 2 ^ (64 - 8 * j)

theorem wrap_u64 (n : Int) : IntKind.u64.wrap n = n % 18446744073709551616 := by
  simp [IntKind.wrap, IntKind.bits, IntKind.signed]
theorem wrap_u64_id (n : Int) (h0 : 0 ≤ n) (h1 : n < 18446744073709551616) : IntKind.u64.wrap n = n := by
  rw [wrap_u64, Int.emod_eq_of_lt h0 h1]
/-- The number as it lies in 64 bits. -/
theorem bits_nat (n : Int) : ∃ W : Nat, IntKind.u64.wrap n = (W : Int) ∧ W < 18446744073709551616 := by
  rw [wrap_u64]
  have h0 := Int.emod_nonneg n (show (18446744073709551616 : Int) ≠ 0 by decide)
  have h1 := Int.emod_lt_of_pos n (show (0 : Int) < 18446744073709551616 by decide)
  exact ⟨(n % 18446744073709551616).toNat, by omega, by omega⟩
theorem top_step (n : Int) (k : Nat) (h : k < 8) : bits .or .u64 (IntKind.u64.wrap (topOf n k * 256)) (IntKind.u64.wrap (byteAt n k)) = topOf n (k + 1) := by
  obtain ⟨W, hW, hlt⟩ := bits_nat n
  unfold topOf byteAt
  rw [hW]
  have e1 : (2 : Int) ^ (64 - 8 * k) = ((2 ^ (56 - 8 * k) * 256 : Nat) : Int) := by
    have : 64 - 8 * k = (56 - 8 * k) + 8 := by omega
    rw [this, Int.pow_add]; simp
  have e2 : (2 : Int) ^ (56 - 8 * k) = ((2 ^ (56 - 8 * k) : Nat) : Int) := by simp
  have e3 : 64 - 8 * (k + 1) = 56 - 8 * k := by omega
  rw [e3, e1, e2]
  generalize hX : W / 2 ^ (56 - 8 * k) = X
  have hXl : X < 18446744073709551616 := by rw [← hX]; exact Nat.lt_of_le_of_lt (Nat.div_le_self _ _) hlt
  have f1 : (W : Int) / ((2 ^ (56 - 8 * k) * 256 : Nat) : Int) = ((X / 256 : Nat) : Int) := by
    rw [← hX, Nat.div_div_eq_div_mul]; rfl
  have f2 : (W : Int) / ((2 ^ (56 - 8 * k) : Nat) : Int) = (X : Int) := by rw [← hX]; rfl
  rw [f1, f2]
  have f3 : ((X / 256 : Nat) : Int) * 256 = ((256 * (X / 256) : Nat) : Int) := by omega
  have f4 : (X : Int) % 256 = ((X % 256 : Nat) : Int) := by omega
  rw [f3, f4, wrap_u64_id _ (by omega) (by omega), wrap_u64_id _ (by omega) (by omega), u64_or_nat _ _ (by omega) (by omega)]
  have g := Nat.two_pow_add_eq_or_of_lt (i := 8) (show X % 256 < 2 ^ 8 by omega) (X / 256)
  have : (2 : Nat) ^ 8 = 256 := rfl
  rw [this] at g
  rw [← g]
  omega
theorem top_zero (n : Int) : topOf n 0 = 0 := by
  obtain ⟨W, hW, hlt⟩ := bits_nat n
  unfold topOf
  rw [hW]
  simp
  omega
theorem top_eight (n : Int) (h : (Lit.int .i64 n).wf = true) : wrap64 (topOf n 8) = n := by
  have hb : -9223372036854775808 ≤ n ∧ n ≤ 9223372036854775807 := by
    simpa [Lit.wf, IntKind.min, IntKind.max, IntKind.bits, IntKind.signed] using h
  have e : topOf n 8 = n % 18446744073709551616 := by
    unfold topOf
    rw [wrap_u64]
    simp
  rw [e]
  unfold wrap64
  omega

set_option maxRecDepth 100000 in
set_option maxHeartbeats 1000000 in
theorem number_any (v : Value) (n : Int) (w : World) (hv : Sl w v ((enc8 n).map B8)) (hn : (Lit.int .i64 n).wf = true) :
    Calls Tryz.prog 124 #[v] w fun e w' => e = .returned (.int .i64 n) ∧ w' = w := by
  rcases hv with ⟨a, c, rfl, hz⟩ | ⟨b, o, c, rfl, hb, hc⟩
  · have := congrArg List.length hz
    simp [enc8_len] at this
  · simp only [List.length_map, enc8_len] at hc ⊢
    go_enter Tryz.func124, Tryz.ntmps124
    go_wp2
    go_loop [3, 8] (fun t i => ∃ k : Nat, k ≤ 8 ∧ i = .int .i64 k ∧ t = .int .u64 (topOf n k)) (fun _ i => 8 - (intOf i).toNat)
    case atStart => exact ⟨0, by omega, rfl, by rw [top_zero]⟩
    case round =>
      obtain ⟨k, hk, rfl, rfl⟩ := hrel
      by_cases hlt : k < 8
      · have hcell := hc k hlt
        have hq : ((enc8 n).map B8)[k]'(by simp [enc8_len]; omega) = .int .u8 (byteAt n k) := by simp [enc8, B8]
        rw [hq] at hcell
        have HT := hid (top_step n k hlt)
        clear hq hc
        go_wp2
        go_round
        case rel => exact ⟨k + 1, by omega, by go_num, by rw [HT.out]⟩
        case measure => simp [intOf]; omega
      · have hk8 : k = 8 := by omega
        subst hk8
        have HT := hid (top_eight n hn)
        go_wp2
        go_ret
        exact ⟨ret_int HT.out, rfl⟩

end Go.Proofs.YtkgjpfamjedncaaGreat
