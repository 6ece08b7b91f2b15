-- What goes with a call of a voter of the script.
-- What stays, behind the calls of a step: the book, the boxes, what has come out.
-- A unit of the script: the program's cells, the document's, and what was kept.
import Derived.Test.YtkgjpfamjedncaaGreatPickObKeptBTagAnew
import Derived.Test.YtkgjpfamjedncaaGreatKNotNoted
namespace Go.Proofs.YtkgjpfamjedncaaGreat
open Go.RowKit Go.Maps
attribute [local go_sem ↓] Go.wp_at_zero Go.wp_at_succ

/-- Boxes that no call turns: they bear the mark 3. -/
def Bo (W : World) (tag : Nat → Nat) (l : List (Nat × Array Value × TypeId)) : Prop := ∀ x ∈ l, W.heap[x.1]? = some (.cells x.2.1 x.2.2 (0, 0)) ∧ tag x.1 = 3
theorem Bo.only {T : Nat → Prop} {W W' : World} {tag tag' : Nat → Nat} {l : List (Nat × Array Value × TypeId)} (h : Bo W tag l) (ho : Only T W W') (hs : ∀ b, b < W.heap.size → T b → tag b ≠ 3) (ht : ∀ b, b < W.heap.size → tag' b = tag b) : Bo W' tag' l := fun x hx => by
  obtain ⟨h1, h2⟩ := h x hx
  have lx := (Array.getElem?_eq_some_iff.1 h1).1
  exact ⟨(ho.block x.1 lx fun e => hs x.1 lx e h2).trans h1, by rw [ht x.1 lx]; exact h2⟩
theorem Bo.bl {W W' : World} {tag : Nat → Nat} {l : List (Nat × Array Value × TypeId)} (h : Bo W tag l) (hb : Bl W W') : Bo W' tag l := h.only (Only.of_bl (S := fun _ => False) hb) (fun _ _ e => e.elim) (fun _ _ => rfl)
theorem Bo.cell {W : World} {tag : Nat → Nat} {l : List (Nat × Array Value × TypeId)} (h : Bo W tag l) {g : Nat} {cs : Array Value} {t : TypeId} (hq : (g, cs, t) ∈ l) (o : Nat) : W.cell? ⟨g, o, none⟩ = cs[o]? := cell_of_row W g o _ t (0, 0) (h _ hq).1
theorem Bo.frozen {W : World} {tag : Nat → Nat} {l : List (Nat × Array Value × TypeId)} (h : Bo W tag l) {g : Nat} {cs : Array Value} {t : TypeId} (hq : (g, cs, t) ∈ l) (o : Nat) : W.frozen? ⟨g, o, none⟩ = false := frozen_of_row W g o _ t (h _ hq).1
theorem Bo.lt {W : World} {tag : Nat → Nat} {l : List (Nat × Array Value × TypeId)} (h : Bo W tag l) {g : Nat} {cs : Array Value} {t : TypeId} (hq : (g, cs, t) ∈ l) : g < W.heap.size := (Array.getElem?_eq_some_iff.1 (h _ hq).1).1

/-- What was kept of voter j, its block q. -/
structure Orr (w : World) (tag : Nat → Nat) (j q p y : Nat) (rs : List Rc) (S : Nat → Int → Ep) (m : Nat) : Prop where
  ex : ∃ pv sv xs ks, w.heap[q]? = some (.cells #[.pointer (some ⟨p, 0, none⟩), .pointer (some ⟨y, 0, none⟩), pv, sv] 91 (0, 0)) ∧ tag q = tD j ∧
    w.ownsRow 0 88 1 pv m xs ∧ (∀ b, pv.ownBlock = some b → tag b = tD j) ∧ w.ownsRow 0 3 1 sv m ((List.range m).map fun i => .int .i64 (off rs (ks i) : Nat)) ∧ (∀ b, sv.ownBlock = some b → tag b = tD j) ∧
    Kp rs ks m ∧ ∀ i, i < m → ∃ l, xs[i]? = some l ∧ Past w tag (tV j) l (S (ks i))
theorem Orr.only {T : Nat → Prop} {w w' : World} {tag tag' : Nat → Nat} {j q p y : Nat} {rs : List Rc} {S : Nat → Int → Ep} {m : Nat} (h : Orr w tag j q p y rs S m) (ho : Only T w w') (hs : ∀ b, b < w.heap.size → T b → tag b ≠ tD j ∧ tag b ≠ tV j) (ht : ∀ b, b < w.heap.size → tag' b = tag b) : Orr w' tag' j q p y rs S m := by
  obtain ⟨pv, sv, xs, ks, e1, e2, e3, e4, e5, e6, e7, e8⟩ := h
  have lq := (Array.getElem?_eq_some_iff.1 e1).1
  refine ⟨pv, sv, xs, ks, (ho.block q lq fun e => (hs q lq e).1 e2).trans e1, by rw [ht q lq]; exact e2, ho.owns e3 fun b hb e => (hs b (e3.lt b hb).2 e).1 (e4 b hb), fun b hb => by rw [ht b (e3.lt b hb).2]; exact e4 b hb, ho.owns e5 fun b hb e => (hs b (e5.lt b hb).2 e).1 (e6 b hb), fun b hb => by rw [ht b (e5.lt b hb).2]; exact e6 b hb, e7, fun i hi => ?_⟩
  obtain ⟨l, k1, k2⟩ := e8 i hi
  exact ⟨l, k1, k2.only ho (fun b hb e => (hs b hb e).2) ht⟩
theorem Orr.cells {w : World} {tag : Nat → Nat} {j q p y : Nat} {rs : List Rc} {S : Nat → Int → Ep} {m : Nat} (h : Orr w tag j q p y rs S m) : w.cell? ⟨q, 0, none⟩ = some (.pointer (some ⟨p, 0, none⟩)) ∧ w.cell? ⟨q, 1, none⟩ = some (.pointer (some ⟨y, 0, none⟩)) ∧ q < w.heap.size ∧ tag q = tD j := by
  obtain ⟨pv, sv, xs, ks, e1, e2, _⟩ := h
  exact ⟨cell_of_row w q 0 _ 91 (0, 0) e1, cell_of_row w q 1 _ 91 (0, 0) e1, (Array.getElem?_eq_some_iff.1 e1).1, e2⟩
theorem Ob.open' {w : World} {tag : Nat → Nat} {j q : Nat} {rs : List Rc} {S : Nat → Int → Ep} {m nn : Nat} (h : Ob 0 w tag j q rs S m nn) : ∃ p y, Orr w tag j q p y rs S m ∧ Vt w tag (tP j) p rs S ∧ Rt w tag j y (S rs.length) nn := by
  obtain ⟨p, y, pv, sv, xs, ks, h1, h2, h3, h4, h5⟩ := h
  exact ⟨p, y, ⟨pv, sv, xs, ks, h1, h2, h5⟩, h3, h4⟩
theorem tP_ne (j : Nat) : tP j ≠ tR j ∧ tP j ≠ tV j ∧ tP j ≠ tD j ∧ tR j ≠ tV j ∧ tR j ≠ tD j ∧ tP j ≠ 1 ∧ tR j ≠ 1 ∧ tD j ≠ 1 ∧ tV j ≠ 1 ∧ tP j ≠ 2 ∧ tR j ≠ 2 ∧ tD j ≠ 2 ∧ tV j ≠ 2 := by unfold tP tR tV tD; omega
end Go.Proofs.YtkgjpfamjedncaaGreat

namespace Go.Proofs.YtkgjpfamjedncaaGreat
open Go.RowKit Go.Maps

/-- Lists of bytes that have come out: those of the mark 1 wait for theirs. -/
def Pl (w : World) (tag : Nat → Nat) (lim : Nat) (pl : List (Value × List Int × Nat)) : Prop :=
  ∀ x ∈ pl, w.ownsRow 0 5 1 x.1 x.2.1.length (x.2.1.map B8) ∧ ∀ b, x.1.ownBlock = some b → tag b = x.2.2 ∧ (x.2.2 = 1 → lim ≤ b)
theorem Pl.only {T : Nat → Prop} {w w' : World} {tag tag' : Nat → Nat} {lim : Nat} {pl : List (Value × List Int × Nat)} (h : Pl w tag lim pl) (ho : Only T w w') (hs : ∀ b, b < w.heap.size → T b → ∀ x ∈ pl, tag b ≠ x.2.2) (ht : ∀ b, b < w.heap.size → tag' b = tag b) : Pl w' tag' lim pl := fun x hx => by
  obtain ⟨h1, h2⟩ := h x hx
  exact ⟨ho.owns h1 fun b hb e => hs b (h1.lt b hb).2 e x hx (h2 b hb).1, fun b hb => by rw [ht b (h1.lt b hb).2]; exact h2 b hb⟩

/-- The book, the boxes, and what has come out, behind a part of a step that began at w0. -/
structure Fr (w0 : World) (tag0 : Nat → Nat) (j bw : Nat) (kl vl : Value) (w : World) (tag : Nat → Nat) (nb lim : Nat) (bx : List (Nat × Array Value × TypeId)) (pl : List (Value × List Int × Nat)) : Prop where
  old : ∀ b, b < w0.heap.size → tag b = tag0 b
  out : Only (fun b => tag0 b = 2 ∨ Mine j (tag0 b)) w0 w
  bt : Bt w tag bw kl vl nb lim
  hi : lim ≤ w.heap.size
  lo : w0.heap.size ≤ lim
  bo : Bo w tag bx
  bn : ∀ x ∈ bx, w0.heap.size ≤ x.1
  pd : Pl w tag lim pl
  ps : ∀ x ∈ pl, x.2.2 = 1 ∨ x.2.2 = 4
theorem Fr.size {w0 : World} {tag0 : Nat → Nat} {j bw : Nat} {kl vl : Value} {w : World} {tag : Nat → Nat} {nb lim : Nat} {bx : List (Nat × Array Value × TypeId)} {pl : List (Value × List Int × Nat)} (h : Fr w0 tag0 j bw kl vl w tag nb lim bx pl) : w0.heap.size ≤ w.heap.size := h.out.size
theorem mine_not (j t : Nat) (h : Mine j t) : t ≠ 1 ∧ t ≠ 2 ∧ t ≠ 3 ∧ t ≠ 4 := by
  unfold Mine tP tR tV tD at h
  omega
/-- Blocks of the voter turn. -/
theorem Fr.mine {w0 : World} {tag0 : Nat → Nat} {j bw : Nat} {kl vl : Value} {w w' : World} {tag tag' : Nat → Nat} {nb lim : Nat} {bx : List (Nat × Array Value × TypeId)} {pl : List (Value × List Int × Nat)} (h : Fr w0 tag0 j bw kl vl w tag nb lim bx pl) {T : Nat → Prop} (ho : Only T w w') (hs : ∀ b, b < w.heap.size → T b → Mine j (tag b)) (ht : ∀ b, b < w.heap.size → tag' b = tag b) : Fr w0 tag0 j bw kl vl w' tag' nb lim bx pl where
  old := fun b hb => by rw [ht b (Nat.lt_of_lt_of_le hb h.size)]; exact h.old b hb
  out := by
    refine ⟨ho.os.trans h.out.os, ho.tape.trans h.out.tape, ho.output.trans h.out.output, Nat.le_trans h.size ho.size, fun i hi hn => ?_⟩
    have hi' := Nat.lt_of_lt_of_le hi h.size
    rw [ho.block i hi' fun e => hn (.inr (by rw [← h.old i hi]; exact hs i hi' e)), h.out.block i hi hn]
  bt := h.bt.only ho (fun b hb e => ⟨(mine_not j _ (hs b hb e)).1, (mine_not j _ (hs b hb e)).2.1⟩) ht h.hi
  hi := Nat.le_trans h.hi ho.size
  lo := h.lo
  bo := h.bo.only ho (fun b hb e => (mine_not j _ (hs b hb e)).2.2.1) ht
  bn := h.bn
  pd := h.pd.only ho (fun b hb e x hx => by
    obtain ⟨m1, m2, m3, m4⟩ := mine_not j _ (hs b hb e)
    rcases h.ps x hx with e' | e' <;> rw [e']
    · exact m1
    · exact m4) ht
  ps := h.ps
/-- Nothing turns. -/
theorem Fr.bl {w0 : World} {tag0 : Nat → Nat} {j bw : Nat} {kl vl : Value} {w w' : World} {tag : Nat → Nat} {nb lim : Nat} {bx : List (Nat × Array Value × TypeId)} {pl : List (Value × List Int × Nat)} (h : Fr w0 tag0 j bw kl vl w tag nb lim bx pl) (hb : Bl w w') (t : Nat) : Fr w0 tag0 j bw kl vl w' (tagTo tag w.heap.size t) nb lim bx pl :=
  h.mine (Only.of_bl (S := fun _ => False) hb) (fun _ _ e => e.elim) (fun _ hb => tagTo_old _ _ _ _ hb)
theorem Fr.add {w0 : World} {tag0 : Nat → Nat} {j bw : Nat} {kl vl : Value} {w : World} {tag : Nat → Nat} {nb lim : Nat} {bx : List (Nat × Array Value × TypeId)} {pl : List (Value × List Int × Nat)} (h : Fr w0 tag0 j bw kl vl w tag nb lim bx pl) (v : Value) (ys : List Int) (t : Nat) (ht : t = 1 ∨ t = 4) (hv : w.ownsRow lim 5 1 v ys.length (ys.map B8)) (hb : ∀ b, v.ownBlock = some b → tag b = t) : Fr w0 tag0 j bw kl vl w tag nb lim bx ((v, ys, t) :: pl) :=
  ⟨h.old, h.out, h.bt, h.hi, h.lo, h.bo, h.bn, fun x hx => by
    rcases List.mem_cons.1 hx with rfl | hx
    · exact ⟨ownsRow_base hv fun _ _ => Nat.zero_le _, fun b e => ⟨hb b e, fun _ => (hv.lt b e).1⟩⟩
    · exact h.pd x hx, fun x hx => by
    rcases List.mem_cons.1 hx with rfl | hx
    · exact ht
    · exact h.ps x hx⟩
theorem Fr.sub {w0 : World} {tag0 : Nat → Nat} {j bw : Nat} {kl vl : Value} {w : World} {tag : Nat → Nat} {nb lim : Nat} {bx : List (Nat × Array Value × TypeId)} {pl pl' : List (Value × List Int × Nat)} (h : Fr w0 tag0 j bw kl vl w tag nb lim bx pl) (hs : ∀ x ∈ pl', x ∈ pl) : Fr w0 tag0 j bw kl vl w tag nb lim bx pl' :=
  ⟨h.old, h.out, h.bt, h.hi, h.lo, h.bo, h.bn, fun x hx => h.pd x (hs x hx), fun x hx => h.ps x (hs x hx)⟩
/-- A box turns. -/
theorem Fr.box {w0 : World} {tag0 : Nat → Nat} {j bw : Nat} {kl vl : Value} {w w' : World} {tag : Nat → Nat} {nb lim : Nat} {g : Nat} {cs cs' : Array Value} {t : TypeId} {b1 b2 : List (Nat × Array Value × TypeId)} {pl : List (Value × List Int × Nat)} (h : Fr w0 tag0 j bw kl vl w tag nb lim (b1 ++ (g, cs, t) :: b2) pl) (ho : Only (fun b => b = g) w w') (hg : w'.heap[g]? = some (.cells cs' t (0, 0))) (hd : ∀ x ∈ b1 ++ b2, x.1 ≠ g) : Fr w0 tag0 j bw kl vl w' tag nb lim (b1 ++ (g, cs', t) :: b2) pl := by
  have tg : tag g = 3 := (h.bo (g, cs, t) (by simp)).2
  have ng : w0.heap.size ≤ g := h.bn (g, cs, t) (by simp)
  have hT : ∀ b, b < w.heap.size → b = g → tag b = 3 := fun b _ e => by rw [e]; exact tg
  refine ⟨h.old, ?_, h.bt.only ho (fun b hb e => by rw [hT b hb e]; omega) (fun _ _ => rfl) h.hi, Nat.le_trans h.hi ho.size, h.lo, fun x hx => ?_, fun x hx => ?_, h.pd.only ho (fun b hb e x hx => by rw [hT b hb e]; rcases h.ps x hx with e' | e' <;> rw [e'] <;> omega) (fun _ _ => rfl), h.ps⟩
  · refine ⟨ho.os.trans h.out.os, ho.tape.trans h.out.tape, ho.output.trans h.out.output, Nat.le_trans h.size ho.size, fun i hi hn => ?_⟩
    rw [ho.block i (Nat.lt_of_lt_of_le hi h.size) (by omega), h.out.block i hi hn]
  · have hx' : x = (g, cs', t) ∨ x ∈ b1 ++ b2 := by
      simp only [List.mem_append, List.mem_cons] at hx ⊢
      rcases hx with hx | hx | hx
      · exact .inr (.inl hx)
      · exact .inl hx
      · exact .inr (.inr hx)
    rcases hx' with rfl | hx'
    · exact ⟨hg, tg⟩
    · have hm : x ∈ b1 ++ (g, cs, t) :: b2 := by
        simp only [List.mem_append, List.mem_cons] at hx' ⊢
        rcases hx' with hx' | hx'
        · exact .inl hx'
        · exact .inr (.inr hx')
      obtain ⟨k1, k2⟩ := h.bo x hm
      exact ⟨(ho.block x.1 (Array.getElem?_eq_some_iff.1 k1).1 (hd x hx')).trans k1, k2⟩
  · have hx' : x.1 = g ∨ x ∈ b1 ++ (g, cs, t) :: b2 := by
      simp only [List.mem_append, List.mem_cons] at hx ⊢
      rcases hx with hx | hx | hx
      · exact .inr (.inl hx)
      · exact .inl (by rw [hx])
      · exact .inr (.inr (.inr hx))
    rcases hx' with e | hx'
    · rw [e]; exact ng
    · exact h.bn x hx'
/-- The book marks what has come out. -/
theorem Fr.byte {w0 : World} {tag0 : Nat → Nat} {j bw : Nat} {kl vl : Value} {w : World} {tag : Nat → Nat} {nb lim : Nat} {bx : List (Nat × Array Value × TypeId)} {pl : List (Value × List Int × Nat)} {v : Value} {ys : List Int} (h : Fr w0 tag0 j bw kl vl w tag nb lim bx ((v, ys, 1) :: pl)) (hp : ∀ x ∈ pl, x.2.2 = 4) (hn : ys.length ≤ 40000000) (hnb : nb < 4000000) :
    Calls Tryz.prog 36 #[.pointer (some ⟨bw, 2, none⟩), v] w fun en w' => en = .returned (.tuple #[]) ∧ ∃ tag', (∀ b, b < w.heap.size → tag' b = tag b) ∧ Fr w0 tag0 j bw kl vl w' tag' (nb + 1) w'.heap.size bx pl ∧ Only (fun b => tag b = 2 ∨ tag b = 1) w w' := by
  obtain ⟨h1, h2⟩ := h.pd (v, ys, 1) (by simp)
  refine (bt_byte h.bt v ys.length (ys.map B8) (ownsRow_base h1 fun b hb => (h2 b hb).2 rfl) (fun b hb => (h2 b hb).1) hn hnb h.hi).mono ?_
  rintro en w' ⟨rfl, ⟨tag', o1, o2, hB⟩, O⟩
  have hT : ∀ b, b < w.heap.size → (tag b = 2 ∨ v.ownBlock = some b) → tag b = 2 ∨ tag b = 1 := fun b _ e => e.imp id fun e => (h2 b e).1
  refine ⟨rfl, tag', o1, ⟨fun b hb => by rw [o1 b (Nat.lt_of_lt_of_le hb h.size)]; exact h.old b hb, ?_, hB, Nat.le_refl _, Nat.le_trans h.size O.size, h.bo.only O (fun b hb e => by rcases hT b hb e with e | e <;> rw [e] <;> omega) o1, h.bn, fun x hx => ?_, fun x hx => h.ps x (List.mem_cons_of_mem _ hx)⟩, O.mono hT⟩
  · refine ⟨O.os.trans h.out.os, O.tape.trans h.out.tape, O.output.trans h.out.output, Nat.le_trans h.size O.size, fun i hi hn => ?_⟩
    rw [O.block i (Nat.lt_of_lt_of_le hi h.size) ?_, h.out.block i hi hn]
    rintro (e | e)
    · exact hn (.inl (by rw [← h.old i hi]; exact e))
    · have := (h2 i e).2 rfl; have := h.lo; omega
  · have h3 := (Pl.only (pl := pl) (fun x hx => h.pd x (List.mem_cons_of_mem _ hx)) O (fun b hb e x hx => by rw [hp x hx]; rcases hT b hb e with e | e <;> rw [e] <;> omega) o1) x hx
    exact ⟨h3.1, fun b hb => ⟨(h3.2 b hb).1, fun e => by rw [hp x hx] at e; omega⟩⟩
end Go.Proofs.YtkgjpfamjedncaaGreat

namespace Go.Proofs.YtkgjpfamjedncaaGreat
open Go.RowKit Go.Maps

def rowC (a b c d u : Int) (G : Nat → Int × Int × Value) : Nat → List Value
  | 0 => []
  | m + 1 => rowC a b c d u G m ++ [.int .i64 a, .int .i64 b, .int .i64 c, .int .i64 d, .int .i64 u, .int .i64 (G m).1, .int .i64 (G m).2.1, (G m).2.2]
theorem rowC_congr (a b c d u : Int) (G G' : Nat → Int × Int × Value) : ∀ m, (∀ i, i < m → G i = G' i) → rowC a b c d u G m = rowC a b c d u G' m
  | 0, _ => rfl
  | m + 1, h => by rw [rowC, rowC, rowC_congr a b c d u G G' m (fun i hi => h i (by omega)), h m (by omega)]

/-- What was written, as it was kept. -/
structure PastC (w : World) (tag : Nat → Nat) (t : Nat) (l : Value) (a b c d u : Int) (ct : Nat → Ct) : Prop where
  ex : ∃ n F, n < 4000000 ∧ w.ownsRow 0 137 5 l n (row5 F n) ∧ Mt a b c d u n F ct ∧ (∀ g, l.ownBlock = some g → tag g = t) ∧ ∀ i, i < n → w.ownsRow 0 5 1 (F i).v (F i).ys.length ((F i).ys.map B8) ∧ ∀ g, (F i).v.ownBlock = some g → tag g = t
theorem PastC.only {T : Nat → Prop} {w w' : World} {tag tag' : Nat → Nat} {t : Nat} {l : Value} {a b c d u : Int} {ct : Nat → Ct} (h : PastC w tag t l a b c d u ct) (ho : Only T w w') (hs : ∀ g, g < w.heap.size → T g → tag g ≠ t) (ht : ∀ g, g < w.heap.size → tag' g = tag g) : PastC w' tag' t l a b c d u ct := by
  obtain ⟨n, F, h0, h1, h2, h3, h4⟩ := h
  refine ⟨n, F, h0, ho.owns h1 fun b hb e => hs b (h1.lt b hb).2 e (h3 b hb), h2, fun b hb => by rw [ht b (h1.lt b hb).2]; exact h3 b hb, fun i hi => ?_⟩
  obtain ⟨k1, k2⟩ := h4 i hi
  exact ⟨ho.owns k1 fun b hb e => hs b (k1.lt b hb).2 e (k2 b hb), fun b hb => by rw [ht b (k1.lt b hb).2]; exact k2 b hb⟩

/-- What was kept of unit j, its block q. -/
structure OrrC (w : World) (tag : Nat → Nat) (j q p y : Nat) (a b c d u : Int) (rs : List Rc) (S : Nat → St) (m : Nat) : Prop where
  ex : ∃ pv sv G ks, w.heap[q]? = some (.cells #[.pointer (some ⟨p, 0, none⟩), .pointer (some ⟨y, 0, none⟩), pv, sv] 80 (0, 0)) ∧ tag q = tD j ∧
    w.ownsRow 0 77 8 pv m (rowC a b c d u G m) ∧ (∀ g, pv.ownBlock = some g → tag g = tD j) ∧ w.ownsRow 0 3 1 sv m ((List.range m).map fun i => .int .i64 (off rs (ks i) : Nat)) ∧ (∀ g, sv.ownBlock = some g → tag g = tD j) ∧
    Kp rs ks m ∧ ∀ i, i < m → (G i).1 = (S (ks i)).ep ∧ (G i).2.1 = (S (ks i)).mark ∧ PastC w tag (tV j) (G i).2.2 a b c d u (S (ks i)).ct
theorem OrrC.only {T : Nat → Prop} {w w' : World} {tag tag' : Nat → Nat} {j q p y : Nat} {a b c d u : Int} {rs : List Rc} {S : Nat → St} {m : Nat} (h : OrrC w tag j q p y a b c d u rs S m) (ho : Only T w w') (hs : ∀ g, g < w.heap.size → T g → tag g ≠ tD j ∧ tag g ≠ tV j) (ht : ∀ g, g < w.heap.size → tag' g = tag g) : OrrC w' tag' j q p y a b c d u rs S m := by
  obtain ⟨pv, sv, G, ks, e1, e2, e3, e4, e5, e6, e7, e8⟩ := h
  have lq := (Array.getElem?_eq_some_iff.1 e1).1
  refine ⟨pv, sv, G, ks, (ho.block q lq fun e => (hs q lq e).1 e2).trans e1, by rw [ht q lq]; exact e2, ho.owns e3 fun b hb e => (hs b (e3.lt b hb).2 e).1 (e4 b hb), fun b hb => by rw [ht b (e3.lt b hb).2]; exact e4 b hb, ho.owns e5 fun b hb e => (hs b (e5.lt b hb).2 e).1 (e6 b hb), fun b hb => by rw [ht b (e5.lt b hb).2]; exact e6 b hb, e7, fun i hi => ?_⟩
  obtain ⟨k0, k1, k2⟩ := e8 i hi
  exact ⟨k0, k1, k2.only ho (fun b hb e => (hs b hb e).2) ht⟩
theorem OrrC.cells {w : World} {tag : Nat → Nat} {j q p y : Nat} {a b c d u : Int} {rs : List Rc} {S : Nat → St} {m : Nat} (h : OrrC w tag j q p y a b c d u rs S m) : w.cell? ⟨q, 0, none⟩ = some (.pointer (some ⟨p, 0, none⟩)) ∧ w.cell? ⟨q, 1, none⟩ = some (.pointer (some ⟨y, 0, none⟩)) ∧ q < w.heap.size ∧ tag q = tD j := by
  obtain ⟨pv, sv, G, ks, e1, e2, _⟩ := h
  exact ⟨cell_of_row w q 0 _ 80 (0, 0) e1, cell_of_row w q 1 _ 80 (0, 0) e1, (Array.getElem?_eq_some_iff.1 e1).1, e2⟩

/-- Unit j of the script, in block q. -/
structure ObC (w : World) (tag : Nat → Nat) (j q : Nat) (a b c d u ch : Int) (rs : List Rc) (S : Nat → St) (m nn : Nat) : Prop where
  cha : cha a b c d u = (ch, 0)
  ex : ∃ p y, OrrC w tag j q p y a b c d u rs S m ∧ Kt w tag (tP j) p a b c d ch rs S ∧ Dt w tag (tR j) (tV j) y a b c d u (S rs.length) nn
theorem ObC.only {T : Nat → Prop} {w w' : World} {tag tag' : Nat → Nat} {j q : Nat} {a b c d u ch : Int} {rs : List Rc} {S : Nat → St} {m nn : Nat} (h : ObC w tag j q a b c d u ch rs S m nn) (ho : Only T w w') (hs : ∀ g, g < w.heap.size → T g → ¬ Mine j (tag g)) (ht : ∀ g, g < w.heap.size → tag' g = tag g) : ObC w' tag' j q a b c d u ch rs S m nn := by
  obtain ⟨hc, p, y, h1, h2, h3⟩ := h
  have n0 : ∀ b, b < w.heap.size → T b → tag b ≠ tP j := fun b hb e e' => hs b hb e (.inl e')
  have n1 : ∀ b, b < w.heap.size → T b → tag b ≠ tR j := fun b hb e e' => hs b hb e (.inr (.inl e'))
  have n2 : ∀ b, b < w.heap.size → T b → tag b ≠ tV j := fun b hb e e' => hs b hb e (.inr (.inr (.inl e')))
  have n3 : ∀ b, b < w.heap.size → T b → tag b ≠ tD j := fun b hb e e' => hs b hb e (.inr (.inr (.inr e')))
  exact ⟨hc, p, y, h1.only ho (fun b hb e => ⟨n3 b hb e, n2 b hb e⟩) ht, h2.only ho n0 ht, h3.only ho (fun b hb e => ⟨n1 b hb e, n2 b hb e⟩) ht⟩

theorem MoreK.len {rs : List Rc} {S : Nat → St} {rs' : List Rc} {S' : Nat → St} (h : MoreK rs S rs' S') : rs'.length = rs.length ∨ rs'.length = rs.length + 1 := by
  rcases h with ⟨rfl, _⟩ | ⟨r, E', rfl, _⟩
  · exact .inl rfl
  · exact .inr (by simp)
theorem MoreK.off {rs : List Rc} {S : Nat → St} {rs' : List Rc} {S' : Nat → St} (h : MoreK rs S rs' S') (k : Nat) (hk : k ≤ rs.length) : off rs' k = off rs k := by
  rcases h with ⟨rfl, _⟩ | ⟨r, E', rfl, _⟩
  · rfl
  · unfold Go.Proofs.YtkgjpfamjedncaaGreat.off
    rw [List.take_append_of_le_length hk]
theorem MoreK.st {rs : List Rc} {S : Nat → St} {rs' : List Rc} {S' : Nat → St} (h : MoreK rs S rs' S') (k : Nat) (hk : k ≤ rs.length) : S' k = S k := by
  rcases h with ⟨_, rfl⟩ | ⟨r, E', _, rfl⟩
  · rfl
  · exact upK_old _ _ _ _ hk
theorem Kp.moreK {rs : List Rc} {S : Nat → St} {rs' : List Rc} {S' : Nat → St} (h : MoreK rs S rs' S') {ks : Nat → Nat} {m : Nat} (hk : Kp rs ks m) : Kp rs' (fun i => if i = m then rs'.length else ks i) (m + 1) := by
  have hp := hk.pos
  refine ⟨by omega, ?_, fun i hi => ?_, ?_⟩
  · rw [if_neg (by omega)]; exact hk.zero
  · by_cases e : i + 1 = m
    · rw [if_pos e, if_neg (by omega), show i = m - 1 by omega, hk.last]
      exact h.len
    · rw [if_neg e, if_neg (by omega)]; exact hk.step i (by omega)
  · rw [show m + 1 - 1 = m by omega, if_pos rfl]

theorem fr_noted {w0 : World} {tag0 : Nat → Nat} {j bw : Nat} {kl vl : Value} {w : World} {tag : Nat → Nat} {nb lim : Nat} {bx : List (Nat × Array Value × TypeId)} {pl : List (Value × List Int × Nat)} (h : Fr w0 tag0 j bw kl vl w tag nb lim bx pl) (hp4 : ∀ x ∈ pl, x.2.2 = 4) {q p y : Nat} {a b c d u ch : Int} {rs rs' : List Rc} {S S' : Nat → St} {m nn : Nat}
    (hcha : cha a b c d u = (ch, 0)) (ho : OrrC w tag j q p y a b c d u rs S m) (hmore : MoreK rs S rs' S') (hk : Kt w tag (tP j) p a b c d ch rs' S') (hd : Dt w tag (tR j) (tV j) y a b c d u (S' rs'.length) nn) (hm : m ≤ 4000000) (hnn : nn < 4000000) (hl : (flat rs').length ≤ 30000000) (hnb : nb < 4000000) :
    Calls Tryz.prog 32 #[.pointer (some ⟨bw, 0, none⟩), .pointer (some ⟨q, 0, none⟩)] w fun en w' => en = .returned (.tuple #[]) ∧ ∃ tag', (∀ g, g < w.heap.size → tag' g = tag g) ∧ Fr w0 tag0 j bw kl vl w' tag' (nb + 1) w'.heap.size bx pl ∧ ObC w' tag' j q a b c d u ch rs' S' (m + 1) nn := by
  obtain ⟨pv, sv, G, ks, e1, e2, e3, e4, e5, e6, e7, e8⟩ := ho
  obtain ⟨d1, d2, d3⟩ := tD_ne j
  have lq := (Array.getElem?_eq_some_iff.1 e1).1
  have hK : ∀ g, Kfoot q pv sv g → tag g = tD j := by
    rintro g (rfl | hg | hg)
    · exact e2
    · exact e4 g hg
    · exact e6 g hg
  obtain ⟨lv, n, F, h0, h1, h2, h3, h4, h5⟩ := hd
  refine noted_any bw q p y pv sv m n _ _ a b c d u _ _ lv F (flat rs') w _ e1 h1 (by omega) (fun W hW => ?_) e3 e5 hm ?_
  · exact kt_image (tag := tag) (hk.only hW (fun g _ e e' => d1 ((hK g e).symm.trans e')) (fun _ _ => rfl)) hl
  intro W pv' sv' lc iv r1 r2 r3 r4 r8 r5 r6 r7
  have O : Only (fun g => tag g = tD j) w W := r5.mono fun g _ e => hK g e
  obtain ⟨tagN, ht⟩ : ∃ t, t = fun g => if g < w.heap.size then tag g else if pv'.ownBlock = some g ∨ sv'.ownBlock = some g then tD j else if iv.ownBlock = some g then 1 else tV j := ⟨_, rfl⟩
  have old : ∀ g, g < w.heap.size → tagN g = tag g := fun g hg => by rw [ht]; simp [hg]
  have new : ∀ g, w.heap.size ≤ g → tagN g = if pv'.ownBlock = some g ∨ sv'.ownBlock = some g then tD j else if iv.ownBlock = some g then 1 else tV j := fun g hg => by rw [ht]; simp only; rw [if_neg (by omega)]
  have nP : ∀ g, g < w.heap.size → tag g = tD j → tag g ≠ tP j := fun g _ e e' => d1 (e.symm.trans e')
  have nR : ∀ g, g < w.heap.size → tag g = tD j → tag g ≠ tR j ∧ tag g ≠ tV j := fun g _ e => ⟨fun e' => d2 (e.symm.trans e'), fun e' => d3 (e.symm.trans e')⟩
  have hkW : Kt W tagN (tP j) p a b c d ch rs' S' := hk.only O nP old
  have hdW : Dt W tagN (tR j) (tV j) y a b c d u (S' rs'.length) nn := Dt.only (w := w) (tag := tag) ⟨lv, n, F, h0, h1, h2, h3, h4, h5⟩ O nR old
  have hpt : ∀ g, pv'.ownBlock = some g → tagN g = tD j := fun g hg => by
    by_cases hlt : g < w.heap.size
    · rcases r6 g hg with h' | h'
      · rw [old g hlt]; exact e4 g h'
      · omega
    · rw [new g (by omega), if_pos (.inl hg)]
  have hst : ∀ g, sv'.ownBlock = some g → tagN g = tD j := fun g hg => by
    by_cases hlt : g < w.heap.size
    · rcases r7 g hg with h' | h'
      · rw [old g hlt]; exact e6 g h'
      · omega
    · rw [new g (by omega), if_pos (.inr hg)]
  have hiv : ∀ g, iv.ownBlock = some g → tagN g = 1 := fun g hg => by
    rw [new g (r8.lt g hg).1, if_neg, if_pos hg]
    rintro (e | e)
    · exact ownsRow_type r8 r2 (by decide) g hg e
    · exact ownsRow_type r8 r3 (by decide) g hg e
  have hlc : ∀ g, lc.ownBlock = some g → tagN g = tV j := fun g hg => by
    rw [new g (r4.lt g hg).1, if_neg, if_neg]
    · exact fun e => ownsRow_type r4 r8 (by decide) g hg e
    · rintro (e | e)
      · exact ownsRow_type r4 r2 (by decide) g hg e
      · exact ownsRow_type r4 r3 (by decide) g hg e
  have hOr : OrrC W tagN j q p y a b c d u rs' S' (m + 1) := by
    refine ⟨pv', sv', fun i => if i = m then ((S' rs'.length).ep, (S' rs'.length).mark, lc) else G i, _, r1, by rw [old q lq]; exact e2, ?_, hpt, ?_, hst, e7.moreK hmore, fun i hi => ?_⟩
    · rw [rowC, rowC_congr a b c d u _ G m (fun i hi => by rw [if_neg (by omega)])]
      simp only [if_true]
      exact r2
    · have heq : (List.range (m + 1)).map (fun i => Value.int .i64 (off rs' (if i = m then rs'.length else ks i) : Nat)) = ((List.range m).map fun i => Value.int .i64 (off rs (ks i) : Nat)) ++ [.int .i64 (flat rs').length] := by
        rw [List.range_succ, List.map_append]
        congr 1
        · refine List.map_congr_left fun i hi => ?_
          have hi' : i < m := by simpa using hi
          rw [if_neg (by omega), hmore.off _ (e7.le i hi')]
        · simp [off_all]
      rw [heq]
      exact r3
    · by_cases ei : i = m
      · subst ei
        simp only [if_true]
        refine ⟨trivial, trivial, n, F, by omega, ownsRow_base r4 fun _ _ => Nat.zero_le _, h2, hlc, fun k hk => ⟨?_, fun g hg => ?_⟩⟩
        · exact O.owns (h1.val k hk) fun g hg e => d3 (e.symm.trans (h5 k hk g hg))
        · rw [old g ((h1.val k hk).lt g hg).2]; exact h5 k hk g hg
      · obtain ⟨k0, k1, k2⟩ := e8 i (by omega)
        simp only [if_neg ei]
        rw [hmore.st _ (e7.le i (by omega))]
        exact ⟨k0, k1, k2.only O (fun g hg e => (nR g hg e).2) old⟩
  have hFr : Fr w0 tag0 j bw kl vl W tagN nb lim bx ((iv, flat rs', 1) :: pl) := (h.mine O (fun g _ e => .inr (.inr (.inr e))) old).add iv (flat rs') 1 (.inl rfl) (ownsRow_base r8 fun g hg => Nat.le_trans h.hi (r8.lt g hg).1) hiv
  refine (hFr.byte hp4 (by omega) hnb).mono ?_
  rintro en w' ⟨rfl, tag2, o1, hF2, O2⟩
  refine ⟨rfl, tag2, fun g hg => by rw [o1 g (Nat.lt_of_lt_of_le hg O.size)]; exact old g hg, hF2, ?_⟩
  refine ObC.only (w := W) (tag := tagN) ⟨hcha, p, y, hOr, hkW, hdW⟩ O2 (fun g _ e hM => ?_) o1
  have := mine_not j _ hM
  rcases e with e | e <;> omega
end Go.Proofs.YtkgjpfamjedncaaGreat
