-- What goes with a call of a voter of the script.
-- What stays, behind the calls of a step: the book, the boxes, what has come out.
import Derived.Test.YtkgjpfamjedncaaGreatAnew
namespace Go.Proofs.YtkgjpfamjedncaaGreat
open Go.RowKit Go.Maps
attribute [local go_sem ↓] Go.wp_at_zero Go.wp_at_succ

/-- Boxes that no call turns: they bear the mark 3. -/
def Bo (W : World) (tag : Nat → Nat) (l : List (Nat × Array Value × TypeId)) : Prop := ∀ x ∈ l, W.heap[x.1]? = some (.cells x.2.1 x.2.2 (0, 0)) ∧ tag x.1 = 3
theorem Bo.only {T : Nat → Prop} {W W' : World} {tag tag' : Nat → Nat} {l : List (Nat × Array Value × TypeId)} (h : Bo W tag l) (ho : Only T W W') (hs : ∀ b, b < W.heap.size → T b → tag b ≠ 3) (ht : ∀ b, b < W.heap.size → tag' b = tag b) : Bo W' tag' l := fun x hx => by
  obtain ⟨h1, h2⟩ := h x hx
  have lx := (Array.getElem?_eq_some_iff.1 h1).1
  exact ⟨(ho.block x.1 lx fun e => hs x.1 lx e h2).trans h1, by rw [ht x.1 lx]; exact h2⟩
theorem Bo.bl {W W' : World} {tag : Nat → Nat} {l : List (Nat × Array Value × TypeId)} (h : Bo W tag l) (hb : Bl W W') : Bo W' tag l := h.only (Only.of_bl (S := fun _ => False) hb) (fun _ _ e => e.elim) (fun _ _ => rfl)
theorem Bo.cell {W : World} {tag : Nat → Nat} {l : List (Nat × Array Value × TypeId)} (h : Bo W tag l) {g : Nat} {cs : Array Value} {t : TypeId} (hq : (g, cs, t) ∈ l) (o : Nat) : W.cell? ⟨g, o, none⟩ = cs[o]? := cell_of_row W g o _ t (0, 0) (h _ hq).1
theorem Bo.frozen {W : World} {tag : Nat → Nat} {l : List (Nat × Array Value × TypeId)} (h : Bo W tag l) {g : Nat} {cs : Array Value} {t : TypeId} (hq : (g, cs, t) ∈ l) (o : Nat) : W.frozen? ⟨g, o, none⟩ = false := frozen_of_row W g o _ t (h _ hq).1
theorem Bo.lt {W : World} {tag : Nat → Nat} {l : List (Nat × Array Value × TypeId)} (h : Bo W tag l) {g : Nat} {cs : Array Value} {t : TypeId} (hq : (g, cs, t) ∈ l) : g < W.heap.size := (Array.getElem?_eq_some_iff.1 (h _ hq).1).1

/-- What was kept of voter j, its block q. -/
structure Orr (w : World) (tag : Nat → Nat) (j q p y : Nat) (rs : List Rc) (S : Nat → Int → Ep) (m : Nat) : Prop where
  ex : ∃ pv sv xs ks, w.heap[q]? = some (.cells #[.pointer (some ⟨p, 0, none⟩), .pointer (some ⟨y, 0, none⟩), pv, sv] 91 (0, 0)) ∧ tag q = tD j ∧
    w.ownsRow 0 88 1 pv m xs ∧ (∀ b, pv.ownBlock = some b → tag b = tD j) ∧ w.ownsRow 0 3 1 sv m ((List.range m).map fun i => .int .i64 (off rs (ks i) : Nat)) ∧ (∀ b, sv.ownBlock = some b → tag b = tD j) ∧
    Kp rs ks m ∧ ∀ i, i < m → ∃ l, xs[i]? = some l ∧ Past w tag (tV j) l (S (ks i))
theorem Orr.only {T : Nat → Prop} {w w' : World} {tag tag' : Nat → Nat} {j q p y : Nat} {rs : List Rc} {S : Nat → Int → Ep} {m : Nat} (h : Orr w tag j q p y rs S m) (ho : Only T w w') (hs : ∀ b, b < w.heap.size → T b → tag b ≠ tD j ∧ tag b ≠ tV j) (ht : ∀ b, b < w.heap.size → tag' b = tag b) : Orr w' tag' j q p y rs S m := by
  obtain ⟨pv, sv, xs, ks, e1, e2, e3, e4, e5, e6, e7, e8⟩ := h
  have lq := (Array.getElem?_eq_some_iff.1 e1).1
  refine ⟨pv, sv, xs, ks, (ho.block q lq fun e => (hs q lq e).1 e2).trans e1, by rw [ht q lq]; exact e2, ho.owns e3 fun b hb e => (hs b (e3.lt b hb).2 e).1 (e4 b hb), fun b hb => by rw [ht b (e3.lt b hb).2]; exact e4 b hb, ho.owns e5 fun b hb e => (hs b (e5.lt b hb).2 e).1 (e6 b hb), fun b hb => by rw [ht b (e5.lt b hb).2]; exact e6 b hb, e7, fun i hi => ?_⟩
  obtain ⟨l, k1, k2⟩ := e8 i hi
  exact ⟨l, k1, k2.only ho (fun b hb e => (hs b hb e).2) ht⟩
theorem Orr.cells {w : World} {tag : Nat → Nat} {j q p y : Nat} {rs : List Rc} {S : Nat → Int → Ep} {m : Nat} (h : Orr w tag j q p y rs S m) : w.cell? ⟨q, 0, none⟩ = some (.pointer (some ⟨p, 0, none⟩)) ∧ w.cell? ⟨q, 1, none⟩ = some (.pointer (some ⟨y, 0, none⟩)) ∧ q < w.heap.size ∧ tag q = tD j := by
  obtain ⟨pv, sv, xs, ks, e1, e2, _⟩ := h
  exact ⟨cell_of_row w q 0 _ 91 (0, 0) e1, cell_of_row w q 1 _ 91 (0, 0) e1, (Array.getElem?_eq_some_iff.1 e1).1, e2⟩
theorem Ob.open' {w : World} {tag : Nat → Nat} {j q : Nat} {rs : List Rc} {S : Nat → Int → Ep} {m nn : Nat} (h : Ob 0 w tag j q rs S m nn) : ∃ p y, Orr w tag j q p y rs S m ∧ Vt w tag (tP j) p rs S ∧ Rt w tag j y (S rs.length) nn := by
  obtain ⟨p, y, pv, sv, xs, ks, h1, h2, h3, h4, h5⟩ := h
  exact ⟨p, y, ⟨pv, sv, xs, ks, h1, h2, h5⟩, h3, h4⟩
theorem tP_ne (j : Nat) : tP j ≠ tR j ∧ tP j ≠ tV j ∧ tP j ≠ tD j ∧ tR j ≠ tV j ∧ tR j ≠ tD j ∧ tP j ≠ 1 ∧ tR j ≠ 1 ∧ tD j ≠ 1 ∧ tV j ≠ 1 ∧ tP j ≠ 2 ∧ tR j ≠ 2 ∧ tD j ≠ 2 ∧ tV j ≠ 2 := by unfold tP tR tV tD; omega
end Go.Proofs.YtkgjpfamjedncaaGreat

namespace Go.Proofs.YtkgjpfamjedncaaGreat
open Go.RowKit Go.Maps

/-- Lists of bytes that have come out: those of the mark 1 wait for theirs. -/
def Pl (w : World) (tag : Nat → Nat) (lim : Nat) (pl : List (Value × List Int × Nat)) : Prop :=
  ∀ x ∈ pl, w.ownsRow 0 5 1 x.1 x.2.1.length (x.2.1.map B8) ∧ ∀ b, x.1.ownBlock = some b → tag b = x.2.2 ∧ (x.2.2 = 1 → lim ≤ b)
theorem Pl.only {T : Nat → Prop} {w w' : World} {tag tag' : Nat → Nat} {lim : Nat} {pl : List (Value × List Int × Nat)} (h : Pl w tag lim pl) (ho : Only T w w') (hs : ∀ b, b < w.heap.size → T b → ∀ x ∈ pl, tag b ≠ x.2.2) (ht : ∀ b, b < w.heap.size → tag' b = tag b) : Pl w' tag' lim pl := fun x hx => by
  obtain ⟨h1, h2⟩ := h x hx
  exact ⟨ho.owns h1 fun b hb e => hs b (h1.lt b hb).2 e x hx (h2 b hb).1, fun b hb => by rw [ht b (h1.lt b hb).2]; exact h2 b hb⟩

/-- The book, the boxes, and what has come out, behind a part of a step that began at w0. -/
structure Fr (w0 : World) (tag0 : Nat → Nat) (j bw : Nat) (kl vl : Value) (w : World) (tag : Nat → Nat) (nb lim : Nat) (bx : List (Nat × Array Value × TypeId)) (pl : List (Value × List Int × Nat)) : Prop where
  old : ∀ b, b < w0.heap.size → tag b = tag0 b
  out : Only (fun b => tag0 b = 2 ∨ Mine j (tag0 b)) w0 w
  bt : Bt w tag bw kl vl nb lim
  hi : lim ≤ w.heap.size
  lo : w0.heap.size ≤ lim
  bo : Bo w tag bx
  bn : ∀ x ∈ bx, w0.heap.size ≤ x.1
  pd : Pl w tag lim pl
  ps : ∀ x ∈ pl, x.2.2 = 1 ∨ x.2.2 = 4
theorem Fr.size {w0 : World} {tag0 : Nat → Nat} {j bw : Nat} {kl vl : Value} {w : World} {tag : Nat → Nat} {nb lim : Nat} {bx : List (Nat × Array Value × TypeId)} {pl : List (Value × List Int × Nat)} (h : Fr w0 tag0 j bw kl vl w tag nb lim bx pl) : w0.heap.size ≤ w.heap.size := h.out.size
theorem mine_not (j t : Nat) (h : Mine j t) : t ≠ 1 ∧ t ≠ 2 ∧ t ≠ 3 ∧ t ≠ 4 := by
  unfold Mine tP tR tV tD at h
  omega
/-- Blocks of the voter turn. -/
theorem Fr.mine {w0 : World} {tag0 : Nat → Nat} {j bw : Nat} {kl vl : Value} {w w' : World} {tag tag' : Nat → Nat} {nb lim : Nat} {bx : List (Nat × Array Value × TypeId)} {pl : List (Value × List Int × Nat)} (h : Fr w0 tag0 j bw kl vl w tag nb lim bx pl) {T : Nat → Prop} (ho : Only T w w') (hs : ∀ b, b < w.heap.size → T b → Mine j (tag b)) (ht : ∀ b, b < w.heap.size → tag' b = tag b) : Fr w0 tag0 j bw kl vl w' tag' nb lim bx pl where
  old := fun b hb => by rw [ht b (Nat.lt_of_lt_of_le hb h.size)]; exact h.old b hb
  out := by
    refine ⟨ho.os.trans h.out.os, ho.tape.trans h.out.tape, ho.output.trans h.out.output, Nat.le_trans h.size ho.size, fun i hi hn => ?_⟩
    have hi' := Nat.lt_of_lt_of_le hi h.size
    rw [ho.block i hi' fun e => hn (.inr (by rw [← h.old i hi]; exact hs i hi' e)), h.out.block i hi hn]
  bt := h.bt.only ho (fun b hb e => ⟨(mine_not j _ (hs b hb e)).1, (mine_not j _ (hs b hb e)).2.1⟩) ht h.hi
  hi := Nat.le_trans h.hi ho.size
  lo := h.lo
  bo := h.bo.only ho (fun b hb e => (mine_not j _ (hs b hb e)).2.2.1) ht
  bn := h.bn
  pd := h.pd.only ho (fun b hb e x hx => by
    obtain ⟨m1, m2, m3, m4⟩ := mine_not j _ (hs b hb e)
    rcases h.ps x hx with e' | e' <;> rw [e']
    · exact m1
    · exact m4) ht
  ps := h.ps
/-- Nothing turns. -/
theorem Fr.bl {w0 : World} {tag0 : Nat → Nat} {j bw : Nat} {kl vl : Value} {w w' : World} {tag : Nat → Nat} {nb lim : Nat} {bx : List (Nat × Array Value × TypeId)} {pl : List (Value × List Int × Nat)} (h : Fr w0 tag0 j bw kl vl w tag nb lim bx pl) (hb : Bl w w') (t : Nat) : Fr w0 tag0 j bw kl vl w' (tagTo tag w.heap.size t) nb lim bx pl :=
  h.mine (Only.of_bl (S := fun _ => False) hb) (fun _ _ e => e.elim) (fun _ hb => tagTo_old _ _ _ _ hb)
theorem Fr.add {w0 : World} {tag0 : Nat → Nat} {j bw : Nat} {kl vl : Value} {w : World} {tag : Nat → Nat} {nb lim : Nat} {bx : List (Nat × Array Value × TypeId)} {pl : List (Value × List Int × Nat)} (h : Fr w0 tag0 j bw kl vl w tag nb lim bx pl) (v : Value) (ys : List Int) (t : Nat) (ht : t = 1 ∨ t = 4) (hv : w.ownsRow lim 5 1 v ys.length (ys.map B8)) (hb : ∀ b, v.ownBlock = some b → tag b = t) : Fr w0 tag0 j bw kl vl w tag nb lim bx ((v, ys, t) :: pl) :=
  ⟨h.old, h.out, h.bt, h.hi, h.lo, h.bo, h.bn, fun x hx => by
    rcases List.mem_cons.1 hx with rfl | hx
    · exact ⟨ownsRow_base hv fun _ _ => Nat.zero_le _, fun b e => ⟨hb b e, fun _ => (hv.lt b e).1⟩⟩
    · exact h.pd x hx, fun x hx => by
    rcases List.mem_cons.1 hx with rfl | hx
    · exact ht
    · exact h.ps x hx⟩
theorem Fr.sub {w0 : World} {tag0 : Nat → Nat} {j bw : Nat} {kl vl : Value} {w : World} {tag : Nat → Nat} {nb lim : Nat} {bx : List (Nat × Array Value × TypeId)} {pl pl' : List (Value × List Int × Nat)} (h : Fr w0 tag0 j bw kl vl w tag nb lim bx pl) (hs : ∀ x ∈ pl', x ∈ pl) : Fr w0 tag0 j bw kl vl w tag nb lim bx pl' :=
  ⟨h.old, h.out, h.bt, h.hi, h.lo, h.bo, h.bn, fun x hx => h.pd x (hs x hx), fun x hx => h.ps x (hs x hx)⟩
/-- A box turns. -/
theorem Fr.box {w0 : World} {tag0 : Nat → Nat} {j bw : Nat} {kl vl : Value} {w w' : World} {tag : Nat → Nat} {nb lim : Nat} {g : Nat} {cs cs' : Array Value} {t : TypeId} {b1 b2 : List (Nat × Array Value × TypeId)} {pl : List (Value × List Int × Nat)} (h : Fr w0 tag0 j bw kl vl w tag nb lim (b1 ++ (g, cs, t) :: b2) pl) (ho : Only (fun b => b = g) w w') (hg : w'.heap[g]? = some (.cells cs' t (0, 0))) (hd : ∀ x ∈ b1 ++ b2, x.1 ≠ g) : Fr w0 tag0 j bw kl vl w' tag nb lim (b1 ++ (g, cs', t) :: b2) pl := by
  have tg : tag g = 3 := (h.bo (g, cs, t) (by simp)).2
  have ng : w0.heap.size ≤ g := h.bn (g, cs, t) (by simp)
  have hT : ∀ b, b < w.heap.size → b = g → tag b = 3 := fun b _ e => by rw [e]; exact tg
  refine ⟨h.old, ?_, h.bt.only ho (fun b hb e => by rw [hT b hb e]; omega) (fun _ _ => rfl) h.hi, Nat.le_trans h.hi ho.size, h.lo, fun x hx => ?_, fun x hx => ?_, h.pd.only ho (fun b hb e x hx => by rw [hT b hb e]; rcases h.ps x hx with e' | e' <;> rw [e'] <;> omega) (fun _ _ => rfl), h.ps⟩
  · refine ⟨ho.os.trans h.out.os, ho.tape.trans h.out.tape, ho.output.trans h.out.output, Nat.le_trans h.size ho.size, fun i hi hn => ?_⟩
    rw [ho.block i (Nat.lt_of_lt_of_le hi h.size) (by omega), h.out.block i hi hn]
  · have hx' : x = (g, cs', t) ∨ x ∈ b1 ++ b2 := by
      simp only [List.mem_append, List.mem_cons] at hx ⊢
      rcases hx with hx | hx | hx
      · exact .inr (.inl hx)
      · exact .inl hx
      · exact .inr (.inr hx)
    rcases hx' with rfl | hx'
    · exact ⟨hg, tg⟩
    · have hm : x ∈ b1 ++ (g, cs, t) :: b2 := by
        simp only [List.mem_append, List.mem_cons] at hx' ⊢
        rcases hx' with hx' | hx'
        · exact .inl hx'
        · exact .inr (.inr hx')
      obtain ⟨k1, k2⟩ := h.bo x hm
      exact ⟨(ho.block x.1 (Array.getElem?_eq_some_iff.1 k1).1 (hd x hx')).trans k1, k2⟩
  · have hx' : x.1 = g ∨ x ∈ b1 ++ (g, cs, t) :: b2 := by
      simp only [List.mem_append, List.mem_cons] at hx ⊢
      rcases hx with hx | hx | hx
      · exact .inr (.inl hx)
      · exact .inl (by rw [hx])
      · exact .inr (.inr (.inr hx))
    rcases hx' with e | hx'
    · rw [e]; exact ng
    · exact h.bn x hx'
/-- The book marks what has come out. -/
theorem Fr.byte {w0 : World} {tag0 : Nat → Nat} {j bw : Nat} {kl vl : Value} {w : World} {tag : Nat → Nat} {nb lim : Nat} {bx : List (Nat × Array Value × TypeId)} {pl : List (Value × List Int × Nat)} {v : Value} {ys : List Int} (h : Fr w0 tag0 j bw kl vl w tag nb lim bx ((v, ys, 1) :: pl)) (hp : ∀ x ∈ pl, x.2.2 = 4) (hn : ys.length ≤ 40000000) (hnb : nb < 4000000) :
    Calls Tryz.prog 36 #[.pointer (some ⟨bw, 2, none⟩), v] w fun en w' => en = .returned (.tuple #[]) ∧ ∃ tag', (∀ b, b < w.heap.size → tag' b = tag b) ∧ Fr w0 tag0 j bw kl vl w' tag' (nb + 1) w'.heap.size bx pl ∧ Only (fun b => tag b = 2 ∨ tag b = 1) w w' := by
  obtain ⟨h1, h2⟩ := h.pd (v, ys, 1) (by simp)
  refine (bt_byte h.bt v ys.length (ys.map B8) (ownsRow_base h1 fun b hb => (h2 b hb).2 rfl) (fun b hb => (h2 b hb).1) hn hnb h.hi).mono ?_
  rintro en w' ⟨rfl, ⟨tag', o1, o2, hB⟩, O⟩
  have hT : ∀ b, b < w.heap.size → (tag b = 2 ∨ v.ownBlock = some b) → tag b = 2 ∨ tag b = 1 := fun b _ e => e.imp id fun e => (h2 b e).1
  refine ⟨rfl, tag', o1, ⟨fun b hb => by rw [o1 b (Nat.lt_of_lt_of_le hb h.size)]; exact h.old b hb, ?_, hB, Nat.le_refl _, Nat.le_trans h.size O.size, h.bo.only O (fun b hb e => by rcases hT b hb e with e | e <;> rw [e] <;> omega) o1, h.bn, fun x hx => ?_, fun x hx => h.ps x (List.mem_cons_of_mem _ hx)⟩, O.mono hT⟩
  · refine ⟨O.os.trans h.out.os, O.tape.trans h.out.tape, O.output.trans h.out.output, Nat.le_trans h.size O.size, fun i hi hn => ?_⟩
    rw [O.block i (Nat.lt_of_lt_of_le hi h.size) ?_, h.out.block i hi hn]
    rintro (e | e)
    · exact hn (.inl (by rw [← h.old i hi]; exact e))
    · have := (h2 i e).2 rfl; have := h.lo; omega
  · have h3 := (Pl.only (pl := pl) (fun x hx => h.pd x (List.mem_cons_of_mem _ hx)) O (fun b hb e x hx => by rw [hp x hx]; rcases hT b hb e with e | e <;> rw [e] <;> omega) o1) x hx
    exact ⟨h3.1, fun b hb => ⟨(h3.2 b hb).1, fun e => by rw [hp x hx] at e; omega⟩⟩
end Go.Proofs.YtkgjpfamjedncaaGreat
