-- A unit of the script: the program's cells, the document's, and what was kept.
-- What a call of cells answers, and what they have then: the program's and the document's, told alike.
-- The calls of a step on a voter: what they do to the voter, the book, the boxes and what has come out.
import Derived.Test.YtkgjpfamjedncaaGreatNotedLastObjVSpecRSpecQ
import Derived.Test.YtkgjpfamjedncaaGreatBTagAnewVHelpFrameQ
namespace Go.Proofs.YtkgjpfamjedncaaGreat
open Go.RowKit Go.Maps

def rowC (a b c d u : Int) (G : Nat → Int × Int × Value) : Nat → List Value
  | 0 => []
  | m + 1 => rowC a b c d u G m ++ [.int .i64 a, .int .i64 b, .int .i64 c, .int .i64 d, .int .i64 u, .int .i64 (G m).1, .int .i64 (G m).2.1, (G m).2.2]
theorem rowC_congr (a b c d u : Int) (G G' : Nat → Int × Int × Value) : ∀ m, (∀ i, i < m → G i = G' i) → rowC a b c d u G m = rowC a b c d u G' m
  | 0, _ => rfl
  | m + 1, h => by rw [rowC, rowC, rowC_congr a b c d u G G' m (fun i hi => h i (by omega)), h m (by omega)]

/-- What was written, as it was kept. -/
structure PastC (w : World) (tag : Nat → Nat) (t : Nat) (l : Value) (a b c d u : Int) (ct : Nat → Ct) : Prop where
  ex : ∃ n F, n < 4000000 ∧ w.ownsRow 0 137 5 l n (row5 F n) ∧ Mt a b c d u n F ct ∧ (∀ g, l.ownBlock = some g → tag g = t) ∧ ∀ i, i < n → w.ownsRow 0 5 1 (F i).v (F i).ys.length ((F i).ys.map B8) ∧ ∀ g, (F i).v.ownBlock = some g → tag g = t
theorem PastC.only {T : Nat → Prop} {w w' : World} {tag tag' : Nat → Nat} {t : Nat} {l : Value} {a b c d u : Int} {ct : Nat → Ct} (h : PastC w tag t l a b c d u ct) (ho : Only T w w') (hs : ∀ g, g < w.heap.size → T g → tag g ≠ t) (ht : ∀ g, g < w.heap.size → tag' g = tag g) : PastC w' tag' t l a b c d u ct := by
  obtain ⟨n, F, h0, h1, h2, h3, h4⟩ := h
  refine ⟨n, F, h0, ho.owns h1 fun b hb e => hs b (h1.lt b hb).2 e (h3 b hb), h2, fun b hb => by rw [ht b (h1.lt b hb).2]; exact h3 b hb, fun i hi => ?_⟩
  obtain ⟨k1, k2⟩ := h4 i hi
  exact ⟨ho.owns k1 fun b hb e => hs b (k1.lt b hb).2 e (k2 b hb), fun b hb => by rw [ht b (k1.lt b hb).2]; exact k2 b hb⟩

/-- What was kept of unit j, its block q. -/
structure OrrC (w : World) (tag : Nat → Nat) (j q p y : Nat) (a b c d u : Int) (rs : List Rc) (S : Nat → St) (m : Nat) : Prop where
  ex : ∃ pv sv G ks, w.heap[q]? = some (.cells #[.pointer (some ⟨p, 0, none⟩), .pointer (some ⟨y, 0, none⟩), pv, sv] 80 (0, 0)) ∧ tag q = tD j ∧
    w.ownsRow 0 77 8 pv m (rowC a b c d u G m) ∧ (∀ g, pv.ownBlock = some g → tag g = tD j) ∧ w.ownsRow 0 3 1 sv m ((List.range m).map fun i => .int .i64 (off rs (ks i) : Nat)) ∧ (∀ g, sv.ownBlock = some g → tag g = tD j) ∧
    Kp rs ks m ∧ ∀ i, i < m → (G i).1 = (S (ks i)).ep ∧ (G i).2.1 = (S (ks i)).mark ∧ PastC w tag (tV j) (G i).2.2 a b c d u (S (ks i)).ct
theorem OrrC.only {T : Nat → Prop} {w w' : World} {tag tag' : Nat → Nat} {j q p y : Nat} {a b c d u : Int} {rs : List Rc} {S : Nat → St} {m : Nat} (h : OrrC w tag j q p y a b c d u rs S m) (ho : Only T w w') (hs : ∀ g, g < w.heap.size → T g → tag g ≠ tD j ∧ tag g ≠ tV j) (ht : ∀ g, g < w.heap.size → tag' g = tag g) : OrrC w' tag' j q p y a b c d u rs S m := by
  obtain ⟨pv, sv, G, ks, e1, e2, e3, e4, e5, e6, e7, e8⟩ := h
  have lq := (Array.getElem?_eq_some_iff.1 e1).1
  refine ⟨pv, sv, G, ks, (ho.block q lq fun e => (hs q lq e).1 e2).trans e1, by rw [ht q lq]; exact e2, ho.owns e3 fun b hb e => (hs b (e3.lt b hb).2 e).1 (e4 b hb), fun b hb => by rw [ht b (e3.lt b hb).2]; exact e4 b hb, ho.owns e5 fun b hb e => (hs b (e5.lt b hb).2 e).1 (e6 b hb), fun b hb => by rw [ht b (e5.lt b hb).2]; exact e6 b hb, e7, fun i hi => ?_⟩
  obtain ⟨k0, k1, k2⟩ := e8 i hi
  exact ⟨k0, k1, k2.only ho (fun b hb e => (hs b hb e).2) ht⟩
theorem OrrC.cells {w : World} {tag : Nat → Nat} {j q p y : Nat} {a b c d u : Int} {rs : List Rc} {S : Nat → St} {m : Nat} (h : OrrC w tag j q p y a b c d u rs S m) : w.cell? ⟨q, 0, none⟩ = some (.pointer (some ⟨p, 0, none⟩)) ∧ w.cell? ⟨q, 1, none⟩ = some (.pointer (some ⟨y, 0, none⟩)) ∧ q < w.heap.size ∧ tag q = tD j := by
  obtain ⟨pv, sv, G, ks, e1, e2, _⟩ := h
  exact ⟨cell_of_row w q 0 _ 80 (0, 0) e1, cell_of_row w q 1 _ 80 (0, 0) e1, (Array.getElem?_eq_some_iff.1 e1).1, e2⟩

/-- Unit j of the script, in block q. -/
structure ObC (w : World) (tag : Nat → Nat) (j q : Nat) (a b c d u ch : Int) (rs : List Rc) (S : Nat → St) (m nn : Nat) : Prop where
  cha : cha a b c d u = (ch, 0)
  ex : ∃ p y, OrrC w tag j q p y a b c d u rs S m ∧ Kt w tag (tP j) p a b c d ch rs S ∧ Dt w tag (tR j) (tV j) y a b c d u (S rs.length) nn
theorem ObC.only {T : Nat → Prop} {w w' : World} {tag tag' : Nat → Nat} {j q : Nat} {a b c d u ch : Int} {rs : List Rc} {S : Nat → St} {m nn : Nat} (h : ObC w tag j q a b c d u ch rs S m nn) (ho : Only T w w') (hs : ∀ g, g < w.heap.size → T g → ¬ Mine j (tag g)) (ht : ∀ g, g < w.heap.size → tag' g = tag g) : ObC w' tag' j q a b c d u ch rs S m nn := by
  obtain ⟨hc, p, y, h1, h2, h3⟩ := h
  have n0 : ∀ b, b < w.heap.size → T b → tag b ≠ tP j := fun b hb e e' => hs b hb e (.inl e')
  have n1 : ∀ b, b < w.heap.size → T b → tag b ≠ tR j := fun b hb e e' => hs b hb e (.inr (.inl e'))
  have n2 : ∀ b, b < w.heap.size → T b → tag b ≠ tV j := fun b hb e e' => hs b hb e (.inr (.inr (.inl e')))
  have n3 : ∀ b, b < w.heap.size → T b → tag b ≠ tD j := fun b hb e e' => hs b hb e (.inr (.inr (.inr e')))
  exact ⟨hc, p, y, h1.only ho (fun b hb e => ⟨n3 b hb e, n2 b hb e⟩) ht, h2.only ho n0 ht, h3.only ho (fun b hb e => ⟨n1 b hb e, n2 b hb e⟩) ht⟩

theorem MoreK.len {rs : List Rc} {S : Nat → St} {rs' : List Rc} {S' : Nat → St} (h : MoreK rs S rs' S') : rs'.length = rs.length ∨ rs'.length = rs.length + 1 := by
  rcases h with ⟨rfl, _⟩ | ⟨r, E', rfl, _⟩
  · exact .inl rfl
  · exact .inr (by simp)
theorem MoreK.off {rs : List Rc} {S : Nat → St} {rs' : List Rc} {S' : Nat → St} (h : MoreK rs S rs' S') (k : Nat) (hk : k ≤ rs.length) : off rs' k = off rs k := by
  rcases h with ⟨rfl, _⟩ | ⟨r, E', rfl, _⟩
  · rfl
  · unfold Go.Proofs.YtkgjpfamjedncaaGreat.off
    rw [List.take_append_of_le_length hk]
theorem MoreK.st {rs : List Rc} {S : Nat → St} {rs' : List Rc} {S' : Nat → St} (h : MoreK rs S rs' S') (k : Nat) (hk : k ≤ rs.length) : S' k = S k := by
  rcases h with ⟨_, rfl⟩ | ⟨r, E', _, rfl⟩
  · rfl
  · exact upK_old _ _ _ _ hk
theorem Kp.moreK {rs : List Rc} {S : Nat → St} {rs' : List Rc} {S' : Nat → St} (h : MoreK rs S rs' S') {ks : Nat → Nat} {m : Nat} (hk : Kp rs ks m) : Kp rs' (fun i => if i = m then rs'.length else ks i) (m + 1) := by
  have hp := hk.pos
  refine ⟨by omega, ?_, fun i hi => ?_, ?_⟩
  · rw [if_neg (by omega)]; exact hk.zero
  · by_cases e : i + 1 = m
    · rw [if_pos e, if_neg (by omega), show i = m - 1 by omega, hk.last]
      exact h.len
    · rw [if_neg e, if_neg (by omega)]; exact hk.step i (by omega)
  · rw [show m + 1 - 1 = m by omega, if_pos rfl]

theorem fr_noted {w0 : World} {tag0 : Nat → Nat} {j bw : Nat} {kl vl : Value} {w : World} {tag : Nat → Nat} {nb lim : Nat} {bx : List (Nat × Array Value × TypeId)} {pl : List (Value × List Int × Nat)} (h : Fr w0 tag0 j bw kl vl w tag nb lim bx pl) (hp4 : ∀ x ∈ pl, x.2.2 = 4) {q p y : Nat} {a b c d u ch : Int} {rs rs' : List Rc} {S S' : Nat → St} {m nn : Nat}
    (hcha : cha a b c d u = (ch, 0)) (ho : OrrC w tag j q p y a b c d u rs S m) (hmore : MoreK rs S rs' S') (hk : Kt w tag (tP j) p a b c d ch rs' S') (hd : Dt w tag (tR j) (tV j) y a b c d u (S' rs'.length) nn) (hm : m ≤ 4000000) (hnn : nn < 4000000) (hl : (flat rs').length ≤ 30000000) (hnb : nb < 4000000) :
    Calls Tryz.prog 32 #[.pointer (some ⟨bw, 0, none⟩), .pointer (some ⟨q, 0, none⟩)] w fun en w' => en = .returned (.tuple #[]) ∧ ∃ tag', (∀ g, g < w.heap.size → tag' g = tag g) ∧ Fr w0 tag0 j bw kl vl w' tag' (nb + 1) w'.heap.size bx pl ∧ ObC w' tag' j q a b c d u ch rs' S' (m + 1) nn := by
  obtain ⟨pv, sv, G, ks, e1, e2, e3, e4, e5, e6, e7, e8⟩ := ho
  obtain ⟨d1, d2, d3⟩ := tD_ne j
  have lq := (Array.getElem?_eq_some_iff.1 e1).1
  have hK : ∀ g, Kfoot q pv sv g → tag g = tD j := by
    rintro g (rfl | hg | hg)
    · exact e2
    · exact e4 g hg
    · exact e6 g hg
  obtain ⟨lv, n, F, h0, h1, h2, h3, h4, h5⟩ := hd
  refine noted_any bw q p y pv sv m n _ _ a b c d u _ _ lv F (flat rs') w _ e1 h1 (by omega) (fun W hW => ?_) e3 e5 hm ?_
  · exact kt_image (tag := tag) (hk.only hW (fun g _ e e' => d1 ((hK g e).symm.trans e')) (fun _ _ => rfl)) hl
  intro W pv' sv' lc iv r1 r2 r3 r4 r8 r5 r6 r7
  have O : Only (fun g => tag g = tD j) w W := r5.mono fun g _ e => hK g e
  obtain ⟨tagN, ht⟩ : ∃ t, t = fun g => if g < w.heap.size then tag g else if pv'.ownBlock = some g ∨ sv'.ownBlock = some g then tD j else if iv.ownBlock = some g then 1 else tV j := ⟨_, rfl⟩
  have old : ∀ g, g < w.heap.size → tagN g = tag g := fun g hg => by rw [ht]; simp [hg]
  have new : ∀ g, w.heap.size ≤ g → tagN g = if pv'.ownBlock = some g ∨ sv'.ownBlock = some g then tD j else if iv.ownBlock = some g then 1 else tV j := fun g hg => by rw [ht]; simp only; rw [if_neg (by omega)]
  have nP : ∀ g, g < w.heap.size → tag g = tD j → tag g ≠ tP j := fun g _ e e' => d1 (e.symm.trans e')
  have nR : ∀ g, g < w.heap.size → tag g = tD j → tag g ≠ tR j ∧ tag g ≠ tV j := fun g _ e => ⟨fun e' => d2 (e.symm.trans e'), fun e' => d3 (e.symm.trans e')⟩
  have hkW : Kt W tagN (tP j) p a b c d ch rs' S' := hk.only O nP old
  have hdW : Dt W tagN (tR j) (tV j) y a b c d u (S' rs'.length) nn := Dt.only (w := w) (tag := tag) ⟨lv, n, F, h0, h1, h2, h3, h4, h5⟩ O nR old
  have hpt : ∀ g, pv'.ownBlock = some g → tagN g = tD j := fun g hg => by
    by_cases hlt : g < w.heap.size
    · rcases r6 g hg with h' | h'
      · rw [old g hlt]; exact e4 g h'
      · omega
    · rw [new g (by omega), if_pos (.inl hg)]
  have hst : ∀ g, sv'.ownBlock = some g → tagN g = tD j := fun g hg => by
    by_cases hlt : g < w.heap.size
    · rcases r7 g hg with h' | h'
      · rw [old g hlt]; exact e6 g h'
      · omega
    · rw [new g (by omega), if_pos (.inr hg)]
  have hiv : ∀ g, iv.ownBlock = some g → tagN g = 1 := fun g hg => by
    rw [new g (r8.lt g hg).1, if_neg, if_pos hg]
    rintro (e | e)
    · exact ownsRow_type r8 r2 (by decide) g hg e
    · exact ownsRow_type r8 r3 (by decide) g hg e
  have hlc : ∀ g, lc.ownBlock = some g → tagN g = tV j := fun g hg => by
    rw [new g (r4.lt g hg).1, if_neg, if_neg]
    · exact fun e => ownsRow_type r4 r8 (by decide) g hg e
    · rintro (e | e)
      · exact ownsRow_type r4 r2 (by decide) g hg e
      · exact ownsRow_type r4 r3 (by decide) g hg e
  have hOr : OrrC W tagN j q p y a b c d u rs' S' (m + 1) := by
    refine ⟨pv', sv', fun i => if i = m then ((S' rs'.length).ep, (S' rs'.length).mark, lc) else G i, _, r1, by rw [old q lq]; exact e2, ?_, hpt, ?_, hst, e7.moreK hmore, fun i hi => ?_⟩
    · rw [rowC, rowC_congr a b c d u _ G m (fun i hi => by rw [if_neg (by omega)])]
      simp only [if_true]
      exact r2
    · have heq : (List.range (m + 1)).map (fun i => Value.int .i64 (off rs' (if i = m then rs'.length else ks i) : Nat)) = ((List.range m).map fun i => Value.int .i64 (off rs (ks i) : Nat)) ++ [.int .i64 (flat rs').length] := by
        rw [List.range_succ, List.map_append]
        congr 1
        · refine List.map_congr_left fun i hi => ?_
          have hi' : i < m := by simpa using hi
          rw [if_neg (by omega), hmore.off _ (e7.le i hi')]
        · simp [off_all]
      rw [heq]
      exact r3
    · by_cases ei : i = m
      · subst ei
        simp only [if_true]
        refine ⟨trivial, trivial, n, F, by omega, ownsRow_base r4 fun _ _ => Nat.zero_le _, h2, hlc, fun k hk => ⟨?_, fun g hg => ?_⟩⟩
        · exact O.owns (h1.val k hk) fun g hg e => d3 (e.symm.trans (h5 k hk g hg))
        · rw [old g ((h1.val k hk).lt g hg).2]; exact h5 k hk g hg
      · obtain ⟨k0, k1, k2⟩ := e8 i (by omega)
        simp only [if_neg ei]
        rw [hmore.st _ (e7.le i (by omega))]
        exact ⟨k0, k1, k2.only O (fun g hg e => (nR g hg e).2) old⟩
  have hFr : Fr w0 tag0 j bw kl vl W tagN nb lim bx ((iv, flat rs', 1) :: pl) := (h.mine O (fun g _ e => .inr (.inr (.inr e))) old).add iv (flat rs') 1 (.inl rfl) (ownsRow_base r8 fun g hg => Nat.le_trans h.hi (r8.lt g hg).1) hiv
  refine (hFr.byte hp4 (by omega) hnb).mono ?_
  rintro en w' ⟨rfl, tag2, o1, hF2, O2⟩
  refine ⟨rfl, tag2, fun g hg => by rw [o1 g (Nat.lt_of_lt_of_le hg O.size)]; exact old g hg, hF2, ?_⟩
  refine ObC.only (w := W) (tag := tagN) ⟨hcha, p, y, hOr, hkW, hdW⟩ O2 (fun g _ e hM => ?_) o1
  have := mine_not j _ hM
  rcases e with e | e <;> omega
end Go.Proofs.YtkgjpfamjedncaaGreat

namespace Go.Proofs.YtkgjpfamjedncaaGreat
open Go.RowKit Go.Maps

theorem cha_ok {a b c d u ch : Int} (h : cha a b c d u = (ch, 0)) : fit a b c d = true ∧ 0 ≤ u ∧ u ≤ 1000 ∧ ch = u / b := by
  unfold cha at h
  by_cases hf : fit a b c d = true
  · rw [if_pos hf] at h
    by_cases hu : u < 0 ∨ a * b ≤ u
    · rw [if_pos hu] at h; simp at h
    · rw [if_neg hu] at h
      have hb := fit_bd hf
      have hb2 := fit_bd2 hf
      have hm := mul_bd hb.1 hb.2.1 hb2.1 (by omega)
      simp at h
      exact ⟨hf, by omega, by omega, h.symm⟩
  · rw [if_neg hf] at h; simp at h

structure An where
  wh : Int
  ep : Int
  mark : Int
  ct : Ct
def An.val (A : An) (v : Value) : Value := reply A.wh A.ep A.mark A.ct.kd A.ct.cl A.ct.ca v
def an (wh ep mk : Int) : An := ⟨wh, ep, mk, ⟨0, 0, 0, []⟩⟩
/-- An answer, and the state behind it. -/
def sealA (s : St) (e : Int) : An × St := if e < s.ep then (an 5 s.ep 0, s) else (an 1 e 0, ⟨e, s.mark, s.ct⟩)
def trimA (s : St) (e m : Int) : An × St := if e < s.ep then (an 5 s.ep 0, s) else (an 1 0 (if s.mark < m then m else s.mark), ⟨e, if s.mark < m then m else s.mark, s.ct⟩)
def lookA (a b c d ch : Int) (s : St) (x : Int) : An := ⟨(lookC a b c d ch s.mark s.ct x).1, 0, (lookC a b c d ch s.mark s.ct x).2.1, (lookC a b c d ch s.mark s.ct x).2.2⟩
def readA (a b c d ch : Int) (s : St) (e x : Int) : An × St := if e < s.ep then (an 5 s.ep 0, s) else (lookA a b c d ch s x, ⟨e, s.mark, s.ct⟩)
def writeA (a b c d ch : Int) (s : St) (e x kd cl ca : Int) (ys : List Int) : An × St :=
  if e < s.ep then (an 5 s.ep 0, s) else if isC kd ys.length = false then (an 6 0 0, ⟨e, s.mark, s.ct⟩)
  else if (lookC a b c d ch s.mark s.ct x).1 = 3 then (an 1 0 0, ⟨e, s.mark, fun j => if j = cel a b c d x then ⟨kd, cl, ca, ys⟩ else s.ct j⟩) else (lookA a b c d ch s x, ⟨e, s.mark, s.ct⟩)

/-- The program's call f. -/
def KCall (f : Nat) (args : Array Value) (w : World) (tag : Nat → Nat) (tg p : Nat) (a b c d ch : Int) (rs : List Rc) (S : Nat → St) (R : An × St) : Prop :=
  Calls Tryz.prog f args w fun en w' => ∃ v rs' S', en = .returned (R.1.val v) ∧ w'.ownsRow w.heap.size 5 1 v R.1.ct.val.length (R.1.ct.val.map B8) ∧ MoreK rs S rs' S' ∧ S' rs'.length = R.2 ∧ (flat rs').length ≤ (flat rs).length + 60 ∧ Kt w' (tagV tag w.heap.size tg v) tg p a b c d ch rs' S' ∧ Only (fun g => tag g = tg) w w'
/-- The document's. -/
def DCall (f : Nat) (args : Array Value) (w : World) (tag : Nat → Nat) (tr tv y : Nat) (a b c d u : Int) (nn : Nat) (R : An × St) : Prop :=
  Calls Tryz.prog f args w fun en w' => ∃ v tag', en = .returned (R.1.val v) ∧ Told w' tag' tv v R.1.ct.val ∧ (∀ g, g < w.heap.size → tag' g = tag g) ∧ Dt w' tag' tr tv y a b c d u R.2 (nn + 1) ∧ Only (fun g => tag g = tr) w w'

section
variable {w w' : World} {tag tag' : Nat → Nat} {tg tr tv p y : Nat} {a b c d u ch : Int} {rs : List Rc} {S : Nat → St} {s : St} {nn : Nat}
theorem Dt.more (h : Dt w tag tr tv y a b c d u s nn) : Dt w tag tr tv y a b c d u s (nn + 1) := by
  obtain ⟨lv, n, F, h0, h1⟩ := h
  exact ⟨lv, n, F, by omega, h1⟩
theorem Kt.old (h : Kt w tag tg p a b c d ch rs S) (hb : Bl w w') : ∃ v rs' S', Ending.returned (reply 5 (S rs.length).ep 0 0 0 0 nilS) = Ending.returned (An.val (an 5 (S rs.length).ep 0) v) ∧ w'.ownsRow w.heap.size 5 1 v 0 [] ∧ MoreK rs S rs' S' ∧ S' rs'.length = S rs.length ∧ (flat rs').length ≤ (flat rs).length + 60 ∧ Kt w' (tagV tag w.heap.size tg v) tg p a b c d ch rs' S' ∧ Only (fun g => tag g = tg) w w' :=
  ⟨nilS, rs, S, rfl, World.ownsRow_nil _ _ _ _, .inl ⟨rfl, rfl⟩, rfl, by omega, h.only (Only.of_bl (S := fun _ => False) hb) (fun _ _ e => e.elim) (fun g hg => tagV_old _ _ _ _ _ hg), Only.of_bl hb⟩

theorem kc_seal (h : Kt w tag tg p a b c d ch rs S) (e : Int) (hwf : (Lit.int .i64 e).wf = true) (hl : (flat rs).length ≤ 30000000) :
    KCall 47 #[.pointer (some ⟨p, 0, none⟩), .int .i64 e] w tag tg p a b c d ch rs S (sealA (S rs.length) e) := by
  refine (kp_seal h e hwf hl).mono ?_
  rintro en w' ⟨rs', S', rfl, h1, h2, h3, h4, h5⟩
  rw [← tagV_nil] at h4
  refine ⟨nilS, rs', S', ?_, ?_, h1, ?_, by omega, h4, h5⟩
  · unfold sealA; split <;> rfl
  · unfold sealA; split <;> exact World.ownsRow_nil _ _ _ _
  · rw [h2]; unfold sealA; split <;> rfl
theorem kc_trim (h : Kt w tag tg p a b c d ch rs S) (e m : Int) (hwf : (Lit.int .i64 e).wf = true) (hmf : (Lit.int .i64 m).wf = true) (hl : (flat rs).length ≤ 30000000) :
    KCall 45 #[.pointer (some ⟨p, 0, none⟩), .int .i64 e, .int .i64 m] w tag tg p a b c d ch rs S (trimA (S rs.length) e m) := by
  refine (kp_trim h e m hwf hmf hl).mono ?_
  rintro en w' ⟨rs', S', rfl, h1, h2, h3, h4, h5⟩
  rw [← tagV_nil] at h4
  refine ⟨nilS, rs', S', ?_, ?_, h1, ?_, by omega, h4, h5⟩
  · unfold trimA; split <;> rfl
  · unfold trimA; split <;> exact World.ownsRow_nil _ _ _ _
  · rw [h2]; unfold trimA; split <;> rfl
theorem kc_read (h : Kt w tag tg p a b c d ch rs S) (e x : Int) (hwf : (Lit.int .i64 e).wf = true) (hl : (flat rs).length ≤ 30000000) :
    KCall 40 #[.pointer (some ⟨p, 0, none⟩), .int .i64 e, .int .i64 x] w tag tg p a b c d ch rs S (readA a b c d ch (S rs.length) e x) := by
  unfold readA
  by_cases he : e < (S rs.length).ep
  · rw [if_pos he]
    obtain ⟨K, hk, hr⟩ := h
    refine (fread_old 0 p a b c d ch _ _ _ (flat rs) K e x w hk he).mono ?_
    rintro en w' ⟨rfl, _, hb⟩
    exact Kt.old ⟨K, hk, hr⟩ hb
  · rw [if_neg he]
    refine (kp_read h e x hwf hl he).mono ?_
    rintro en w' ⟨v, rs', S', rfl, h0, h1, h2, h3, h4, h5⟩
    exact ⟨v, rs', S', rfl, h0, h1, h2, by omega, h4, h5⟩
theorem kc_write (h : Kt w tag tg p a b c d ch rs S) (e x kd cl ca : Int) (va : Option Addr) (vc : Nat) (ys : List Int) (hwf : (Lit.int .i64 e).wf = true) (hxf : (Lit.int .i64 x).wf = true) (hkf : (Lit.int .i64 kd).wf = true) (hcf : (Lit.int .i64 cl).wf = true) (haf : (Lit.int .i64 ca).wf = true) (hl : (flat rs).length ≤ 30000000) (hv : Bs w (.slice va ys.length vc) (ys.map B8)) (hvb : ∀ g, (Value.slice va ys.length vc).ownBlock = some g → g < w.heap.size ∧ tag g ≠ tg) (hys : Byt ys) (hyl : ys.length ≤ 30000000) :
    KCall 43 #[.pointer (some ⟨p, 0, none⟩), .int .i64 e, .int .i64 x, .agg #[.int .i64 kd, .int .i64 cl, .int .i64 ca, .slice va ys.length vc]] w tag tg p a b c d ch rs S (writeA a b c d ch (S rs.length) e x kd cl ca ys) := by
  unfold writeA
  by_cases he : e < (S rs.length).ep
  · rw [if_pos he]
    obtain ⟨K, hk, hr⟩ := h
    refine (fwrite_old 0 p a b c d ch _ _ _ (flat rs) K e x kd cl ca va ys.length vc w hk he).mono ?_
    rintro en w' ⟨rfl, _, hb⟩
    exact Kt.old ⟨K, hk, hr⟩ hb
  · rw [if_neg he]
    cases hc : isC kd ys.length
    · rw [if_pos rfl]
      refine (kp_writeNotB h e x kd cl ca va ys.length vc hwf hl (by omega) he hc).mono ?_
      rintro en w' ⟨rs', S', rfl, h1, h2, h3, h4, h5⟩
      rw [← tagV_nil] at h4
      exact ⟨nilS, rs', S', rfl, World.ownsRow_nil _ _ _ _, h1, h2, by omega, h4, h5⟩
    · rw [if_neg (by decide)]
      by_cases h3 : (lookC a b c d ch (S rs.length).mark (S rs.length).ct x).1 = 3
      · rw [if_pos h3]
        have hlk : lookC a b c d ch (S rs.length).mark (S rs.length).ct x = (3, 0, ⟨0, 0, 0, []⟩) ∧ (loc a b c d x).2.2 = 0 ∧ (loc a b c d x).1 = ch := by
          unfold lookC at h3 ⊢
          by_cases q1 : (loc a b c d x).2.2 ≠ 0 ∨ (loc a b c d x).1 ≠ ch
          · rw [if_pos q1] at h3; exact absurd h3 (show ¬ (6 : Int) = 3 by decide)
          · rw [if_neg q1] at h3 ⊢
            have q1' : (loc a b c d x).2.2 = 0 ∧ (loc a b c d x).1 = ch := ⟨Classical.byContradiction fun e => q1 (.inl e), Classical.byContradiction fun e => q1 (.inr e)⟩
            by_cases q2 : x < (S rs.length).mark
            · rw [if_pos q2] at h3; exact absurd h3 (show ¬ (4 : Int) = 3 by decide)
            · rw [if_neg q2] at h3 ⊢
              by_cases q3 : ((S rs.length).ct (loc a b c d x).2.1.toNat).kd = 0
              · rw [if_pos q3]; exact ⟨rfl, q1'⟩
              · rw [if_neg q3] at h3; exact absurd h3 (show ¬ (2 : Int) = 3 by decide)
        obtain ⟨i, hi, hloc⟩ := loc_cell hlk.2.1
        have hcel : cel a b c d x = i := by unfold cel; rw [hloc]; rfl
        refine (kp_writeNew h e x kd cl ca _ ys i hwf hxf hkf hcf haf hl hv hvb hys he hi (by rw [hloc, hlk.2.2]) hlk.1 hc).mono ?_
        rintro en w' ⟨rs', S', rfl, h1, h2, h3, h4, h5⟩
        rw [← tagV_nil] at h4
        exact ⟨nilS, rs', S', rfl, World.ownsRow_nil _ _ _ _, h1, by rw [h2, hcel], by omega, h4, h5⟩
      · rw [if_neg h3]
        refine (kp_writeTold h e x kd cl ca va ys.length vc hwf hl he hc h3).mono ?_
        rintro en w' ⟨v, rs', S', rfl, h0, h1, h2, h3, h4, h5⟩
        exact ⟨v, rs', S', rfl, h0, h1, h2, by omega, h4, h5⟩

theorem dc_seal (h : Dt w tag tr tv y a b c d u s nn) (e : Int) :
    DCall 48 #[.pointer (some ⟨y, 0, none⟩), .int .i64 e] w tag tr tv y a b c d u nn (sealA s e) := by
  refine (dt_seal h e tv).mono ?_
  rintro en w' ⟨rfl, h1, h2⟩
  refine ⟨nilS, tagTo tag w.heap.size tv, ?_, ?_, fun g hg => tagTo_old _ _ _ _ hg, ?_, h2⟩
  · unfold sealA; split <;> rfl
  · unfold sealA; split <;> exact Told.nil _ _ _
  · unfold sealA; split at h1 <;> rename_i q <;> simp only [q, if_true, if_false] <;> exact h1.more
theorem dc_trim (h : Dt w tag tr tv y a b c d u s nn) (e m : Int) :
    DCall 46 #[.pointer (some ⟨y, 0, none⟩), .int .i64 e, .int .i64 m] w tag tr tv y a b c d u nn (trimA s e m) := by
  refine (dt_trim h e m tv).mono ?_
  rintro en w' ⟨rfl, h1, h2⟩
  refine ⟨nilS, tagTo tag w.heap.size tv, ?_, ?_, fun g hg => tagTo_old _ _ _ _ hg, ?_, h2⟩
  · unfold trimA; split <;> rfl
  · unfold trimA; split <;> exact Told.nil _ _ _
  · unfold trimA
    by_cases q : e < s.ep
    · rw [if_pos q] at h1 ⊢; exact h1.more
    · rw [if_neg q] at h1 ⊢; exact h1.more
theorem dc_read (h : Dt w tag tr tv y a b c d u s nn) (hcha : cha a b c d u = (ch, 0)) (hnn : nn ≤ 4000000) (hne : tv ≠ tr) (e x : Int) :
    DCall 41 #[.pointer (some ⟨y, 0, none⟩), .int .i64 e, .int .i64 x] w tag tr tv y a b c d u nn (readA a b c d ch s e x) := by
  obtain ⟨hf, hu, hu9, rfl⟩ := cha_ok hcha
  unfold readA
  by_cases he : e < s.ep
  · rw [if_pos he]
    refine (dt_readOld h hnn hu hu9 hf e x he tv).mono ?_
    rintro en w' ⟨rfl, h1, h2⟩
    exact ⟨nilS, tagTo tag w.heap.size tv, rfl, Told.nil _ _ _, fun g hg => tagTo_old _ _ _ _ hg, h1.more, h2⟩
  · rw [if_neg he]
    refine (dt_read h hnn hu hu9 hf hne e x he tv).mono ?_
    rintro en w' ⟨v, rfl, h0, h1, h2⟩
    exact ⟨v, tagTo tag w.heap.size tv, rfl, h0, fun g hg => tagTo_old _ _ _ _ hg, h1.more, h2⟩
theorem dc_write (h : Dt w tag tr tv y a b c d u s nn) (hcha : cha a b c d u = (ch, 0)) (hnn : nn ≤ 4000000) (hne : tv ≠ tr) (e x kd cl ca : Int) (va : Option Addr) (vc : Nat) (ys : List Int) (hv : Bs w (.slice va ys.length vc) (ys.map B8)) (hvb : ∀ g, (Value.slice va ys.length vc).ownBlock = some g → tag g ≠ tr) (hyl : ys.length ≤ 30000000) :
    DCall 44 #[.pointer (some ⟨y, 0, none⟩), .int .i64 e, .int .i64 x, .agg #[.int .i64 kd, .int .i64 cl, .int .i64 ca, .slice va ys.length vc]] w tag tr tv y a b c d u nn (writeA a b c d ch s e x kd cl ca ys) := by
  obtain ⟨hf, hu, hu9, rfl⟩ := cha_ok hcha
  unfold writeA
  by_cases he : e < s.ep
  · rw [if_pos he]
    refine (dt_writeOld h e x kd cl ca va ys.length vc he tv).mono ?_
    rintro en w' ⟨rfl, h1, h2⟩
    exact ⟨nilS, tagTo tag w.heap.size tv, rfl, Told.nil _ _ _, fun g hg => tagTo_old _ _ _ _ hg, h1.more, h2⟩
  · rw [if_neg he]
    cases hc : isC kd ys.length
    · rw [if_pos rfl]
      refine (dt_writeNot h hu hu9 hf e x kd cl ca va ys.length vc (by omega) he (.inr hc) tv).mono ?_
      rintro en w' ⟨rfl, h1, h2⟩
      exact ⟨nilS, tagTo tag w.heap.size tv, rfl, Told.nil _ _ _, fun g hg => tagTo_old _ _ _ _ hg, h1.more, h2⟩
    · rw [if_neg (by decide)]
      cases hm : mineC a b c d u x
      · have hL := look_not (mk := s.mark) (ct := s.ct) hm
        rw [if_neg (by rw [hL]; exact (show ¬ (6 : Int) = 3 by decide))]
        refine (dt_writeNot h hu hu9 hf e x kd cl ca va ys.length vc (by omega) he (.inl hm) tv).mono ?_
        rintro en w' ⟨rfl, h1, h2⟩
        refine ⟨nilS, tagTo tag w.heap.size tv, ?_, ?_, fun g hg => tagTo_old _ _ _ _ hg, h1.more, h2⟩
        · unfold lookA An.val; rw [hL]
        · unfold lookA; rw [hL]; exact Told.nil _ _ _
      · by_cases h3 : (lookC a b c d (u / b) s.mark s.ct x).1 = 3
        · rw [if_pos h3]
          refine (dt_writeNew h hnn hu hu9 hf e x kd cl ca va vc ys hv hvb hyl he hc hm h3 _ rfl).mono ?_
          rintro en w' ⟨v', rfl, h1, h2⟩
          exact ⟨nilS, tagW tag w.heap.size tr v' tv, rfl, Told.nil _ _ _, fun g hg => tagW_old _ _ _ _ _ _ hg, h1, h2⟩
        · rw [if_neg h3]
          refine (dt_writeTold h hnn hu hu9 hf hne e x kd cl ca va ys.length vc (by omega) he hc hm h3 tv).mono ?_
          rintro en w' ⟨v, rfl, h0, h1, h2⟩
          exact ⟨v, tagTo tag w.heap.size tv, rfl, h0, fun g hg => tagTo_old _ _ _ _ hg, h1.more, h2⟩
end
end Go.Proofs.YtkgjpfamjedncaaGreat

namespace Go.Proofs.YtkgjpfamjedncaaGreat
open Go.RowKit Go.Maps

/-- A voter of the script between its call and its keeping. -/
structure Tri (w : World) (tag : Nat → Nat) (j q p y : Nat) (rs : List Rc) (S : Nat → Int → Ep) (m : Nat) (rs1 : List Rc) (S1 : Nat → Int → Ep) (E : Int → Ep) (nn : Nat) : Prop where
  orr : Orr w tag j q p y rs S m
  vt : Vt w tag (tP j) p rs1 S1
  rt : Rt w tag j y E nn
theorem Tri.only {T : Nat → Prop} {w w' : World} {tag tag' : Nat → Nat} {j q p y : Nat} {rs : List Rc} {S : Nat → Int → Ep} {m : Nat} {rs1 : List Rc} {S1 : Nat → Int → Ep} {E : Int → Ep} {nn : Nat} (h : Tri w tag j q p y rs S m rs1 S1 E nn) (ho : Only T w w') (hs : ∀ b, b < w.heap.size → T b → ¬ Mine j (tag b)) (ht : ∀ b, b < w.heap.size → tag' b = tag b) : Tri w' tag' j q p y rs S m rs1 S1 E nn :=
  ⟨h.orr.only ho (fun b hb e => ⟨fun e' => hs b hb e (.inr (.inr (.inr e'))), fun e' => hs b hb e (.inr (.inr (.inl e')))⟩) ht, h.vt.only ho (fun b hb e e' => hs b hb e (.inl e')) ht, h.rt.only ho (fun b hb e => ⟨fun e' => hs b hb e (.inr (.inl e')), fun e' => hs b hb e (.inr (.inr (.inl e')))⟩) ht⟩
theorem Tri.bl {w w' : World} {tag : Nat → Nat} {j q p y : Nat} {rs : List Rc} {S : Nat → Int → Ep} {m : Nat} {rs1 : List Rc} {S1 : Nat → Int → Ep} {E : Int → Ep} {nn : Nat} (h : Tri w tag j q p y rs S m rs1 S1 E nn) (hb : Bl w w') (t : Nat) : Tri w' (tagTo tag w.heap.size t) j q p y rs S m rs1 S1 E nn :=
  h.only (Only.of_bl (S := fun _ => False) hb) (fun _ _ e => e.elim) (fun _ hb => tagTo_old _ _ _ _ hb)
theorem Ob.bl' {w w' : World} {tag : Nat → Nat} {j q : Nat} {rs : List Rc} {S : Nat → Int → Ep} {m nn : Nat} (h : Ob 0 w tag j q rs S m nn) (hb : Bl w w') (t : Nat) : Ob 0 w' (tagTo tag w.heap.size t) j q rs S m nn :=
  h.only (Only.of_bl (S := fun _ => False) hb) (fun _ _ e => e.elim) (fun _ hb => tagTo_old _ _ _ _ hb)

section
variable {w0 : World} {tag0 : Nat → Nat} {j bw : Nat} {kl vl : Value} {w : World} {tag : Nat → Nat} {nb lim : Nat} {bx : List (Nat × Array Value × TypeId)} {pl : List (Value × List Int × Nat)} {q p y : Nat} {rs : List Rc} {S : Nat → Int → Ep} {m : Nat} {rs1 : List Rc} {S1 : Nat → Int → Ep} {E : Int → Ep} {nn : Nat}

theorem fr_image (h : Fr w0 tag0 j bw kl vl w tag nb lim bx pl) (hv : Vt w tag (tP j) p rs1 S1) (hl : (flat rs1).length ≤ 30000000) (t : Nat) (ht : t = 1 ∨ t = 4) :
    Calls Tryz.prog 50 #[.pointer (some ⟨p, 0, none⟩)] w fun en w' => ∃ a c, en = .returned (.slice a (flat rs1).length c) ∧ Bl w w' ∧ Fr w0 tag0 j bw kl vl w' (tagTo tag w.heap.size t) nb lim bx ((.slice a (flat rs1).length c, flat rs1, t) :: pl) := by
  refine (vt_image hv hl).mono ?_
  rintro en w' ⟨v, rfl, hb, ho⟩
  obtain ⟨a, c, rfl⟩ := owned_slice' ho
  refine ⟨a, c, rfl, hb, (h.bl hb t).add _ _ t ht (ownsRow_base ho fun b e => Nat.le_trans h.hi (ho.lt b e).1) fun b e => tagTo_new _ _ _ _ (ho.lt b e).1⟩

theorem fr_prepare (h : Fr w0 tag0 j bw kl vl w tag nb lim bx pl) (hv : Tri w tag j q p y rs S m rs S E nn) (e b : Int) (hwf : (Lit.int .i64 e).wf = true) (hbf : (Lit.int .i64 b).wf = true) (hl : (flat rs).length ≤ 30000000) (hn : rs.length ≤ 30000000) :
    Calls Tryz.prog 52 #[.pointer (some ⟨p, 0, none⟩), .int .i64 e, .int .i64 b] w fun en w' => ∃ wh pr ba a c ys E' rs' S' tag', en = .returned (voteR wh pr ba (.slice a ys.length c)) ∧ PrepAns (S rs.length) e b wh pr ba ys E' ∧ S' rs'.length = E' ∧ More rs S rs' S' ∧ (flat rs').length ≤ (flat rs).length + 24 ∧ (∀ b, b < w.heap.size → tag' b = tag b) ∧ Only (fun b => tag b = tP j) w w' ∧ Fr w0 tag0 j bw kl vl w' tag' nb lim bx ((.slice a ys.length c, ys, 1) :: pl) ∧ Tri w' tag' j q p y rs S m rs' S' E nn := by
  obtain ⟨d1, d2, d3, d4, d5, _⟩ := tP_ne j
  refine (vp_prepare hv.vt e b hwf hbf hl hn).mono ?_
  rintro en w' ⟨wh, pr, ba, v, ys, E', rs', S', rfl, hA, ho, hvt, hE, hM, hs, O⟩
  obtain ⟨a, c, rfl⟩ : ∃ a c, v = .slice a ys.length c := by
    obtain ⟨a, c, e⟩ := (ownsRow_sl ho).len
    exact ⟨a, c, by simpa using e⟩
  have old : ∀ b, b < w.heap.size → tagV tag w.heap.size (tP j) (.slice a ys.length c) b = tag b := fun b hb => tagV_old _ _ _ _ _ hb
  refine ⟨wh, pr, ba, a, c, ys, E', rs', S', tagV tag w.heap.size (tP j) (.slice a ys.length c), rfl, hA, hE, hM, hs, old, O, (h.mine O (fun b _ e => .inl e) old).add _ _ 1 (.inl rfl) (ownsRow_base ho fun b e => Nat.le_trans h.hi (ho.lt b e).1) (fun b e => tagV_own _ _ _ _ _ (ho.lt b e).1 e), ?_⟩
  exact ⟨hv.orr.only O (fun b _ e => by rw [e]; exact ⟨d3, d2⟩) old, hvt, hv.rt.only O (fun b _ e => by rw [e]; exact ⟨d1, d2⟩) old⟩

theorem fr_refPrepare (h : Fr w0 tag0 j bw kl vl w tag nb lim bx pl) (hv : Tri w tag j q p y rs S m rs1 S1 E nn) (e b : Int) (hnn : nn ≤ 4000000) (hlow : e < 1 → E e = nop) :
    Calls Tryz.prog 53 #[.pointer (some ⟨y, 0, none⟩), .int .i64 e, .int .i64 b] w fun en w' => ∃ wh pr ba a c ys E' tag', en = .returned (voteR wh pr ba (.slice a ys.length c)) ∧ PrepAns E e b wh pr ba ys E' ∧ w'.ownsRow 0 5 1 (.slice a ys.length c) ys.length (ys.map B8) ∧ (∀ b, b < w.heap.size → tag' b = tag b) ∧ Only (fun b => tag b = tR j) w w' ∧ Fr w0 tag0 j bw kl vl w' tag' nb lim bx pl ∧ Tri w' tag' j q p y rs S m rs1 S1 E' (nn + 1) := by
  obtain ⟨d1, d2, d3, d4, d5, _⟩ := tP_ne j
  refine (rt_prepare hv.rt e b hnn hlow).mono ?_
  rintro en w' ⟨wh, pr, ba, v, ys, E', tag', rfl, hA, ho, hOn, hrt, O⟩
  obtain ⟨a, c, rfl⟩ : ∃ a c, v = .slice a ys.length c := by
    obtain ⟨a, c, e⟩ := (ownsRow_sl ho).len
    exact ⟨a, c, by simpa using e⟩
  exact ⟨wh, pr, ba, a, c, ys, E', tag', rfl, hA, ho, hOn.old, O, h.mine O (fun b _ e => .inr (.inl e)) hOn.old, hv.orr.only O (fun b _ e => by rw [e]; exact ⟨d5, d4⟩) hOn.old, hv.vt.only O (fun b _ e => by rw [e]; exact Ne.symm d1) hOn.old, hrt⟩

theorem fr_kept (h : Fr w0 tag0 j bw kl vl w tag nb lim bx pl) (hv : Tri w tag j q p y rs S m rs1 S1 (S1 rs1.length) nn) (hM : More rs S rs1 S1) (hm : m ≤ 4000000) (hnn : nn < 4000000) (hl : (flat rs1).length ≤ 30000000) :
    Calls Tryz.prog 34 #[.pointer (some ⟨q, 0, none⟩)] w fun en w' => en = .returned (.tuple #[]) ∧ ∃ tag', (∀ b, b < w.heap.size → tag' b = tag b) ∧ Only (fun b => tag b = tD j) w w' ∧ Fr w0 tag0 j bw kl vl w' tag' nb lim bx pl ∧ Ob 0 w' tag' j q rs1 S1 (m + 1) nn := by
  obtain ⟨pv, sv, xs, ks, e⟩ := hv.orr
  refine (om_kept ⟨hv.vt, hv.rt, hM, pv, sv, xs, ks, e⟩ hm hnn hl).mono ?_
  rintro en w' ⟨rfl, ⟨tag', o1, o2, hO⟩, O⟩
  exact ⟨rfl, tag', o1, O, h.mine O (fun b _ e => .inr (.inr (.inr e))) o1, hO⟩

theorem fr_byte {v : Value} {ys : List Int} (h : Fr w0 tag0 j bw kl vl w tag nb lim bx ((v, ys, 1) :: pl)) (hO : Ob 0 w tag j q rs S m nn) (hp : ∀ x ∈ pl, x.2.2 = 4) (hn : ys.length ≤ 40000000) (hnb : nb < 4000000) :
    Calls Tryz.prog 36 #[.pointer (some ⟨bw, 2, none⟩), v] w fun en w' => en = .returned (.tuple #[]) ∧ ∃ tag', (∀ b, b < w.heap.size → tag' b = tag b) ∧ Fr w0 tag0 j bw kl vl w' tag' (nb + 1) w'.heap.size bx pl ∧ Ob 0 w' tag' j q rs S m nn := by
  obtain ⟨m1, m2, _⟩ := mine_small j
  refine (h.byte hp hn hnb).mono ?_
  rintro en w' ⟨rfl, tag', o1, hF, O⟩
  exact ⟨rfl, tag', o1, hF, hO.only O (fun b _ e => by rcases e with e | e <;> rw [e]; exact m2; exact m1) o1⟩
end
end Go.Proofs.YtkgjpfamjedncaaGreat
