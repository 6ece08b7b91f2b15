-- The calls of a step on a voter: what they do to the voter, the book, the boxes and what has come out.
import Derived.Test.YtkgjpfamjedncaaGreatVHelpFrame
namespace Go.Proofs.YtkgjpfamjedncaaGreat
open Go.RowKit Go.Maps

/-- A voter of the script between its call and its keeping. -/
structure Tri (w : World) (tag : Nat → Nat) (j q p y : Nat) (rs : List Rc) (S : Nat → Int → Ep) (m : Nat) (rs1 : List Rc) (S1 : Nat → Int → Ep) (E : Int → Ep) (nn : Nat) : Prop where
  orr : Orr w tag j q p y rs S m
  vt : Vt w tag (tP j) p rs1 S1
  rt : Rt w tag j y E nn
theorem Tri.only {T : Nat → Prop} {w w' : World} {tag tag' : Nat → Nat} {j q p y : Nat} {rs : List Rc} {S : Nat → Int → Ep} {m : Nat} {rs1 : List Rc} {S1 : Nat → Int → Ep} {E : Int → Ep} {nn : Nat} (h : Tri w tag j q p y rs S m rs1 S1 E nn) (ho : Only T w w') (hs : ∀ b, b < w.heap.size → T b → ¬ Mine j (tag b)) (ht : ∀ b, b < w.heap.size → tag' b = tag b) : Tri w' tag' j q p y rs S m rs1 S1 E nn :=
  ⟨h.orr.only ho (fun b hb e => ⟨fun e' => hs b hb e (.inr (.inr (.inr e'))), fun e' => hs b hb e (.inr (.inr (.inl e')))⟩) ht, h.vt.only ho (fun b hb e e' => hs b hb e (.inl e')) ht, h.rt.only ho (fun b hb e => ⟨fun e' => hs b hb e (.inr (.inl e')), fun e' => hs b hb e (.inr (.inr (.inl e')))⟩) ht⟩
theorem Tri.bl {w w' : World} {tag : Nat → Nat} {j q p y : Nat} {rs : List Rc} {S : Nat → Int → Ep} {m : Nat} {rs1 : List Rc} {S1 : Nat → Int → Ep} {E : Int → Ep} {nn : Nat} (h : Tri w tag j q p y rs S m rs1 S1 E nn) (hb : Bl w w') (t : Nat) : Tri w' (tagTo tag w.heap.size t) j q p y rs S m rs1 S1 E nn :=
  h.only (Only.of_bl (S := fun _ => False) hb) (fun _ _ e => e.elim) (fun _ hb => tagTo_old _ _ _ _ hb)
theorem Ob.bl' {w w' : World} {tag : Nat → Nat} {j q : Nat} {rs : List Rc} {S : Nat → Int → Ep} {m nn : Nat} (h : Ob 0 w tag j q rs S m nn) (hb : Bl w w') (t : Nat) : Ob 0 w' (tagTo tag w.heap.size t) j q rs S m nn :=
  h.only (Only.of_bl (S := fun _ => False) hb) (fun _ _ e => e.elim) (fun _ hb => tagTo_old _ _ _ _ hb)

section
variable {w0 : World} {tag0 : Nat → Nat} {j bw : Nat} {kl vl : Value} {w : World} {tag : Nat → Nat} {nb lim : Nat} {bx : List (Nat × Array Value × TypeId)} {pl : List (Value × List Int × Nat)} {q p y : Nat} {rs : List Rc} {S : Nat → Int → Ep} {m : Nat} {rs1 : List Rc} {S1 : Nat → Int → Ep} {E : Int → Ep} {nn : Nat}

theorem fr_image (h : Fr w0 tag0 j bw kl vl w tag nb lim bx pl) (hv : Vt w tag (tP j) p rs1 S1) (hl : (flat rs1).length ≤ 30000000) (t : Nat) (ht : t = 1 ∨ t = 4) :
    Calls Tryz.prog 50 #[.pointer (some ⟨p, 0, none⟩)] w fun en w' => ∃ a c, en = .returned (.slice a (flat rs1).length c) ∧ Bl w w' ∧ Fr w0 tag0 j bw kl vl w' (tagTo tag w.heap.size t) nb lim bx ((.slice a (flat rs1).length c, flat rs1, t) :: pl) := by
  refine (vt_image hv hl).mono ?_
  rintro en w' ⟨v, rfl, hb, ho⟩
  obtain ⟨a, c, rfl⟩ := owned_slice' ho
  refine ⟨a, c, rfl, hb, (h.bl hb t).add _ _ t ht (ownsRow_base ho fun b e => Nat.le_trans h.hi (ho.lt b e).1) fun b e => tagTo_new _ _ _ _ (ho.lt b e).1⟩

theorem fr_prepare (h : Fr w0 tag0 j bw kl vl w tag nb lim bx pl) (hv : Tri w tag j q p y rs S m rs S E nn) (e b : Int) (hwf : (Lit.int .i64 e).wf = true) (hbf : (Lit.int .i64 b).wf = true) (hl : (flat rs).length ≤ 30000000) (hn : rs.length ≤ 30000000) :
    Calls Tryz.prog 52 #[.pointer (some ⟨p, 0, none⟩), .int .i64 e, .int .i64 b] w fun en w' => ∃ wh pr ba a c ys E' rs' S' tag', en = .returned (voteR wh pr ba (.slice a ys.length c)) ∧ PrepAns (S rs.length) e b wh pr ba ys E' ∧ S' rs'.length = E' ∧ More rs S rs' S' ∧ (flat rs').length ≤ (flat rs).length + 24 ∧ (∀ b, b < w.heap.size → tag' b = tag b) ∧ Only (fun b => tag b = tP j) w w' ∧ Fr w0 tag0 j bw kl vl w' tag' nb lim bx ((.slice a ys.length c, ys, 1) :: pl) ∧ Tri w' tag' j q p y rs S m rs' S' E nn := by
  obtain ⟨d1, d2, d3, d4, d5, _⟩ := tP_ne j
  refine (vp_prepare hv.vt e b hwf hbf hl hn).mono ?_
  rintro en w' ⟨wh, pr, ba, v, ys, E', rs', S', rfl, hA, ho, hvt, hE, hM, hs, O⟩
  obtain ⟨a, c, rfl⟩ : ∃ a c, v = .slice a ys.length c := by
    obtain ⟨a, c, e⟩ := (ownsRow_sl ho).len
    exact ⟨a, c, by simpa using e⟩
  have old : ∀ b, b < w.heap.size → tagV tag w.heap.size (tP j) (.slice a ys.length c) b = tag b := fun b hb => tagV_old _ _ _ _ _ hb
  refine ⟨wh, pr, ba, a, c, ys, E', rs', S', tagV tag w.heap.size (tP j) (.slice a ys.length c), rfl, hA, hE, hM, hs, old, O, (h.mine O (fun b _ e => .inl e) old).add _ _ 1 (.inl rfl) (ownsRow_base ho fun b e => Nat.le_trans h.hi (ho.lt b e).1) (fun b e => tagV_own _ _ _ _ _ (ho.lt b e).1 e), ?_⟩
  exact ⟨hv.orr.only O (fun b _ e => by rw [e]; exact ⟨d3, d2⟩) old, hvt, hv.rt.only O (fun b _ e => by rw [e]; exact ⟨d1, d2⟩) old⟩

theorem fr_refPrepare (h : Fr w0 tag0 j bw kl vl w tag nb lim bx pl) (hv : Tri w tag j q p y rs S m rs1 S1 E nn) (e b : Int) (hnn : nn ≤ 4000000) (hlow : e < 1 → E e = nop) :
    Calls Tryz.prog 53 #[.pointer (some ⟨y, 0, none⟩), .int .i64 e, .int .i64 b] w fun en w' => ∃ wh pr ba a c ys E' tag', en = .returned (voteR wh pr ba (.slice a ys.length c)) ∧ PrepAns E e b wh pr ba ys E' ∧ w'.ownsRow 0 5 1 (.slice a ys.length c) ys.length (ys.map B8) ∧ (∀ b, b < w.heap.size → tag' b = tag b) ∧ Only (fun b => tag b = tR j) w w' ∧ Fr w0 tag0 j bw kl vl w' tag' nb lim bx pl ∧ Tri w' tag' j q p y rs S m rs1 S1 E' (nn + 1) := by
  obtain ⟨d1, d2, d3, d4, d5, _⟩ := tP_ne j
  refine (rt_prepare hv.rt e b hnn hlow).mono ?_
  rintro en w' ⟨wh, pr, ba, v, ys, E', tag', rfl, hA, ho, hOn, hrt, O⟩
  obtain ⟨a, c, rfl⟩ : ∃ a c, v = .slice a ys.length c := by
    obtain ⟨a, c, e⟩ := (ownsRow_sl ho).len
    exact ⟨a, c, by simpa using e⟩
  exact ⟨wh, pr, ba, a, c, ys, E', tag', rfl, hA, ho, hOn.old, O, h.mine O (fun b _ e => .inr (.inl e)) hOn.old, hv.orr.only O (fun b _ e => by rw [e]; exact ⟨d5, d4⟩) hOn.old, hv.vt.only O (fun b _ e => by rw [e]; exact Ne.symm d1) hOn.old, hrt⟩

theorem fr_kept (h : Fr w0 tag0 j bw kl vl w tag nb lim bx pl) (hv : Tri w tag j q p y rs S m rs1 S1 (S1 rs1.length) nn) (hM : More rs S rs1 S1) (hm : m ≤ 4000000) (hnn : nn < 4000000) (hl : (flat rs1).length ≤ 30000000) :
    Calls Tryz.prog 34 #[.pointer (some ⟨q, 0, none⟩)] w fun en w' => en = .returned (.tuple #[]) ∧ ∃ tag', (∀ b, b < w.heap.size → tag' b = tag b) ∧ Only (fun b => tag b = tD j) w w' ∧ Fr w0 tag0 j bw kl vl w' tag' nb lim bx pl ∧ Ob 0 w' tag' j q rs1 S1 (m + 1) nn := by
  obtain ⟨pv, sv, xs, ks, e⟩ := hv.orr
  refine (om_kept ⟨hv.vt, hv.rt, hM, pv, sv, xs, ks, e⟩ hm hnn hl).mono ?_
  rintro en w' ⟨rfl, ⟨tag', o1, o2, hO⟩, O⟩
  exact ⟨rfl, tag', o1, O, h.mine O (fun b _ e => .inr (.inr (.inr e))) o1, hO⟩

theorem fr_byte {v : Value} {ys : List Int} (h : Fr w0 tag0 j bw kl vl w tag nb lim bx ((v, ys, 1) :: pl)) (hO : Ob 0 w tag j q rs S m nn) (hp : ∀ x ∈ pl, x.2.2 = 4) (hn : ys.length ≤ 40000000) (hnb : nb < 4000000) :
    Calls Tryz.prog 36 #[.pointer (some ⟨bw, 2, none⟩), v] w fun en w' => en = .returned (.tuple #[]) ∧ ∃ tag', (∀ b, b < w.heap.size → tag' b = tag b) ∧ Fr w0 tag0 j bw kl vl w' tag' (nb + 1) w'.heap.size bx pl ∧ Ob 0 w' tag' j q rs S m nn := by
  obtain ⟨m1, m2, _⟩ := mine_small j
  refine (h.byte hp hn hnb).mono ?_
  rintro en w' ⟨rfl, tag', o1, hF, O⟩
  exact ⟨rfl, tag', o1, hF, hO.only O (fun b _ e => by rcases e with e | e <;> rw [e]; exact m2; exact m1) o1⟩
end
end Go.Proofs.YtkgjpfamjedncaaGreat
