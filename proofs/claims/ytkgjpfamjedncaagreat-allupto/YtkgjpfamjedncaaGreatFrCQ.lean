-- The calls of a step on a unit: what they do to the unit, the book, the boxes and what has come out.
import Derived.Test.YtkgjpfamjedncaaGreatObjCCallCFrCallsQ
namespace Go.Proofs.YtkgjpfamjedncaaGreat
open Go.RowKit Go.Maps

/-- A unit of the script between its call and its keeping. -/
structure TriC (w : World) (tag : Nat → Nat) (j q p y : Nat) (a b c d u ch : Int) (rs : List Rc) (S : Nat → St) (m : Nat) (rs1 : List Rc) (S1 : Nat → St) (s : St) (nn : Nat) : Prop where
  orr : OrrC w tag j q p y a b c d u rs S m
  kt : Kt w tag (tP j) p a b c d ch rs1 S1
  dt : Dt w tag (tR j) (tV j) y a b c d u s nn
section
variable {w0 : World} {tag0 : Nat → Nat} {j bw : Nat} {kl vl : Value} {w w' : World} {tag tag' : Nat → Nat} {nb lim : Nat} {bx : List (Nat × Array Value × TypeId)} {pl : List (Value × List Int × Nat)} {q p y : Nat} {a b c d u ch : Int} {rs : List Rc} {S : Nat → St} {m : Nat} {rs1 : List Rc} {S1 : Nat → St} {s : St} {nn : Nat}
theorem TriC.only {T : Nat → Prop} (h : TriC w tag j q p y a b c d u ch rs S m rs1 S1 s nn) (ho : Only T w w') (hs : ∀ g, g < w.heap.size → T g → ¬ Mine j (tag g)) (ht : ∀ g, g < w.heap.size → tag' g = tag g) : TriC w' tag' j q p y a b c d u ch rs S m rs1 S1 s nn :=
  ⟨h.orr.only ho (fun g hg e => ⟨fun e' => hs g hg e (.inr (.inr (.inr e'))), fun e' => hs g hg e (.inr (.inr (.inl e')))⟩) ht, h.kt.only ho (fun g hg e e' => hs g hg e (.inl e')) ht, h.dt.only ho (fun g hg e => ⟨fun e' => hs g hg e (.inr (.inl e')), fun e' => hs g hg e (.inr (.inr (.inl e')))⟩) ht⟩
theorem TriC.bl (h : TriC w tag j q p y a b c d u ch rs S m rs1 S1 s nn) (hb : Bl w w') (t : Nat) : TriC w' (tagTo tag w.heap.size t) j q p y a b c d u ch rs S m rs1 S1 s nn :=
  h.only (Only.of_bl (S := fun _ => False) hb) (fun _ _ e => e.elim) (fun _ hg => tagTo_old _ _ _ _ hg)

theorem fr_imageK (h : Fr w0 tag0 j bw kl vl w tag nb lim bx pl) (hv : Kt w tag (tP j) p a b c d ch rs1 S1) (hl : (flat rs1).length ≤ 30000000) (t : Nat) (ht : t = 1 ∨ t = 4) :
    Calls Tryz.prog 35 #[.pointer (some ⟨p, 0, none⟩)] w fun en w' => ∃ ia ic, en = .returned (.slice ia (flat rs1).length ic) ∧ Bl w w' ∧ Fr w0 tag0 j bw kl vl w' (tagTo tag w.heap.size t) nb lim bx ((.slice ia (flat rs1).length ic, flat rs1, t) :: pl) := by
  refine (kt_image hv hl).mono ?_
  rintro en w' ⟨v, rfl, hb, ho⟩
  obtain ⟨ia, ic, rfl⟩ := owned_slice' ho
  refine ⟨ia, ic, rfl, hb, (h.bl hb t).add _ _ t ht (ownsRow_base ho fun g e => Nat.le_trans h.hi (ho.lt g e).1) fun g e => tagTo_new _ _ _ _ (ho.lt g e).1⟩

theorem fr_k {f : Nat} {args : Array Value} {R : An × St} (h : Fr w0 tag0 j bw kl vl w tag nb lim bx pl) (hv : TriC w tag j q p y a b c d u ch rs S m rs S s nn) (hc : KCall f args w tag (tP j) p a b c d ch rs S R) :
    Calls Tryz.prog f args w fun en w' => ∃ va vc rs' S' tag', en = .returned (R.1.val (.slice va R.1.ct.val.length vc)) ∧ MoreK rs S rs' S' ∧ S' rs'.length = R.2 ∧ (flat rs').length ≤ (flat rs).length + 60 ∧ (∀ g, g < w.heap.size → tag' g = tag g) ∧ Only (fun g => tag g = tP j) w w' ∧ Fr w0 tag0 j bw kl vl w' tag' nb lim bx ((.slice va R.1.ct.val.length vc, R.1.ct.val, 1) :: pl) ∧ TriC w' tag' j q p y a b c d u ch rs S m rs' S' s nn := by
  obtain ⟨d1, d2, d3, d4, d5, _⟩ := tP_ne j
  refine Calls.mono hc ?_
  rintro en w' ⟨v, rs', S', rfl, ho, hM, hE, hs, hkt, O⟩
  obtain ⟨va, vc, rfl⟩ := owned_slice' ho
  have old : ∀ g, g < w.heap.size → tagV tag w.heap.size (tP j) (.slice va R.1.ct.val.length vc) g = tag g := fun g hg => tagV_old _ _ _ _ _ hg
  refine ⟨va, vc, rs', S', tagV tag w.heap.size (tP j) (.slice va R.1.ct.val.length vc), rfl, hM, hE, hs, old, O, (h.mine O (fun g _ e => .inl e) old).add _ _ 1 (.inl rfl) (ownsRow_base ho fun g e => Nat.le_trans h.hi (ho.lt g e).1) (fun g e => tagV_own _ _ _ _ _ (ho.lt g e).1 e), ?_⟩
  exact ⟨hv.orr.only O (fun g _ e => by rw [e]; exact ⟨d3, d2⟩) old, hkt, hv.dt.only O (fun g _ e => by rw [e]; exact ⟨d1, d2⟩) old⟩

theorem fr_d {f : Nat} {args : Array Value} {R : An × St} (h : Fr w0 tag0 j bw kl vl w tag nb lim bx pl) (hv : TriC w tag j q p y a b c d u ch rs S m rs1 S1 s nn) (hc : DCall f args w tag (tR j) (tV j) y a b c d u nn R) :
    Calls Tryz.prog f args w fun en w' => ∃ va vc tag', en = .returned (R.1.val (.slice va R.1.ct.val.length vc)) ∧ w'.ownsRow 0 5 1 (.slice va R.1.ct.val.length vc) R.1.ct.val.length (R.1.ct.val.map B8) ∧ (∀ g, g < w.heap.size → tag' g = tag g) ∧ Fr w0 tag0 j bw kl vl w' tag' nb lim bx pl ∧ TriC w' tag' j q p y a b c d u ch rs S m rs1 S1 R.2 (nn + 1) := by
  obtain ⟨d1, d2, d3, d4, d5, _⟩ := tP_ne j
  refine Calls.mono hc ?_
  rintro en w' ⟨v, tag', rfl, ⟨⟨va, vc, rfl⟩, ho, _⟩, old, hdt, O⟩
  exact ⟨va, vc, tag', rfl, ho, old, h.mine O (fun g _ e => .inr (.inl e)) old, hv.orr.only O (fun g _ e => by rw [e]; exact ⟨d5, d4⟩) old, hv.kt.only O (fun g _ e => by rw [e]; exact Ne.symm d1) old, hdt⟩

theorem fr_byteC {v : Value} {ys : List Int} (h : Fr w0 tag0 j bw kl vl w tag nb lim bx ((v, ys, 1) :: pl)) (hO : TriC w tag j q p y a b c d u ch rs S m rs1 S1 s nn) (hp : ∀ x ∈ pl, x.2.2 = 4) (hn : ys.length ≤ 40000000) (hnb : nb < 4000000) :
    Calls Tryz.prog 36 #[.pointer (some ⟨bw, 2, none⟩), v] w fun en w' => en = .returned (.tuple #[]) ∧ ∃ tag', (∀ g, g < w.heap.size → tag' g = tag g) ∧ Fr w0 tag0 j bw kl vl w' tag' (nb + 1) w'.heap.size bx pl ∧ TriC w' tag' j q p y a b c d u ch rs S m rs1 S1 s nn := by
  obtain ⟨m1, m2, _⟩ := mine_small j
  refine (h.byte hp hn hnb).mono ?_
  rintro en w' ⟨rfl, tag', o1, hF, O⟩
  exact ⟨rfl, tag', o1, hF, hO.only O (fun g _ e => by rcases e with e | e <;> rw [e]; exact m2; exact m1) o1⟩

/-- An answer is laid into its box. -/
theorem fr_box7 {g : Nat} {e0 e1 e2 e3 e4 e5 e6 : Value} (b1 b2 : List (Nat × Array Value × TypeId)) (h : Fr w0 tag0 j bw kl vl w tag nb lim (b1 ++ (g, #[e0, e1, e2, e3, e4, e5, e6], 98) :: b2) pl) (hT : TriC w tag j q p y a b c d u ch rs S m rs1 S1 s nn) (hd : ∀ x ∈ b1 ++ b2, x.1 ≠ g) (x0 x1 x2 x3 x4 x5 x6 : Value) :
    Fr w0 tag0 j bw kl vl (((((((w.setCell ⟨g, 0, none⟩ x0).setCell ⟨g, 1, none⟩ x1).setCell ⟨g, 2, none⟩ x2).setCell ⟨g, 3, none⟩ x3).setCell ⟨g, 4, none⟩ x4).setCell ⟨g, 5, none⟩ x5).setCell ⟨g, 6, none⟩ x6) tag nb lim (b1 ++ (g, #[x0, x1, x2, x3, x4, x5, x6], 98) :: b2) pl ∧ TriC (((((((w.setCell ⟨g, 0, none⟩ x0).setCell ⟨g, 1, none⟩ x1).setCell ⟨g, 2, none⟩ x2).setCell ⟨g, 3, none⟩ x3).setCell ⟨g, 4, none⟩ x4).setCell ⟨g, 5, none⟩ x5).setCell ⟨g, 6, none⟩ x6) tag j q p y a b c d u ch rs S m rs1 S1 s nn := by
  obtain ⟨hg, tg⟩ := h.bo (g, #[e0, e1, e2, e3, e4, e5, e6], 98) (by simp)
  have O := Only.set7 (w := w) (S := fun b => b = g) (g := g) rfl x0 x1 x2 x3 x4 x5 x6
  exact ⟨h.box O (set7_heap hg x0 x1 x2 x3 x4 x5 x6) hd, hT.only O (fun b _ e e' => by rw [e, tg] at e'; exact (mine_not j 3 e').2.2.1 rfl) (fun _ _ => rfl)⟩
theorem Bo.row7 {W : World} {tag : Nat → Nat} {l : List (Nat × Array Value × TypeId)} (h : Bo W tag l) {g : Nat} {x0 x1 x2 x3 x4 x5 x6 : Value} {t : TypeId} (hq : (g, #[x0, x1, x2, x3, x4, x5, x6], t) ∈ l) : (W.cell? ⟨g, 0, none⟩ = some x0 ∧ W.cell? ⟨g, 1, none⟩ = some x1 ∧ W.cell? ⟨g, 2, none⟩ = some x2 ∧ W.cell? ⟨g, 3, none⟩ = some x3 ∧ W.cell? ⟨g, 4, none⟩ = some x4 ∧ W.cell? ⟨g, 5, none⟩ = some x5 ∧ W.cell? ⟨g, 6, none⟩ = some x6) ∧ (W.frozen? ⟨g, 0, none⟩ = false ∧ W.frozen? ⟨g, 1, none⟩ = false ∧ W.frozen? ⟨g, 2, none⟩ = false ∧ W.frozen? ⟨g, 3, none⟩ = false ∧ W.frozen? ⟨g, 4, none⟩ = false ∧ W.frozen? ⟨g, 5, none⟩ = false ∧ W.frozen? ⟨g, 6, none⟩ = false) ∧ g < W.heap.size :=
  ⟨⟨h.cell hq 0, h.cell hq 1, h.cell hq 2, h.cell hq 3, h.cell hq 4, h.cell hq 5, h.cell hq 6⟩, ⟨h.frozen hq 0, h.frozen hq 1, h.frozen hq 2, h.frozen hq 3, h.frozen hq 4, h.frozen hq 5, h.frozen hq 6⟩, h.lt hq⟩
theorem MoreK.flat (h : MoreK rs S rs1 S1) : ∃ zs, Go.Proofs.YtkgjpfamjedncaaGreat.flat rs1 = Go.Proofs.YtkgjpfamjedncaaGreat.flat rs ++ zs := by
  rcases h with ⟨rfl, _⟩ | ⟨r, E', rfl, _⟩
  · exact ⟨[], by simp⟩
  · exact ⟨_, flat_append _ _⟩
end
end Go.Proofs.YtkgjpfamjedncaaGreat
