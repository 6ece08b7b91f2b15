-- A vote: what goes with the calls of a step on a voter.
import Derived.Test.YtkgjpfamjedncaaGreatVotedP
import Derived.Test.YtkgjpfamjedncaaGreatApartStr
namespace Go.Proofs.YtkgjpfamjedncaaGreat
open Go.RowKit Go.Maps

theorem heap_first (w : World) (o o' : Go.Obj) : ((w.alloc o).alloc o').heap[w.heap.size]? = some o :=
  (((Bl.refl (w.alloc o)).alloc o').heap (by simp)).trans (heap_alloc_new w o)
theorem bs_row {W : World} {g cap : Nat} {ys : List Int} {f : Nat × Nat} (hys : ∀ d ∈ ys, 0 ≤ d ∧ d ≤ 255) (h : W.heap[g]? = some (.cells (bytesRow (strOf ys) cap) 5 f)) : Bs W (.slice (some ⟨g, 0, none⟩) ys.length cap) (ys.map B8) := by
  have h0 := bytes_of W ys hys cap f
  rcases h0 with ⟨e, _⟩ | ⟨ad, c, e, hc⟩
  · simp at e
  · simp only [Value.slice.injEq, Option.some.injEq] at e
    obtain ⟨rfl, _, rfl⟩ := e
    refine .inr ⟨_, cap, by rw [List.length_map], fun j u hj => ?_⟩
    have h1 := hc j u hj
    rw [add_eq, Nat.zero_add, cell_of_row _ _ j _ 5 f (heap_alloc_new W _)] at h1
    rw [add_eq, Nat.zero_add, cell_of_row _ _ j _ 5 f h]
    exact h1

/-- What was lent turns. -/
theorem Fr.five {w0 : World} {tag0 : Nat → Nat} {j bw : Nat} {kl vl : Value} {w w' : World} {tag : Nat → Nat} {nb lim : Nat} {bx : List (Nat × Array Value × TypeId)} {pl : List (Value × List Int × Nat)} (h : Fr w0 tag0 j bw kl vl w tag nb lim bx pl) {T : Nat → Prop} (ho : Only T w w') (hs : ∀ b, b < w.heap.size → T b → tag b = 5 ∧ w0.heap.size ≤ b) : Fr w0 tag0 j bw kl vl w' tag nb lim bx pl where
  old := h.old
  out := by
    refine ⟨ho.os.trans h.out.os, ho.tape.trans h.out.tape, ho.output.trans h.out.output, Nat.le_trans h.size ho.size, fun i hi hn => ?_⟩
    have hi' := Nat.lt_of_lt_of_le hi h.size
    rw [ho.block i hi' fun e => by have := (hs i hi' e).2; omega, h.out.block i hi hn]
  bt := h.bt.only ho (fun b hb e => by rw [(hs b hb e).1]; omega) (fun _ _ => rfl) h.hi
  hi := Nat.le_trans h.hi ho.size
  lo := h.lo
  bo := h.bo.only ho (fun b hb e => by rw [(hs b hb e).1]; omega) (fun _ _ => rfl)
  bn := h.bn
  pd := h.pd.only ho (fun b hb e x hx => by
    rw [(hs b hb e).1]
    rcases h.ps x hx with e' | e' <;> rw [e'] <;> omega) (fun _ _ => rfl)
  ps := h.ps
theorem mine_five (j : Nat) : ¬ Mine j 5 ∧ ¬ Mine j 3 ∧ ¬ Mine j 4 := by
  unfold Mine tP tR tV tD
  omega

section
variable {w0 : World} {tag0 : Nat → Nat} {j bw : Nat} {kl vl : Value} {w : World} {tag : Nat → Nat} {nb lim : Nat} {bx : List (Nat × Array Value × TypeId)} {pl : List (Value × List Int × Nat)} {q p y : Nat} {rs : List Rc} {S : Nat → Int → Ep} {m : Nat} {rs1 : List Rc} {S1 : Nat → Int → Ep} {E : Int → Ep} {nn : Nat}

theorem fr_accept (h : Fr w0 tag0 j bw kl vl w tag nb lim bx pl) (hv : Tri w tag j q p y rs S m rs S E nn) (e b : Int) (v : Value) (vs : List Int) (hwf : (Lit.int .i64 e).wf = true) (hbf : (Lit.int .i64 b).wf = true) (hl : (flat rs).length ≤ 30000000) (hn : rs.length ≤ 30000000) (hb : Bs w v (vs.map B8)) (hvb : ∀ g, v.ownBlock = some g → g < w.heap.size ∧ tag g ≠ tP j) (hvl : vs.length ≤ 30000000) (hys : Byt vs) :
    Calls Tryz.prog 54 #[.pointer (some ⟨p, 0, none⟩), .int .i64 e, .int .i64 b, v] w fun en w' => ∃ wh pr E' rs' S' tag', en = .returned (voteR wh pr 0 (.slice none 0 0)) ∧ AccAns (S rs.length) e b vs wh pr E' ∧ S' rs'.length = E' ∧ More rs S rs' S' ∧ (flat rs').length ≤ (flat rs).length + 24 + vs.length ∧ (∀ b, b < w.heap.size → tag' b = tag b) ∧ Only (fun b => tag b = tP j) w w' ∧ Fr w0 tag0 j bw kl vl w' tag' nb lim bx pl ∧ Tri w' tag' j q p y rs S m rs' S' E nn := by
  obtain ⟨d1, d2, d3, d4, d5, _⟩ := tP_ne j
  refine (vp_accept hv.vt e b v vs hwf hbf hl hn (fun e => hv.vt.way.ba_le _ (Nat.le_refl _) e) hb hvb hvl hys).mono ?_
  rintro en w' ⟨wh, pr, E', rs', S', rfl, hA, hvt, hE, hM, hs, O⟩
  have old : ∀ b, b < w.heap.size → tagTo tag w.heap.size (tP j) b = tag b := fun b hb => tagTo_old _ _ _ _ hb
  exact ⟨wh, pr, E', rs', S', _, rfl, hA, hE, hM, hs, old, O, h.mine O (fun b _ e => .inl e) old, hv.orr.only O (fun b _ e => by rw [e]; exact ⟨d3, d2⟩) old, hvt, hv.rt.only O (fun b _ e => by rw [e]; exact ⟨d1, d2⟩) old⟩

theorem fr_refAccept (h : Fr w0 tag0 j bw kl vl w tag nb lim bx pl) (hv : Tri w tag j q p y rs S m rs1 S1 E nn) (e b : Int) (v : Value) (vs : List Int) (hnn : nn ≤ 4000000) (hlow : e < 1 → E e = nop) (hb : Bs w v (vs.map B8)) (hvb : ∀ g, v.ownBlock = some g → tag g ≠ tR j) (hvl : vs.length ≤ 30000000) :
    Calls Tryz.prog 55 #[.pointer (some ⟨y, 0, none⟩), .int .i64 e, .int .i64 b, v] w fun en w' => ∃ wh pr E' tag', en = .returned (voteR wh pr 0 (.slice none 0 0)) ∧ AccAns E e b vs wh pr E' ∧ (∀ b, b < w.heap.size → tag' b = tag b) ∧ Only (fun b => tag b = tR j) w w' ∧ Fr w0 tag0 j bw kl vl w' tag' nb lim bx pl ∧ Tri w' tag' j q p y rs S m rs1 S1 E' (nn + 1) := by
  obtain ⟨d1, d2, d3, d4, d5, _⟩ := tP_ne j
  refine (rt_accept hv.rt e b v vs hnn hlow hb hvb hvl).mono ?_
  rintro en w' ⟨wh, pr, E', tag', rfl, hA, hOn, hrt, O⟩
  exact ⟨wh, pr, E', tag', rfl, hA, hOn.old, O, h.mine O (fun b _ e => .inr (.inl e)) hOn.old, hv.orr.only O (fun b _ e => by rw [e]; exact ⟨d5, d4⟩) hOn.old, hv.vt.only O (fun b _ e => by rw [e]; exact Ne.symm d1) hOn.old, hrt⟩
end
end Go.Proofs.YtkgjpfamjedncaaGreat
