-- What goes with the calls on a voter that is opened from the beginning of an image.
import Derived.Test.YtkgjpfamjedncaaGreatVotedA
namespace Go.Proofs.YtkgjpfamjedncaaGreat
open Go.RowKit Go.Maps

/-- All that was there bears 12; the new voter 10, the document's 11; boxes 3. -/
structure Hf (w0 w : World) (tag : Nat → Nat) (px gy : Nat) (rs1 : List Rc) (S1 : Nat → Int → Ep) (E : Int → Ep) (nn : Nat) (bx : List (Nat × Array Value × TypeId)) : Prop where
  bl : Bl w0 w
  old : ∀ b, b < w0.heap.size → tag b = 12
  vt : Vt w tag 10 px rs1 S1
  rt : Rt w tag 0 gy E nn
  bo : Bo w tag bx
section
variable {w0 w w' : World} {tag tag' : Nat → Nat} {px gy : Nat} {rs1 : List Rc} {S1 : Nat → Int → Ep} {E : Int → Ep} {nn : Nat} {bx : List (Nat × Array Value × TypeId)}
theorem Hf.turn (h : Hf w0 w tag px gy rs1 S1 E nn bx) {T : Nat → Prop} (ho : Only T w w') (hs : ∀ b, b < w.heap.size → T b → tag b ≠ 12) (ht : ∀ b, b < w.heap.size → tag' b = tag b) : Bl w0 w' ∧ ∀ b, b < w0.heap.size → tag' b = 12 := by
  have hlt := h.bl.lt
  exact ⟨⟨ho.os.trans h.bl.os, ho.tape.trans h.bl.tape, ho.output.trans h.bl.output, Nat.le_trans hlt ho.size, fun i hi => (ho.block i (by omega) fun e => hs i (by omega) e (h.old i hi)).trans (h.bl.heap hi)⟩, fun b hb => by rw [ht b (by omega)]; exact h.old b hb⟩
theorem Hf.bl' (h : Hf w0 w tag px gy rs1 S1 E nn bx) (hb : Bl w w') (t : Nat) : Hf w0 w' (tagTo tag w.heap.size t) px gy rs1 S1 E nn bx := by
  have O : Only (fun _ => False) w w' := Only.of_bl hb
  have old : ∀ b, b < w.heap.size → tagTo tag w.heap.size t b = tag b := fun _ hb => tagTo_old _ _ _ _ hb
  obtain ⟨r1, r2⟩ := h.turn O (fun _ _ e => e.elim) old
  exact ⟨r1, r2, h.vt.only O (fun _ _ e => e.elim) old, h.rt.only O (fun _ _ e => e.elim) old, h.bo.only O (fun _ _ e => e.elim) old⟩
theorem Hf.addBox (h : Hf w0 w tag px gy rs1 S1 E nn bx) {g : Nat} {cs : Array Value} {t : TypeId} (hg : w.heap[g]? = some (.cells cs t (0, 0))) (ht : tag g = 3) : Hf w0 w tag px gy rs1 S1 E nn (bx ++ [(g, cs, t)]) :=
  ⟨h.bl, h.old, h.vt, h.rt, fun x hx => by
    rcases List.mem_append.1 hx with hx | hx
    · exact h.bo x hx
    · simp at hx; rw [hx]; exact ⟨hg, ht⟩⟩
/-- A box turns. -/
theorem Hf.set4 {b1 b2 : List (Nat × Array Value × TypeId)} {g : Nat} {a b c d : Value} {t : TypeId} (h : Hf w0 w tag px gy rs1 S1 E nn (b1 ++ (g, #[a, b, c, d], t) :: b2)) (hd : ∀ x ∈ b1 ++ b2, x.1 ≠ g) (x0 x1 x2 x3 : Value) : Hf w0 ((((w.setCell ⟨g, 0, none⟩ x0).setCell ⟨g, 1, none⟩ x1).setCell ⟨g, 2, none⟩ x2).setCell ⟨g, 3, none⟩ x3) tag px gy rs1 S1 E nn (b1 ++ (g, #[x0, x1, x2, x3], t) :: b2) := by
  obtain ⟨hg, tg⟩ := h.bo (g, #[a, b, c, d], t) (by simp)
  simp only at hg tg
  have O := Only.set4 (w := w) (S := fun b => b = g) (g := g) rfl x0 x1 x2 x3
  have hT : ∀ b, b < w.heap.size → b = g → tag b = 3 := fun b _ e => by rw [e]; exact tg
  obtain ⟨r1, r2⟩ := h.turn (tag' := tag) O (fun b hb e => by rw [hT b hb e]; omega) (fun _ _ => rfl)
  refine ⟨r1, r2, h.vt.only O (fun b hb e => by rw [hT b hb e]; omega) (fun _ _ => rfl), h.rt.only O (fun b hb e => by rw [hT b hb e]; unfold tR tV; omega) (fun _ _ => rfl), fun x hx => ?_⟩
  have hx' : x = (g, #[x0, x1, x2, x3], t) ∨ x ∈ b1 ++ b2 := by
    simp only [List.mem_append, List.mem_cons] at hx ⊢
    rcases hx with hx | hx | hx
    · exact .inr (.inl hx)
    · exact .inl hx
    · exact .inr (.inr hx)
  rcases hx' with rfl | hx'
  · exact ⟨set4_heap hg x0 x1 x2 x3, tg⟩
  · have hm : x ∈ b1 ++ (g, #[a, b, c, d], t) :: b2 := by
      simp only [List.mem_append, List.mem_cons] at hx' ⊢
      rcases hx' with hx' | hx'
      · exact .inl hx'
      · exact .inr (.inr hx')
    obtain ⟨k1, k2⟩ := h.bo x hm
    exact ⟨(O.block x.1 (Array.getElem?_eq_some_iff.1 k1).1 (hd x hx')).trans k1, k2⟩

theorem hf_accept (h : Hf w0 w tag px gy rs1 S1 E nn bx) (e b : Int) (v : Value) (vs : List Int) (hwf : (Lit.int .i64 e).wf = true) (hbf : (Lit.int .i64 b).wf = true) (hl : (flat rs1).length ≤ 30000000) (hn : rs1.length ≤ 30000000) (hb : Bs w v (vs.map B8)) (hvb : ∀ g, v.ownBlock = some g → g < w.heap.size ∧ tag g ≠ 10) (hvl : vs.length ≤ 30000000) (hys : Byt vs) :
    Calls Tryz.prog 54 #[.pointer (some ⟨px, 0, none⟩), .int .i64 e, .int .i64 b, v] w fun en w' => ∃ wh pr E' rs' S' tag', en = .returned (voteR wh pr 0 (.slice none 0 0)) ∧ AccAns (S1 rs1.length) e b vs wh pr E' ∧ S' rs'.length = E' ∧ (flat rs').length ≤ (flat rs1).length + 24 + vs.length ∧ rs'.length ≤ rs1.length + 1 ∧ (∀ b, b < w.heap.size → tag' b = tag b) ∧ Only (fun b => tag b = 10) w w' ∧ Hf w0 w' tag' px gy rs' S' E nn bx := by
  refine (vp_accept h.vt e b v vs hwf hbf hl hn (fun e => h.vt.way.ba_le _ (Nat.le_refl _) e) hb hvb hvl hys).mono ?_
  rintro en w' ⟨wh, pr, E', rs', S', rfl, hA, hvt, hE, hM, hs, O⟩
  have old : ∀ b, b < w.heap.size → tagTo tag w.heap.size 10 b = tag b := fun b hb => tagTo_old _ _ _ _ hb
  obtain ⟨r1, r2⟩ := h.turn O (fun b _ e => by rw [e]; omega) old
  exact ⟨wh, pr, E', rs', S', _, rfl, hA, hE, hs, by have := hM.len; omega, old, O, r1, r2, hvt, h.rt.only O (fun b _ e => by rw [e]; unfold tR tV; omega) old, h.bo.only O (fun b _ e => by rw [e]; omega) old⟩
theorem hf_refAccept (h : Hf w0 w tag px gy rs1 S1 E nn bx) (e b : Int) (v : Value) (vs : List Int) (hnn : nn ≤ 4000000) (hlow : e < 1 → E e = nop) (hb : Bs w v (vs.map B8)) (hvb : ∀ g, v.ownBlock = some g → tag g ≠ 11) (hvl : vs.length ≤ 30000000) :
    Calls Tryz.prog 55 #[.pointer (some ⟨gy, 0, none⟩), .int .i64 e, .int .i64 b, v] w fun en w' => ∃ wh pr E' tag', en = .returned (voteR wh pr 0 (.slice none 0 0)) ∧ AccAns E e b vs wh pr E' ∧ (∀ b, b < w.heap.size → tag' b = tag b) ∧ Only (fun b => tag b = 11) w w' ∧ Hf w0 w' tag' px gy rs1 S1 E' (nn + 1) bx := by
  refine (rt_accept h.rt e b v vs hnn hlow hb hvb hvl).mono ?_
  rintro en w' ⟨wh, pr, E', tag', rfl, hA, hOn, hrt, O⟩
  have hT : ∀ b, tag b = tR 0 → tag b = 11 := fun b e => by rw [e]; rfl
  obtain ⟨r1, r2⟩ := h.turn O (fun b _ e => by rw [hT b e]; omega) hOn.old
  exact ⟨wh, pr, E', tag', rfl, hA, hOn.old, O, r1, r2, h.vt.only O (fun b _ e => by rw [hT b e]; omega) hOn.old, hrt, h.bo.only O (fun b _ e => by rw [hT b e]; omega) hOn.old⟩
theorem hf_prepare (h : Hf w0 w tag px gy rs1 S1 E nn bx) (e b : Int) (hwf : (Lit.int .i64 e).wf = true) (hbf : (Lit.int .i64 b).wf = true) (hl : (flat rs1).length ≤ 30000000) (hn : rs1.length ≤ 30000000) :
    Calls Tryz.prog 52 #[.pointer (some ⟨px, 0, none⟩), .int .i64 e, .int .i64 b] w fun en w' => ∃ wh pr ba a c ys E' rs' S' tag', en = .returned (voteR wh pr ba (.slice a ys.length c)) ∧ PrepAns (S1 rs1.length) e b wh pr ba ys E' ∧ w'.ownsRow w.heap.size 5 1 (.slice a ys.length c) ys.length (ys.map B8) ∧ (∀ b, (Value.slice a ys.length c).ownBlock = some b → tag' b = 1) ∧ (∀ b, b < w.heap.size → tag' b = tag b) ∧ Only (fun b => tag b = 10) w w' ∧ Hf w0 w' tag' px gy rs' S' E nn bx := by
  refine (vp_prepare h.vt e b hwf hbf hl hn).mono ?_
  rintro en w' ⟨wh, pr, ba, v, ys, E', rs', S', rfl, hA, ho, hvt, hE, hM, hs, O⟩
  obtain ⟨a, c, rfl⟩ : ∃ a c, v = .slice a ys.length c := by
    obtain ⟨a, c, e⟩ := (ownsRow_sl ho).len
    exact ⟨a, c, by simpa using e⟩
  have old : ∀ b, b < w.heap.size → tagV tag w.heap.size 10 (.slice a ys.length c) b = tag b := fun b hb => tagV_old _ _ _ _ _ hb
  obtain ⟨r1, r2⟩ := h.turn O (fun b _ e => by rw [e]; omega) old
  exact ⟨wh, pr, ba, a, c, ys, E', rs', S', _, rfl, hA, ho, fun b e => tagV_own _ _ _ _ _ (ho.lt b e).1 e, old, O, r1, r2, hvt, h.rt.only O (fun b _ e => by rw [e]; unfold tR tV; omega) old, h.bo.only O (fun b _ e => by rw [e]; omega) old⟩
theorem hf_refPrepare (h : Hf w0 w tag px gy rs1 S1 E nn bx) (e b : Int) (hnn : nn ≤ 4000000) (hlow : e < 1 → E e = nop) :
    Calls Tryz.prog 53 #[.pointer (some ⟨gy, 0, none⟩), .int .i64 e, .int .i64 b] w fun en w' => ∃ wh pr ba a c ys E' tag', en = .returned (voteR wh pr ba (.slice a ys.length c)) ∧ PrepAns E e b wh pr ba ys E' ∧ w'.ownsRow 0 5 1 (.slice a ys.length c) ys.length (ys.map B8) ∧ (∀ b, b < w.heap.size → tag' b = tag b) ∧ Only (fun b => tag b = 11) w w' ∧ Hf w0 w' tag' px gy rs1 S1 E' (nn + 1) bx := by
  refine (rt_prepare h.rt e b hnn hlow).mono ?_
  rintro en w' ⟨wh, pr, ba, v, ys, E', tag', rfl, hA, ho, hOn, hrt, O⟩
  obtain ⟨a, c, rfl⟩ : ∃ a c, v = .slice a ys.length c := by
    obtain ⟨a, c, e⟩ := (ownsRow_sl ho).len
    exact ⟨a, c, by simpa using e⟩
  have hT : ∀ b, tag b = tR 0 → tag b = 11 := fun b e => by rw [e]; rfl
  obtain ⟨r1, r2⟩ := h.turn O (fun b _ e => by rw [hT b e]; omega) hOn.old
  exact ⟨wh, pr, ba, a, c, ys, E', tag', rfl, hA, ho, hOn.old, O, r1, r2, h.vt.only O (fun b _ e => by rw [hT b e]; omega) hOn.old, hrt, h.bo.only O (fun b _ e => by rw [hT b e]; omega) hOn.old⟩
/-- The voter is opened from its whole image. -/
theorem hf_image (h : Hf w0 w tag px gy rs1 S1 E nn bx) (hl : (flat rs1).length ≤ 30000000) :
    Calls Tryz.prog 50 #[.pointer (some ⟨px, 0, none⟩)] w fun en w' => ∃ a c, en = .returned (.slice a (flat rs1).length c) ∧ Cut w' a (flat rs1).length c rs1 ∧ Hf w0 w' (tagTo tag w.heap.size 4) px gy rs1 S1 E nn bx := by
  refine (vt_image h.vt hl).mono ?_
  rintro en w' ⟨v, rfl, hb, ho⟩
  obtain ⟨a, c, rfl⟩ := owned_slice' ho
  exact ⟨a, c, rfl, cut_own ho, h.bl' hb 4⟩
theorem hf_open (h : Hf w0 w tag px gy rs1 S1 E nn bx) (a : Option Addr) (c : Nat) (hc : Cut w a (flat rs1).length c rs1) (hl : (flat rs1).length ≤ 30000000) :
    Calls Tryz.prog 33 #[.slice a (flat rs1).length c] w fun en w' => ∃ p, en = .returned (.tuple #[.pointer (some ⟨p, 0, none⟩), .int .i64 0]) ∧ Hf w0 w' (tagTo tag w.heap.size 10) p gy rs1 S1 E nn bx := by
  refine (vt_open h.vt.way a (flat rs1).length c hl hc tag 10).mono ?_
  rintro en w' ⟨k, p', rfl, hk1, hk2, hk3, hp', hb2, hv2⟩
  have hk : k = rs1.length := by
    apply Classical.byContradiction
    intro hne
    have hlt : k < rs1.length := by omega
    have h3 := hk3 hlt
    rw [← off_succ rs1 k hlt, ← off_all] at h3
    have := off_mono rs1 (k + 1) rs1.length (by omega) (Nat.le_refl _)
    omega
  subst hk
  rw [List.take_of_length_le (Nat.le_refl _)] at hv2
  have h' := h.bl' hb2 10
  exact ⟨p', rfl, h'.bl, h'.old, hv2, h'.rt, h'.bo⟩
end
end Go.Proofs.YtkgjpfamjedncaaGreat
