-- What goes with the calls on a voter that is opened from the beginning of an image.
-- '[]byte("half")': a row that is marked.
-- A voter is made, and stands in the list.
import Derived.Test.YtkgjpfamjedncaaGreatVotedAM
import Derived.Lib.SlBytesConst
namespace Go.Proofs.YtkgjpfamjedncaaGreat
open Go.RowKit Go.Maps

/-- All that was there bears 12; the new voter 10, the document's 11; boxes 3. -/
structure Hf (w0 w : World) (tag : Nat → Nat) (px gy : Nat) (rs1 : List Rc) (S1 : Nat → Int → Ep) (E : Int → Ep) (nn : Nat) (bx : List (Nat × Array Value × TypeId)) : Prop where
  bl : Bl w0 w
  old : ∀ b, b < w0.heap.size → tag b = 12
  vt : Vt w tag 10 px rs1 S1
  rt : Rt w tag 0 gy E nn
  bo : Bo w tag bx
section
variable {w0 w w' : World} {tag tag' : Nat → Nat} {px gy : Nat} {rs1 : List Rc} {S1 : Nat → Int → Ep} {E : Int → Ep} {nn : Nat} {bx : List (Nat × Array Value × TypeId)}
theorem Hf.turn (h : Hf w0 w tag px gy rs1 S1 E nn bx) {T : Nat → Prop} (ho : Only T w w') (hs : ∀ b, b < w.heap.size → T b → tag b ≠ 12) (ht : ∀ b, b < w.heap.size → tag' b = tag b) : Bl w0 w' ∧ ∀ b, b < w0.heap.size → tag' b = 12 := by
  have hlt := h.bl.lt
  exact ⟨⟨ho.os.trans h.bl.os, ho.tape.trans h.bl.tape, ho.output.trans h.bl.output, Nat.le_trans hlt ho.size, fun i hi => (ho.block i (by omega) fun e => hs i (by omega) e (h.old i hi)).trans (h.bl.heap hi)⟩, fun b hb => by rw [ht b (by omega)]; exact h.old b hb⟩
theorem Hf.bl' (h : Hf w0 w tag px gy rs1 S1 E nn bx) (hb : Bl w w') (t : Nat) : Hf w0 w' (tagTo tag w.heap.size t) px gy rs1 S1 E nn bx := by
  have O : Only (fun _ => False) w w' := Only.of_bl hb
  have old : ∀ b, b < w.heap.size → tagTo tag w.heap.size t b = tag b := fun _ hb => tagTo_old _ _ _ _ hb
  obtain ⟨r1, r2⟩ := h.turn O (fun _ _ e => e.elim) old
  exact ⟨r1, r2, h.vt.only O (fun _ _ e => e.elim) old, h.rt.only O (fun _ _ e => e.elim) old, h.bo.only O (fun _ _ e => e.elim) old⟩
theorem Hf.addBox (h : Hf w0 w tag px gy rs1 S1 E nn bx) {g : Nat} {cs : Array Value} {t : TypeId} (hg : w.heap[g]? = some (.cells cs t (0, 0))) (ht : tag g = 3) : Hf w0 w tag px gy rs1 S1 E nn (bx ++ [(g, cs, t)]) :=
  ⟨h.bl, h.old, h.vt, h.rt, fun x hx => by
    rcases List.mem_append.1 hx with hx | hx
    · exact h.bo x hx
    · simp at hx; rw [hx]; exact ⟨hg, ht⟩⟩
/-- A box turns. -/
theorem Hf.set4 {b1 b2 : List (Nat × Array Value × TypeId)} {g : Nat} {a b c d : Value} {t : TypeId} (h : Hf w0 w tag px gy rs1 S1 E nn (b1 ++ (g, #[a, b, c, d], t) :: b2)) (hd : ∀ x ∈ b1 ++ b2, x.1 ≠ g) (x0 x1 x2 x3 : Value) : Hf w0 ((((w.setCell ⟨g, 0, none⟩ x0).setCell ⟨g, 1, none⟩ x1).setCell ⟨g, 2, none⟩ x2).setCell ⟨g, 3, none⟩ x3) tag px gy rs1 S1 E nn (b1 ++ (g, #[x0, x1, x2, x3], t) :: b2) := by
  obtain ⟨hg, tg⟩ := h.bo (g, #[a, b, c, d], t) (by simp)
  simp only at hg tg
  have O := Only.set4 (w := w) (S := fun b => b = g) (g := g) rfl x0 x1 x2 x3
  have hT : ∀ b, b < w.heap.size → b = g → tag b = 3 := fun b _ e => by rw [e]; exact tg
  obtain ⟨r1, r2⟩ := h.turn (tag' := tag) O (fun b hb e => by rw [hT b hb e]; omega) (fun _ _ => rfl)
  refine ⟨r1, r2, h.vt.only O (fun b hb e => by rw [hT b hb e]; omega) (fun _ _ => rfl), h.rt.only O (fun b hb e => by rw [hT b hb e]; unfold tR tV; omega) (fun _ _ => rfl), fun x hx => ?_⟩
  have hx' : x = (g, #[x0, x1, x2, x3], t) ∨ x ∈ b1 ++ b2 := by
    simp only [List.mem_append, List.mem_cons] at hx ⊢
    rcases hx with hx | hx | hx
    · exact .inr (.inl hx)
    · exact .inl hx
    · exact .inr (.inr hx)
  rcases hx' with rfl | hx'
  · exact ⟨set4_heap hg x0 x1 x2 x3, tg⟩
  · have hm : x ∈ b1 ++ (g, #[a, b, c, d], t) :: b2 := by
      simp only [List.mem_append, List.mem_cons] at hx' ⊢
      rcases hx' with hx' | hx'
      · exact .inl hx'
      · exact .inr (.inr hx')
    obtain ⟨k1, k2⟩ := h.bo x hm
    exact ⟨(O.block x.1 (Array.getElem?_eq_some_iff.1 k1).1 (hd x hx')).trans k1, k2⟩

theorem hf_accept (h : Hf w0 w tag px gy rs1 S1 E nn bx) (e b : Int) (v : Value) (vs : List Int) (hwf : (Lit.int .i64 e).wf = true) (hbf : (Lit.int .i64 b).wf = true) (hl : (flat rs1).length ≤ 30000000) (hn : rs1.length ≤ 30000000) (hb : Bs w v (vs.map B8)) (hvb : ∀ g, v.ownBlock = some g → g < w.heap.size ∧ tag g ≠ 10) (hvl : vs.length ≤ 30000000) (hys : Byt vs) :
    Calls Tryz.prog 54 #[.pointer (some ⟨px, 0, none⟩), .int .i64 e, .int .i64 b, v] w fun en w' => ∃ wh pr E' rs' S' tag', en = .returned (voteR wh pr 0 (.slice none 0 0)) ∧ AccAns (S1 rs1.length) e b vs wh pr E' ∧ S' rs'.length = E' ∧ (flat rs').length ≤ (flat rs1).length + 24 + vs.length ∧ rs'.length ≤ rs1.length + 1 ∧ (∀ b, b < w.heap.size → tag' b = tag b) ∧ Only (fun b => tag b = 10) w w' ∧ Hf w0 w' tag' px gy rs' S' E nn bx := by
  refine (vp_accept h.vt e b v vs hwf hbf hl hn (fun e => h.vt.way.ba_le _ (Nat.le_refl _) e) hb hvb hvl hys).mono ?_
  rintro en w' ⟨wh, pr, E', rs', S', rfl, hA, hvt, hE, hM, hs, O⟩
  have old : ∀ b, b < w.heap.size → tagTo tag w.heap.size 10 b = tag b := fun b hb => tagTo_old _ _ _ _ hb
  obtain ⟨r1, r2⟩ := h.turn O (fun b _ e => by rw [e]; omega) old
  exact ⟨wh, pr, E', rs', S', _, rfl, hA, hE, hs, by have := hM.len; omega, old, O, r1, r2, hvt, h.rt.only O (fun b _ e => by rw [e]; unfold tR tV; omega) old, h.bo.only O (fun b _ e => by rw [e]; omega) old⟩
theorem hf_refAccept (h : Hf w0 w tag px gy rs1 S1 E nn bx) (e b : Int) (v : Value) (vs : List Int) (hnn : nn ≤ 4000000) (hlow : e < 1 → E e = nop) (hb : Bs w v (vs.map B8)) (hvb : ∀ g, v.ownBlock = some g → tag g ≠ 11) (hvl : vs.length ≤ 30000000) :
    Calls Tryz.prog 55 #[.pointer (some ⟨gy, 0, none⟩), .int .i64 e, .int .i64 b, v] w fun en w' => ∃ wh pr E' tag', en = .returned (voteR wh pr 0 (.slice none 0 0)) ∧ AccAns E e b vs wh pr E' ∧ (∀ b, b < w.heap.size → tag' b = tag b) ∧ Only (fun b => tag b = 11) w w' ∧ Hf w0 w' tag' px gy rs1 S1 E' (nn + 1) bx := by
  refine (rt_accept h.rt e b v vs hnn hlow hb hvb hvl).mono ?_
  rintro en w' ⟨wh, pr, E', tag', rfl, hA, hOn, hrt, O⟩
  have hT : ∀ b, tag b = tR 0 → tag b = 11 := fun b e => by rw [e]; rfl
  obtain ⟨r1, r2⟩ := h.turn O (fun b _ e => by rw [hT b e]; omega) hOn.old
  exact ⟨wh, pr, E', tag', rfl, hA, hOn.old, O, r1, r2, h.vt.only O (fun b _ e => by rw [hT b e]; omega) hOn.old, hrt, h.bo.only O (fun b _ e => by rw [hT b e]; omega) hOn.old⟩
theorem hf_prepare (h : Hf w0 w tag px gy rs1 S1 E nn bx) (e b : Int) (hwf : (Lit.int .i64 e).wf = true) (hbf : (Lit.int .i64 b).wf = true) (hl : (flat rs1).length ≤ 30000000) (hn : rs1.length ≤ 30000000) :
    Calls Tryz.prog 52 #[.pointer (some ⟨px, 0, none⟩), .int .i64 e, .int .i64 b] w fun en w' => ∃ wh pr ba a c ys E' rs' S' tag', en = .returned (voteR wh pr ba (.slice a ys.length c)) ∧ PrepAns (S1 rs1.length) e b wh pr ba ys E' ∧ w'.ownsRow w.heap.size 5 1 (.slice a ys.length c) ys.length (ys.map B8) ∧ (∀ b, (Value.slice a ys.length c).ownBlock = some b → tag' b = 1) ∧ (∀ b, b < w.heap.size → tag' b = tag b) ∧ Only (fun b => tag b = 10) w w' ∧ Hf w0 w' tag' px gy rs' S' E nn bx := by
  refine (vp_prepare h.vt e b hwf hbf hl hn).mono ?_
  rintro en w' ⟨wh, pr, ba, v, ys, E', rs', S', rfl, hA, ho, hvt, hE, hM, hs, O⟩
  obtain ⟨a, c, rfl⟩ : ∃ a c, v = .slice a ys.length c := by
    obtain ⟨a, c, e⟩ := (ownsRow_sl ho).len
    exact ⟨a, c, by simpa using e⟩
  have old : ∀ b, b < w.heap.size → tagV tag w.heap.size 10 (.slice a ys.length c) b = tag b := fun b hb => tagV_old _ _ _ _ _ hb
  obtain ⟨r1, r2⟩ := h.turn O (fun b _ e => by rw [e]; omega) old
  exact ⟨wh, pr, ba, a, c, ys, E', rs', S', _, rfl, hA, ho, fun b e => tagV_own _ _ _ _ _ (ho.lt b e).1 e, old, O, r1, r2, hvt, h.rt.only O (fun b _ e => by rw [e]; unfold tR tV; omega) old, h.bo.only O (fun b _ e => by rw [e]; omega) old⟩
theorem hf_refPrepare (h : Hf w0 w tag px gy rs1 S1 E nn bx) (e b : Int) (hnn : nn ≤ 4000000) (hlow : e < 1 → E e = nop) :
    Calls Tryz.prog 53 #[.pointer (some ⟨gy, 0, none⟩), .int .i64 e, .int .i64 b] w fun en w' => ∃ wh pr ba a c ys E' tag', en = .returned (voteR wh pr ba (.slice a ys.length c)) ∧ PrepAns E e b wh pr ba ys E' ∧ w'.ownsRow 0 5 1 (.slice a ys.length c) ys.length (ys.map B8) ∧ (∀ b, b < w.heap.size → tag' b = tag b) ∧ Only (fun b => tag b = 11) w w' ∧ Hf w0 w' tag' px gy rs1 S1 E' (nn + 1) bx := by
  refine (rt_prepare h.rt e b hnn hlow).mono ?_
  rintro en w' ⟨wh, pr, ba, v, ys, E', tag', rfl, hA, ho, hOn, hrt, O⟩
  obtain ⟨a, c, rfl⟩ : ∃ a c, v = .slice a ys.length c := by
    obtain ⟨a, c, e⟩ := (ownsRow_sl ho).len
    exact ⟨a, c, by simpa using e⟩
  have hT : ∀ b, tag b = tR 0 → tag b = 11 := fun b e => by rw [e]; rfl
  obtain ⟨r1, r2⟩ := h.turn O (fun b _ e => by rw [hT b e]; omega) hOn.old
  exact ⟨wh, pr, ba, a, c, ys, E', tag', rfl, hA, ho, hOn.old, O, r1, r2, h.vt.only O (fun b _ e => by rw [hT b e]; omega) hOn.old, hrt, h.bo.only O (fun b _ e => by rw [hT b e]; omega) hOn.old⟩
/-- The voter is opened from its whole image. -/
theorem hf_image (h : Hf w0 w tag px gy rs1 S1 E nn bx) (hl : (flat rs1).length ≤ 30000000) :
    Calls Tryz.prog 50 #[.pointer (some ⟨px, 0, none⟩)] w fun en w' => ∃ a c, en = .returned (.slice a (flat rs1).length c) ∧ Cut w' a (flat rs1).length c rs1 ∧ Hf w0 w' (tagTo tag w.heap.size 4) px gy rs1 S1 E nn bx := by
  refine (vt_image h.vt hl).mono ?_
  rintro en w' ⟨v, rfl, hb, ho⟩
  obtain ⟨a, c, rfl⟩ := owned_slice' ho
  exact ⟨a, c, rfl, cut_own ho, h.bl' hb 4⟩
theorem hf_open (h : Hf w0 w tag px gy rs1 S1 E nn bx) (a : Option Addr) (c : Nat) (hc : Cut w a (flat rs1).length c rs1) (hl : (flat rs1).length ≤ 30000000) :
    Calls Tryz.prog 33 #[.slice a (flat rs1).length c] w fun en w' => ∃ p, en = .returned (.tuple #[.pointer (some ⟨p, 0, none⟩), .int .i64 0]) ∧ Hf w0 w' (tagTo tag w.heap.size 10) p gy rs1 S1 E nn bx := by
  refine (vt_open h.vt.way a (flat rs1).length c hl hc tag 10).mono ?_
  rintro en w' ⟨k, p', rfl, hk1, hk2, hk3, hp', hb2, hv2⟩
  have hk : k = rs1.length := by
    apply Classical.byContradiction
    intro hne
    have hlt : k < rs1.length := by omega
    have h3 := hk3 hlt
    rw [← off_succ rs1 k hlt, ← off_all] at h3
    have := off_mono rs1 (k + 1) rs1.length (by omega) (Nat.le_refl _)
    omega
  subst hk
  rw [List.take_of_length_le (Nat.le_refl _)] at hv2
  have h' := h.bl' hb2 10
  exact ⟨p', rfl, h'.bl, h'.old, hv2, h'.rt, h'.bo⟩
end
end Go.Proofs.YtkgjpfamjedncaaGreat

namespace Go.Proofs.YtkgjpfamjedncaaGreat
open Go.RowKit Go.Maps

theorem conv_top (w : World) (C : Array Value) (n c : Nat) : (convert 40 40 (.slice (some ⟨w.heap.size, 0, none⟩) n c)).run Tryz.prog ((w.alloc (.cells C 5)).drew) = .ok (.slice (some ⟨w.heap.size, 0, none⟩) n c) ((w.alloc (.cells C 5 (C.size, C.size + 1))).drew) :=
  Go.Lib.run_convert_bytes_const (P := Tryz.prog) w.drew 40 5 C n c Tryz.underlying40 Tryz.underlying5
theorem conv_over (w : World) (o : Go.Obj) (C : Array Value) (n c : Nat) : (convert 40 40 (.slice (some ⟨w.heap.size + 1, 0, none⟩) n c)).run Tryz.prog (((w.alloc o).alloc (.cells C 5)).drew) = .ok (.slice (some ⟨w.heap.size + 1, 0, none⟩) n c) (((w.alloc o).alloc (.cells C 5 (C.size, C.size + 1))).drew) := by
  have h := conv_top (w.alloc o) C n c
  rw [show (w.alloc o).heap.size = w.heap.size + 1 by simp] at h
  exact h
theorem conv_under (w : World) (o : Go.Obj) (C : Array Value) (n c : Nat) : (convert 40 40 (.slice (some ⟨w.heap.size, 0, none⟩) n c)).run Tryz.prog (((w.alloc (.cells C 5)).alloc o).drew) = .ok (.slice (some ⟨w.heap.size, 0, none⟩) n c) (((w.alloc (.cells C 5 (C.size, C.size + 1))).alloc o).drew) := by
  have hsh : (((w.alloc (.cells C 5)).alloc o).drew).shape? w.heap.size = some (5, C.size) := by
    have : (((w.alloc (.cells C 5)).alloc o).drew).heap[w.heap.size]? = some (.cells C 5) := heap_first w _ _
    unfold World.shape?
    rw [this]
  have hfr : ∀ (k : Nat), (((w.alloc (.cells C 5)).alloc o).drew).freeze ⟨w.heap.size, k, none⟩ 1 = ((w.alloc (.cells C 5 (k, k + 1))).alloc o).drew := fun k => by
    have hm : ∀ (a : Array Go.Obj) (x y : Go.Obj) (f : Go.Obj → Go.Obj), ((a.push x).push y).modify a.size f = (a.push (f x)).push y := by
      intro a x y f
      apply Array.ext
      · simp
      · intro i h1 h2
        simp only [Array.getElem_modify, Array.getElem_push, Array.size_push]
        by_cases h : a.size = i
        · subst h
          simp
        · by_cases hi : i < a.size
          · simp [h, hi]
          · simp at h1; have : i = a.size + 1 := by omega
            subst this; simp
    unfold World.freeze
    rw [if_neg (by decide)]
    show ({ ((w.alloc (.cells C 5)).alloc o).drew with heap := ((w.heap.push (.cells C 5)).push o).modify w.heap.size _ } : World) = _
    rw [hm]
    rfl
  simp [convert, run_underlying Tryz.underlying40, run_underlying Tryz.underlying5, markStringish, hsh]
  exact hfr _
end Go.Proofs.YtkgjpfamjedncaaGreat

namespace Go.Proofs.YtkgjpfamjedncaaGreat
open Go.RowKit Go.Maps
attribute [local go_sem ↓] Go.wp_at_zero Go.wp_at_succ

theorem Tryz.info51 : (Tryz.prog.info? 51).map (fun i => (i.zero, i.size, i.bytes)) = some (some (.pointer none), 1, 8) := by kernel_rfl
def S0 : Nat → Int → Ep := fun _ _ => nop
theorem vway_nil : VWay [] S0 := ⟨rfl, fun j h => by simp at h, fun r h => by simp at h⟩
/-- The list of voters is another one. -/
theorem Bt.setVl {w w' : World} {tag tag' : Nat → Nat} {bw : Nat} {kl vl vl' : Value} {nb lim : Nat} (h : Bt w tag bw kl vl nb lim) (ho : Only (fun b => b = bw ∨ tag b = 6) w w') (hb : w'.heap[bw]? = (w.setCell ⟨bw, 1, none⟩ vl').heap[bw]?) (ht : ∀ b, b < w.heap.size → tag' b = tag b) (hl : lim ≤ w.heap.size) : Bt w' tag' bw kl vl' nb lim := by
  obtain ⟨bl, xb, h1, h2, h3, h4⟩ := h
  have lb := h1.lt
  have nb1 : ∀ b, bl.ownBlock = some b → ¬ (b = bw ∨ tag b = 6) := fun b hb' e => by
    rcases e with e | e
    · exact own_ne_block h1.ob h1.blk (by decide) (by rw [hb', e])
    · have := h3 b hb'; omega
  have nb2 : ∀ u ∈ xb, ∀ b, u.ownBlock = some b → ¬ (b = bw ∨ tag b = 6) := fun u hu b hb' e => by
    have := (h4 u hu b hb').1
    rcases e with e | e
    · rw [e] at this; omega
    · omega
  refine ⟨bl, xb, ⟨h1.b0, ?_, ho.owns h1.ob nb1, fun k hk => (h1.eb k hk).only ho nb2⟩, by rw [ht bw lb]; exact h2, fun b hb => by rw [ht b (h1.ob.lt b hb).2]; exact h3 b hb, fun u hu b hb => ?_⟩
  · rw [hb]; exact heap_setCell_same w bw 1 _ 35 vl' h1.blk
  · obtain ⟨k1, k2⟩ := h4 u hu b hb
    exact ⟨by rw [ht b (by omega)]; exact k1, k2⟩
theorem Bt.c1 {w : World} {tag : Nat → Nat} {bw : Nat} {kl vl : Value} {nb lim : Nat} (h : Bt w tag bw kl vl nb lim) : w.cell? ⟨bw, 1, none⟩ = some vl ∧ w.frozen? ⟨bw, 1, none⟩ = false ∧ bw < w.heap.size := by
  obtain ⟨bl, xb, h1, _⟩ := h
  exact ⟨cell_of_row w bw 1 _ 35 (0, 0) h1.blk, frozen_of_row w bw 1 _ 35 h1.blk, h1.lt⟩

theorem rl_nil (F : Nat → Sq) (k : Nat) : Rl 0 F (S0 k) := by
  exact ⟨fun i hi => by omega, fun i j hi => by omega, fun i hi => by omega, fun e _ _ => rfl⟩
/-- A new voter is kept for the first time. -/
theorem keptFirst {w2 w3 : World} {tag : Nat → Nat} {j p : Nat} (hv : Vt w3 (tagTo tag w2.heap.size (tP j)) (tP j) p [] S0) (hp : w2.heap.size ≤ p) :
    Calls Tryz.prog 34 #[.pointer (some ⟨w3.heap.size + 1, 0, none⟩)] ((w3.alloc (.cells #[.slice none 0 0] 88)).alloc (.cells #[.pointer (some ⟨p, 0, none⟩), .pointer (some ⟨w3.heap.size, 0, none⟩), .slice none 0 0, .slice none 0 0] 91)) fun en w' => en = .returned (.tuple #[]) ∧ Bl w3 w' ∧ ∃ tag', (∀ b, b < w2.heap.size → tag' b = tag b) ∧ Ob 0 w' tag' j (w3.heap.size + 1) [] S0 1 0 := by
  have hx := hv
  obtain ⟨bm, M, vi, hV, hw, t1, t2, t3⟩ := hv
  have bA : Bl w3 ((w3.alloc (.cells #[.slice none 0 0] 88)).alloc (.cells #[.pointer (some ⟨p, 0, none⟩), .pointer (some ⟨w3.heap.size, 0, none⟩), .slice none 0 0, .slice none 0 0] 91)) := ((Bl.refl w3).alloc _).alloc _
  have hY := heap_first w3 (.cells #[.slice none 0 0] 88) (.cells #[.pointer (some ⟨p, 0, none⟩), .pointer (some ⟨w3.heap.size, 0, none⟩), .slice none 0 0, .slice none 0 0] 91)
  have hQ : ((w3.alloc (.cells #[.slice none 0 0] 88)).alloc (.cells #[.pointer (some ⟨p, 0, none⟩), .pointer (some ⟨w3.heap.size, 0, none⟩), .slice none 0 0, .slice none 0 0] 91)).heap[w3.heap.size + 1]? = some (.cells #[.pointer (some ⟨p, 0, none⟩), .pointer (some ⟨w3.heap.size, 0, none⟩), .slice none 0 0, .slice none 0 0] 91 (0, 0)) := by
    have := heap_alloc_new (w3.alloc (.cells #[.slice none 0 0] 88)) (.cells #[.pointer (some ⟨p, 0, none⟩), .pointer (some ⟨w3.heap.size, 0, none⟩), .slice none 0 0, .slice none 0 0] 91)
    have e : (w3.alloc (.cells #[.slice none 0 0] 88)).heap.size = w3.heap.size + 1 := by simp
    rwa [e] at this
  have hsz : ((w3.alloc (.cells #[.slice none 0 0] 88)).alloc (.cells #[.pointer (some ⟨p, 0, none⟩), .pointer (some ⟨w3.heap.size, 0, none⟩), .slice none 0 0, .slice none 0 0] 91)).heap.size = w3.heap.size + 2 := by simp
  generalize ((w3.alloc (.cells #[.slice none 0 0] 88)).alloc (.cells #[.pointer (some ⟨p, 0, none⟩), .pointer (some ⟨w3.heap.size, 0, none⟩), .slice none 0 0, .slice none 0 0] 91)) = W4 at *
  have hF : Nat → Sq := fun _ => ⟨0, nop, .slice none 0 0⟩
  have hR : Rw 0 W4 w3.heap.size (.slice none 0 0) 0 hF := ⟨hY, World.ownsRow_nil _ _ _ _, fun i hi => by omega⟩
  have lp := hV.lt
  have lbm := hV.mp.lt
  have hK : ∀ b, Kfoot (w3.heap.size + 1) (.slice none 0 0) (.slice none 0 0) b → b = w3.heap.size + 1 := by
    rintro b (e | e | e)
    · exact e
    · simp [Value.ownBlock] at e
    · simp [Value.ownBlock] at e
  refine (kept_any 0 (w3.heap.size + 1) p w3.heap.size (.slice none 0 0) (.slice none 0 0) (.slice none 0 0) 0 0 [] [] hF bm 0 (S0 0) [] M vi W4 hQ hR (hV.bl bA) (World.ownsRow_nil _ _ _ _) (World.ownsRow_nil _ _ _ _) (Nat.zero_le _) (by omega) (by omega) (by simp) (fun b hb => by
    have := hK b hb
    refine ⟨by omega, by omega, fun hF' => ?_⟩
    have := (hV.foot_lt hF').2
    omega)).mono ?_
  rintro en w5 ⟨pv, sv, lc, rfl, r1, r2, r3, r4, r5, r6, r7⟩
  have O : Only (fun b => b = w3.heap.size + 1) W4 w5 := r5.mono fun b _ e => hK b e
  have hB : Bl w3 w5 := bA.trans_only O fun n e => by omega
  have l5 := r5.size
  obtain ⟨tag', htt⟩ : ∃ tag', tag' = fun b => if b < w3.heap.size then tagTo tag w2.heap.size (tP j) b else if b = w3.heap.size then tR j else if lc.ownBlock = some b then tV j else tD j := ⟨_, rfl⟩
  have old : ∀ b, b < w3.heap.size → tag' b = tagTo tag w2.heap.size (tP j) b := fun b hb => by rw [htt]; simp [hb]
  have new : ∀ b, w3.heap.size < b → lc.ownBlock ≠ some b → tag' b = tD j := fun b hb hn => by rw [htt]; simp only; rw [if_neg (by omega), if_neg (by omega), if_neg hn]
  have hY5 : w5.heap[w3.heap.size]? = some (.cells #[.slice none 0 0] 88 (0, 0)) := (O.block _ (by omega) (by omega)).trans hY
  have hpn : ∀ b, pv.ownBlock = some b → w3.heap.size < b := fun b hb => by
    rcases r6 b hb with e | e
    · simp [Value.ownBlock] at e
    · omega
  have hsn : ∀ b, sv.ownBlock = some b → w3.heap.size < b := fun b hb => by
    rcases r7 b hb with e | e
    · simp [Value.ownBlock] at e
    · omega
  refine ⟨rfl, hB, tag', fun b hb => by rw [old b (by omega), tagTo_old _ _ _ _ hb], p, w3.heap.size, pv, sv, [lc], fun _ => 0, r1, ?_, hx.only (Only.of_bl (S := fun _ => False) hB) (fun _ _ e => e.elim) old, ⟨_, 0, hF, Nat.le_refl _, ⟨hY5, World.ownsRow_nil _ _ _ _, fun i hi => by omega⟩, ?_, ?_, fun b hb => by simp [Value.ownBlock] at hb, fun i hi => by omega⟩, by simpa using r2, fun b hb => ?_, ?_, fun b hb => ?_, ⟨by omega, rfl, fun i hi => by omega, rfl⟩, fun i hi => ?_⟩
  · refine new _ (by omega) fun e => ?_
    exact own_ne_block r4 r1 (by decide) e
  · exact rl_nil hF _
  · rw [htt]; simp
  · exact new b (hpn b hb) fun e => ownsRow_type r2 r4 (by decide) b hb e
  · simpa [off, flat] using r3
  · exact new b (hsn b hb) fun e => ownsRow_type r3 r4 (by decide) b hb e
  · obtain rfl : i = 0 := by omega
    refine ⟨lc, rfl, 0, hF, by omega, ownsRow_base r4 fun _ _ => Nat.zero_le _, ?_, fun b hb => ?_, fun i hi => by omega⟩
    · exact rl_nil hF _
    · have h4 := (r4.lt b hb).1
      rw [htt]; simp only; rw [if_neg (by omega), if_neg (by omega), if_pos hb]

set_option maxRecDepth 100000 in
set_option maxHeartbeats 4000000 in
theorem freeVoter_any (bw nv : Nat) (kl vl : Value) (nb : Nat) (us : List Value) (tag : Nat → Nat) (a b c q1 q2 q3 q4 : Int) (la : Option Addr) (ln lc : Nat) (ua : Option Addr) (un uc : Nat) (s : ByteArray) (t1 t2 t3 : Int) (va : Option Addr) (vn vc : Nat) (w : World)
    (hB : Bt w tag bw kl vl nb w.heap.size) (hu : w.ownsRow 0 51 1 vl nv us) (ht : ∀ b, vl.ownBlock = some b → tag b = 6) (hnv : nv < 4000000) :
    Calls Tryz.prog 10 #[.pointer (some ⟨bw, 0, none⟩), .agg (opR 9 a b c q1 q2 q3 q4 la ln lc ua un uc s t1 t2 t3 va vn vc)] w fun en w' => en = .returned (.bool true) ∧
      (∃ vl' q tag', (∀ b, b < w.heap.size → tag' b = tag b) ∧ Bt w' tag' bw kl vl' nb w'.heap.size ∧ w'.ownsRow 0 51 1 vl' (nv + 1) (us ++ [.pointer (some ⟨q, 0, none⟩)]) ∧ (∀ b, vl'.ownBlock = some b → tag' b = 6) ∧ Ob 0 w' tag' nv q [] S0 1 0) ∧ Only (fun b => tag b = 2 ∨ tag b = 6) w w' := by
  have bA := (Bl.refl w).alloc (.cells (opR 9 a b c q1 q2 q3 q4 la ln lc ua un uc s t1 t2 t3 va vn vc) 44)
  have HL : Hid (∀ bb, _) := fun bb => lent_any [] bb (w.alloc (.cells (opR 9 a b c q1 q2 q3 q4 la ln lc ua un uc s t1 t2 t3 va vn vc) 44)) (by intro d hd; simp at hd) (by simp)
  have hse : strOf [] = ({ data := #[] } : ByteArray) := rfl
  rw [hse] at HL
  have HbA := hid bA
  have HB := hid hB
  have Hu := hid hu
  have Ht := hid ht
  obtain ⟨c1, f1, lbw⟩ := hB.c1
  clear hB hu ht bA hse
  unfold opR at HL HbA ⊢
  go_enter Tryz.func10, Tryz.ntmps10
  go_wp2_with fail
  refine (HL.out _).mono ?_
  rintro en w2 ⟨r, rfl, hb2, hL2⟩
  obtain ⟨ra, rc, rfl⟩ : ∃ a c, r = .slice a 0 c := by
    obtain ⟨a, c, e⟩ := (ownsRow_sl hL2.own).len
    exact ⟨a, c, by simpa using e⟩
  have B2 := HbA.out.trans hb2
  have HOp := hid (vt_open vway_nil ra 0 rc (by simp [flat]) (cut_own hL2.own) tag (tP nv))
  have HB2 := hid B2
  clear HL hb2 hL2 B2 HbA
  go_wp2_with fail
  refine HOp.out.mono ?_
  rintro en w3 ⟨k, p, rfl, hk1, _, _, hp, hb3, hv3⟩
  rw [List.take_nil] at hv3
  have HK := hid (keptFirst hv3 hp)
  have HB3 := hid (HB2.out.trans hb3)
  clear HOp hv3 hb3 hk1 hp
  go_wp2_with fail
  refine HK.out.mono ?_
  rintro en w5 ⟨rfl, hb5, tag5, ht5, hO5⟩
  obtain ⟨i51, j51, z0, z1, z2⟩ := info_parts Tryz.info51
  have hB5 := HB3.out.trans hb5
  have hU5 := (Only.of_bl (S := fun _ => False) hB5).owns Hu.out fun _ _ e => e
  obtain ⟨ba, bc, hvl⟩ := (ownsRow_sl hU5).len
  rw [ownsRow_len hU5] at hvl
  have lw2 := HB2.out.lt
  have hBt5 := HB.out.only (tag' := tag5) (Only.of_bl (S := fun _ => False) hB5) (fun _ _ e => e.elim) (fun b hb => ht5 b (by omega)) (Nat.le_refl _)
  obtain ⟨c15, f15, lb5⟩ := hBt5.c1
  have np : Hid (vl.ownBlock ≠ some bw) := fun e => by
    have h1 := HB.out.lt.2
    have h2 := Ht.out bw e
    omega
  subst hvl
  have HU5 := hid hU5
  have HBt5 := hid hBt5
  have HO5 := hid hO5
  have HB5 := hid hB5
  have Ht5 := hid ht5
  have hmx : Hid (nv + 1 ≤ maxLen) := by unfold Hid maxLen; omega
  have hby : Hid ((nv + 1) * 8 ≤ 140737488355328) := by unfold Hid; omega
  clear HK hb5 ht5 hO5 hB5 hU5 hBt5 c1 f1
  generalize hqq : w3.heap.size + 1 = q at *
  clear hqq
  go_wp2_with (at_builtin; refine wpList_append_lies _ rfl _ _ 28 rfl 0 51 i51 _ 1 8 Tryz.underlying28 j51 z0 z1 z2 rfl (by decide) _ nv _ rfl (HU5.out.alloc _) ⟨w5.heap.size, 0, none⟩ 1 1 [.pointer (some ⟨q, 0, none⟩)] rfl rfl (cell_one_new _ _ _) (by simp [Value.oneCell']) (by decide) hmx.out hby.out (by simp) (w5.heap.size + 1) (by simp) ?_)
  intro gp capp w6 hown6 hgrow6 hat6 hlt6
  have kq := (far ((Bl.refl w5).alloc _) hgrow6 (o := 1) lb5 np.out).1.trans c15
  have kf := (far ((Bl.refl w5).alloc _) hgrow6 (o := 1) lb5 np.out).2.trans f15
  have lb6 : bw < w6.heap.size := by have := hgrow6.size; simp at this; omega
  have h6 : w6.heap[bw]? = w5.heap[bw]? := by
    rw [hgrow6.block bw (by simp; omega) (fun e => np.out e.symm)]
    exact ((Bl.refl w5).alloc _).heap lb5
  have O7 : Only (fun b => b = bw ∨ (Value.slice ba nv bc).ownBlock = some b) w5 (w6.setCell ⟨bw, 1, none⟩ (.slice (some ⟨gp, 0, none⟩) (nv + 1) capp)) := ((Only.of_bl ((Bl.refl w5).alloc _)).trans ((Only.of_grown hgrow6).mono fun k _ e => .inr e.symm)).setCell ⟨bw, 1, none⟩ (.inl (.inl rfl)) _
  have h7 : (w6.setCell ⟨bw, 1, none⟩ (.slice (some ⟨gp, 0, none⟩) (nv + 1) capp)).heap[bw]? = (w5.setCell ⟨bw, 1, none⟩ (.slice (some ⟨gp, 0, none⟩) (nv + 1) capp)).heap[bw]? := by simp [World.setCell, Array.getElem?_modify, h6]
  obtain ⟨tag7, htt⟩ : ∃ tag7, tag7 = tagTo tag5 w5.heap.size 6 := ⟨_, rfl⟩
  have old7 : ∀ b, b < w5.heap.size → tag7 b = tag5 b := fun b hb => by rw [htt]; exact tagTo_old _ _ _ _ hb
  have l5 := HB5.out.lt
  have hv6 : ∀ b, (Value.slice ba nv bc).ownBlock = some b → tag5 b = 6 := fun b hb => by rw [Ht5.out b (by have := (Hu.out.lt b hb).2; omega)]; exact Ht.out b hb
  have hb2 : tag5 bw = 2 := HBt5.out.lt.2
  have hBt7 := HBt5.out.setVl (tag' := tag7) (O7.mono fun b _ e => e.imp id (hv6 b)) h7 old7 l5
  have hT : ∀ b, (b = bw ∨ (Value.slice ba nv bc).ownBlock = some b) → tag5 b = 2 ∨ tag5 b = 6 := fun b e => by
    rcases e with e | e
    · rw [e]; exact .inl hb2
    · exact .inr (hv6 b e)
  have hO7 := HO5.out.only (tag' := tag7) O7 (fun b _ e => by
    rcases hT b e with e | e <;> rw [e]
    · exact (mine_small nv).2.1
    · unfold Mine tP tR tV tD; omega) old7
  have hs7 := O7.size
  have hrow7 : (w6.setCell ⟨bw, 1, none⟩ (.slice (some ⟨gp, 0, none⟩) (nv + 1) capp)).ownsRow 0 51 1 (.slice (some ⟨gp, 0, none⟩) (nv + 1) capp) (nv + 1) (us ++ [.pointer (some ⟨q, 0, none⟩)]) := by
    obtain ⟨bl, xb, hbk, _⟩ := HBt5.out
    exact ownsRow_of hown6 fun b hb' => Below.heap_setCell _ _ _ _ (fun e => own_ne_block hown6 (h6.trans hbk.blk) (by decide) (by rw [hb', e]))
  have hOut : Only (fun b => tag b = 2 ∨ tag b = 6) w (w6.setCell ⟨bw, 1, none⟩ (.slice (some ⟨gp, 0, none⟩) (nv + 1) capp)) := by
    refine ⟨O7.os.trans HB5.out.os, O7.tape.trans HB5.out.tape, O7.output.trans HB5.out.output, by omega, fun i hi hn => ?_⟩
    rw [O7.block i (by omega) fun e => hn (by rw [← Ht5.out i (by omega)]; exact hT i e), HB5.out.heap hi]
  have HFin := hid (And.intro (fun b (hb : b < w.heap.size) => (show tag7 b = tag b by rw [old7 b (by omega), Ht5.out b (by omega)])) (And.intro (hBt7.mono (lim' := (w6.setCell ⟨bw, 1, none⟩ (.slice (some ⟨gp, 0, none⟩) (nv + 1) capp)).heap.size) (by omega)) (And.intro hrow7 (And.intro (fun b (hb : (Value.slice (some ⟨gp, 0, none⟩) (nv + 1) capp).ownBlock = some b) => (show tag7 b = 6 by
    rcases hat6 with e | e
    · have hb' : gp = b := by simpa [Value.ownBlock] using hb
      rw [← hb', old7 gp (HU5.out.lt gp e).2]; exact hv6 gp e
    · have hb' : gp = b := by simpa [Value.ownBlock] using hb
      rw [← hb', htt]; exact tagTo_new _ _ _ _ (by omega))) (And.intro hO7 hOut)))))
  clear O7 h7 hBt7 hO7 hrow7 hOut hT hv6 hgrow6 hown6 old7
  go_wp2
  go_ret
  obtain ⟨e1, e2, e3, e4, e5, e6⟩ := HFin.out
  exact ⟨rfl, ⟨_, q, tag7, e1, e2, e3, e4, e5⟩, e6⟩
end Go.Proofs.YtkgjpfamjedncaaGreat
