-- What a voter answers, the program's and the document's.
-- What the document's voter answers, and where its blocks lie then.
import Derived.Test.YtkgjpfamjedncaaGreatLastObj
namespace Go.Proofs.YtkgjpfamjedncaaGreat
open Go.RowKit Go.Maps

/-- The answer to Prepare where E is kept, and what is kept then. -/
def PrepAns (E : Int → Ep) (e b wh pr ba : Int) (ys : List Int) (E' : Int → Ep) : Prop :=
  ((e < 1 ∨ b < 1 ∨ b ≤ (E e).pr) ∧ wh = 6 ∧ pr = (E e).pr ∧ ba = 0 ∧ ys = [] ∧ E' = E) ∨
  (¬ (e < 1 ∨ b < 1 ∨ b ≤ (E e).pr) ∧ wh = 1 ∧ pr = b ∧ ba = (E e).ba ∧ ys = (E e).val ∧ E' = updE E e ⟨b, (E e).ba, (E e).val⟩)
theorem PrepAns.one {E : Int → Ep} {e b wh pr ba : Int} {ys : List Int} {E' : Int → Ep} {wh' pr' ba' : Int} {ys' : List Int} {E'' : Int → Ep} (h : PrepAns E e b wh pr ba ys E') (h' : PrepAns E e b wh' pr' ba' ys' E'') : wh' = wh ∧ pr' = pr ∧ ba' = ba ∧ ys' = ys ∧ E'' = E' := by
  rcases h with ⟨h0, rfl, rfl, rfl, rfl, rfl⟩ | ⟨h0, rfl, rfl, rfl, rfl, rfl⟩ <;> rcases h' with ⟨k0, rfl, rfl, rfl, rfl, rfl⟩ | ⟨k0, rfl, rfl, rfl, rfl, rfl⟩
  · exact ⟨rfl, rfl, rfl, rfl, rfl⟩
  · exact absurd h0 k0
  · exact absurd k0 h0
  · exact ⟨rfl, rfl, rfl, rfl, rfl⟩
/-- The answer to Accept. -/
def AccAns (E : Int → Ep) (e b : Int) (vs : List Int) (wh pr : Int) (E' : Int → Ep) : Prop :=
  ((e < 1 ∨ b < 1 ∨ b < (E e).pr ∨ ¬ (1 ≤ vs.length ∧ vs.length ≤ 255)) ∧ wh = 6 ∧ pr = (E e).pr ∧ E' = E) ∨
  (¬ (e < 1 ∨ b < 1 ∨ b < (E e).pr ∨ ¬ (1 ≤ vs.length ∧ vs.length ≤ 255)) ∧ wh = 1 ∧ pr = b ∧ E' = updE E e ⟨b, b, vs⟩)
theorem AccAns.one {E : Int → Ep} {e b : Int} {vs : List Int} {wh pr : Int} {E' : Int → Ep} {wh' pr' : Int} {E'' : Int → Ep} (h : AccAns E e b vs wh pr E') (h' : AccAns E e b vs wh' pr' E'') : wh' = wh ∧ pr' = pr ∧ E'' = E' := by
  rcases h with ⟨h0, rfl, rfl, rfl⟩ | ⟨h0, rfl, rfl, rfl⟩ <;> rcases h' with ⟨k0, rfl, rfl, rfl⟩ | ⟨k0, rfl, rfl, rfl⟩
  · exact ⟨rfl, rfl, rfl⟩
  · exact absurd h0 k0
  · exact absurd k0 h0
  · exact ⟨rfl, rfl, rfl⟩
/-- The records go on by one at most. -/
def More (rs : List Rc) (S : Nat → Int → Ep) (rs' : List Rc) (S' : Nat → Int → Ep) : Prop :=
  (rs' = rs ∧ S' = S) ∨ ∃ r E', rs' = rs ++ [r] ∧ S' = upS S rs.length E'

theorem vp_prepare {w : World} {tag : Nat → Nat} {tg p : Nat} {rs : List Rc} {S : Nat → Int → Ep} (h : Vt w tag tg p rs S) (e b : Int) (hwf : (Lit.int .i64 e).wf = true) (hbf : (Lit.int .i64 b).wf = true) (hl : (flat rs).length ≤ 30000000) (hn : rs.length ≤ 30000000) :
    Calls Tryz.prog 52 #[.pointer (some ⟨p, 0, none⟩), .int .i64 e, .int .i64 b] w fun en w' => ∃ wh pr ba v ys E' rs' S', en = .returned (voteR wh pr ba v) ∧ PrepAns (S rs.length) e b wh pr ba ys E' ∧ w'.ownsRow w.heap.size 5 1 v ys.length (ys.map B8) ∧ Vt w' (tagV tag w.heap.size tg v) tg p rs' S' ∧ S' rs'.length = E' ∧ More rs S rs' S' ∧ (flat rs').length ≤ (flat rs).length + 24 ∧ Only (fun b => tag b = tg) w w' := by
  by_cases hno : e < 1 ∨ b < 1 ∨ b ≤ (S rs.length e).pr
  · refine (vt_prepNo h e b hwf hno).mono ?_
    rintro en w' ⟨rfl, hb⟩
    exact ⟨6, _, 0, _, [], _, rs, S, rfl, .inl ⟨hno, rfl, rfl, rfl, rfl, rfl⟩, World.ownsRow_nil _ _ _ _, h.only (Only.of_bl (S := fun _ => False) hb) (fun _ _ e => e.elim) (fun b hb => tagV_old _ _ _ _ _ hb), rfl, .inl ⟨rfl, rfl⟩, by omega, Only.of_bl hb⟩
  · refine (vt_prepYes h e b hwf hbf hl hn (by omega) (by omega) (by omega)).mono ?_
    rintro en w' ⟨v, rfl, hv, r1, r2⟩
    refine ⟨1, _, _, v, _, _, _, _, rfl, .inr ⟨hno, rfl, rfl, rfl, rfl, rfl⟩, hv, r1, upS_last _ _ _ _, .inr ⟨_, _, rfl, rfl⟩, ?_, r2⟩
    rw [flat_append, List.length_append]
    simp [flat, Rc.bytes, recB_len]
theorem vp_accept {w : World} {tag : Nat → Nat} {tg p : Nat} {rs : List Rc} {S : Nat → Int → Ep} (h : Vt w tag tg p rs S) (e b : Int) (v : Value) (vs : List Int) (hwf : (Lit.int .i64 e).wf = true) (hbf : (Lit.int .i64 b).wf = true) (hl : (flat rs).length ≤ 30000000) (hn : rs.length ≤ 30000000) (hba : ∀ e, (S rs.length e).ba ≤ (S rs.length e).pr)
    (hv : Bs w v (vs.map B8)) (hvb : ∀ g, v.ownBlock = some g → g < w.heap.size ∧ tag g ≠ tg) (hvl : vs.length ≤ 30000000) (hys : Byt vs) :
    Calls Tryz.prog 54 #[.pointer (some ⟨p, 0, none⟩), .int .i64 e, .int .i64 b, v] w fun en w' => ∃ wh pr E' rs' S', en = .returned (voteR wh pr 0 (.slice none 0 0)) ∧ AccAns (S rs.length) e b vs wh pr E' ∧ Vt w' (tagTo tag w.heap.size tg) tg p rs' S' ∧ S' rs'.length = E' ∧ More rs S rs' S' ∧ (flat rs').length ≤ (flat rs).length + 24 + vs.length ∧ Only (fun b => tag b = tg) w w' := by
  by_cases hno : e < 1 ∨ b < 1 ∨ b < (S rs.length e).pr ∨ ¬ (1 ≤ vs.length ∧ vs.length ≤ 255)
  · obtain ⟨ua, uc, ev⟩ := hv.len
    rw [List.length_map] at ev
    subst ev
    refine (vt_accNo h e b ua _ uc hwf (by omega) hno).mono ?_
    rintro en w' ⟨rfl, hb⟩
    exact ⟨6, _, _, rs, S, rfl, .inl ⟨hno, rfl, rfl, rfl⟩, h.only (Only.of_bl (S := fun _ => False) hb) (fun _ _ e => e.elim) (fun b hb => tagTo_old _ _ _ _ hb), rfl, .inl ⟨rfl, rfl⟩, by omega, Only.of_bl hb⟩
  · refine (vt_acc h e b v vs hwf hbf hl hn (by omega) (by omega) (by omega) (hba e) hv hvb (by omega) (by omega) hys).mono ?_
    rintro en w' ⟨rfl, ho, ⟨hb, he⟩ | r1⟩
    · exact ⟨1, b, _, rs, S, rfl, .inr ⟨hno, rfl, rfl, rfl⟩, h.only (Only.of_bl (S := fun _ => False) hb) (fun _ _ e => e.elim) (fun b hb => tagTo_old _ _ _ _ hb), he.symm, .inl ⟨rfl, rfl⟩, by omega, ho⟩
    · refine ⟨1, b, _, _, _, rfl, .inr ⟨hno, rfl, rfl, rfl⟩, r1, upS_last _ _ _ _, .inr ⟨_, _, rfl, rfl⟩, ?_, ho⟩
      rw [flat_append, List.length_append]
      simp [flat, Rc.bytes, recB_len]
      omega
/-- The vote's ballot is no higher than the promise. -/
theorem VWay.ba_le {rs : List Rc} {S : Nat → Int → Ep} (h : VWay rs S) : ∀ k, k ≤ rs.length → ∀ e, (S k e).ba ≤ (S k e).pr := by
  intro k
  induction k with
  | zero => intro _ e; rw [h.zero]; simp [nop]
  | succ k ih =>
    intro hk e
    have h1 := ih (by omega)
    have h2 := h.step k (by omega)
    have key : ∀ E0 r E', VPlays E0 r E' → (∀ e, (E0 e).ba ≤ (E0 e).pr) → (E' e).ba ≤ (E' e).pr := by
      intro E0 r E' hp h0
      cases hp with
      | prep x b hx hb hlt =>
        unfold updE
        split
        · have := h0 x; simp; omega
        · exact h0 e
      | acc x b ys hx =>
        unfold updE
        split
        · simp
        · exact h0 e
    exact key _ _ _ h2 h1
end Go.Proofs.YtkgjpfamjedncaaGreat

namespace Go.Proofs.YtkgjpfamjedncaaGreat
open Go.RowKit Go.Maps

/-- Marks that go on: old blocks keep theirs, new ones are the document's. -/
structure On (N j : Nat) (tag tag' : Nat → Nat) : Prop where
  old : ∀ b, b < N → tag' b = tag b
  new : ∀ b, N ≤ b → tag' b = tR j ∨ tag' b = tV j
theorem On.const (N j : Nat) (tag : Nat → Nat) : On N j tag (tagTo tag N (tV j)) := ⟨fun _ hb => tagTo_old _ _ _ _ hb, fun _ hb => .inr (tagTo_new _ _ _ _ hb)⟩
theorem Rn.rt {w w' : World} {tag : Nat → Nat} {j y nn : Nat} {lv lv' : Value} {n0 n : Nat} {F0 F : Nat → Sq} {E' : Int → Ep} (h : Rn 0 w w' y lv lv' n0 F0 n F E') (hn : n ≤ nn) (hr : Rw 0 w y lv n0 F0) (h3 : tag y = tR j) (h4 : ∀ b, lv.ownBlock = some b → tag b = tR j) (h5 : ∀ i, i < n0 → ∀ b, (F0 i).v.ownBlock = some b → tag b = tV j) :
    (∃ tag', On w.heap.size j tag tag' ∧ Rt w' tag' j y E' nn) ∧ Only (fun b => tag b = tR j) w w' := by
  refine ⟨⟨fun b => if b < w.heap.size then tag b else if lv'.ownBlock = some b then tR j else tV j, ⟨fun b hb => by simp [hb], fun b hb => ?_⟩, lv', n, F, hn, h.rw, h.rl, ?_, fun b hb => ?_, fun i hi b hb => ?_⟩, h.only.mono fun b _ e => ?_⟩
  · rw [if_neg (by omega)]
    split
    · exact .inl rfl
    · exact .inr rfl
  · rw [if_pos hr.lt]; exact h3
  · split
    · rename_i hlt
      rcases h.lies b hb with h1 | h1
      · exact h4 b h1
      · omega
    · simp
  · split
    · rename_i hlt
      rcases h.vl i hi b hb with ⟨k, k1, k2⟩ | h1
      · exact h5 k k1 b k2
      · omega
    · rw [if_neg fun e => ownsRow_type (h.rw.val i hi) h.rw.own (by decide) b hb e]
  · rcases e with rfl | e
    · exact h3
    · exact h4 b e

theorem rt_prepare {w : World} {tag : Nat → Nat} {j y nn : Nat} {E : Int → Ep} (h : Rt w tag j y E nn) (e b : Int) (hnn : nn ≤ 4000000) (hlow : e < 1 → E e = nop) :
    Calls Tryz.prog 53 #[.pointer (some ⟨y, 0, none⟩), .int .i64 e, .int .i64 b] w fun en w' => ∃ wh pr ba v ys E' tag', en = .returned (voteR wh pr ba v) ∧ PrepAns E e b wh pr ba ys E' ∧ w'.ownsRow 0 5 1 v ys.length (ys.map B8) ∧ On w.heap.size j tag tag' ∧ Rt w' tag' j y E' (nn + 1) ∧ Only (fun b => tag b = tR j) w w' := by
  have hh := h
  obtain ⟨lv, n, F, h0, h1, h2, h3, h4, h5⟩ := h
  by_cases he : e < 1
  · refine (refPrepLow_any y e b w he).mono ?_
    rintro en w' ⟨rfl, hb⟩
    have e0 := hlow he
    refine ⟨6, 0, 0, _, [], E, _, rfl, .inl ⟨.inl he, rfl, by rw [e0]; rfl, rfl, rfl, rfl⟩, World.ownsRow_nil _ _ _ _, On.const _ _ _, ?_, Only.of_bl hb⟩
    obtain ⟨lv, n, F, k0, k⟩ := hh.only (tag' := tagTo tag w.heap.size (tV j)) (Only.of_bl (S := fun _ => False) hb) (fun _ _ e => e.elim) (fun b hb => tagTo_old _ _ _ _ hb)
    exact ⟨lv, n, F, by omega, k⟩
  · by_cases hno : b < 1 ∨ b ≤ (E e).pr
    · refine (refPrep_any 0 y lv n F E e b w h1 h2 (by omega) (by omega) (Nat.zero_le _) hno).mono ?_
      rintro en w' ⟨lv', n', F', rfl, hn', hR⟩
      obtain ⟨⟨tag', r1, r2⟩, r3⟩ := hR.rt (nn := nn + 1) (by omega) h1 h3 h4 h5
      exact ⟨6, _, 0, _, [], E, tag', rfl, .inl ⟨.inr hno, rfl, rfl, rfl, rfl, rfl⟩, World.ownsRow_nil _ _ _ _, r1, r2, r3⟩
    · refine (refPrepYes_any 0 y lv n F E e b w h1 h2 (by omega) (by omega) (Nat.zero_le _) (by omega) (by omega)).mono ?_
      rintro en w' ⟨lv', n', F', v, rfl, hn', hR, hv⟩
      obtain ⟨⟨tag', r1, r2⟩, r3⟩ := hR.rt (nn := nn + 1) (by omega) h1 h3 h4 h5
      exact ⟨1, _, _, v, _, _, tag', rfl, .inr ⟨by rintro (h | h); exact he h; exact hno h, rfl, rfl, rfl, rfl, rfl⟩, hv, r1, r2, r3⟩
theorem rt_accept {w : World} {tag : Nat → Nat} {j y nn : Nat} {E : Int → Ep} (h : Rt w tag j y E nn) (e b : Int) (v : Value) (vs : List Int) (hnn : nn ≤ 4000000) (hlow : e < 1 → E e = nop) (hv : Bs w v (vs.map B8)) (hvb : ∀ g, v.ownBlock = some g → tag g ≠ tR j) (hvl : vs.length ≤ 30000000) :
    Calls Tryz.prog 55 #[.pointer (some ⟨y, 0, none⟩), .int .i64 e, .int .i64 b, v] w fun en w' => ∃ wh pr E' tag', en = .returned (voteR wh pr 0 (.slice none 0 0)) ∧ AccAns E e b vs wh pr E' ∧ On w.heap.size j tag tag' ∧ Rt w' tag' j y E' (nn + 1) ∧ Only (fun b => tag b = tR j) w w' := by
  have hh := h
  obtain ⟨lv, n, F, h0, h1, h2, h3, h4, h5⟩ := h
  by_cases he : e < 1
  · obtain ⟨ua, uc, ev⟩ := hv.len
    subst ev
    refine (refAccLow_any y e b ua _ uc w he).mono ?_
    rintro en w' ⟨rfl, hb⟩
    have e0 := hlow he
    refine ⟨6, 0, E, _, rfl, .inl ⟨.inl he, rfl, by rw [e0]; rfl, rfl⟩, On.const _ _ _, ?_, Only.of_bl hb⟩
    obtain ⟨lv, n, F, k0, k⟩ := hh.only (tag' := tagTo tag w.heap.size (tV j)) (Only.of_bl (S := fun _ => False) hb) (fun _ _ e => e.elim) (fun b hb => tagTo_old _ _ _ _ hb)
    exact ⟨lv, n, F, by omega, k⟩
  · by_cases hno : b < 1 ∨ b < (E e).pr ∨ ¬ (1 ≤ vs.length ∧ vs.length ≤ 255)
    · obtain ⟨ua, uc, ev⟩ := hv.len
      rw [List.length_map] at ev
      subst ev
      refine (refAccNo_any 0 y lv n F E e b ua _ uc w h1 h2 (by omega) (by omega) (Nat.zero_le _) (by omega) hno).mono ?_
      rintro en w' ⟨lv', n', F', rfl, hn', hR⟩
      obtain ⟨⟨tag', r1, r2⟩, r3⟩ := hR.rt (nn := nn + 1) (by omega) h1 h3 h4 h5
      exact ⟨6, _, E, tag', rfl, .inl ⟨.inr hno, rfl, rfl, rfl⟩, r1, r2, r3⟩
    · refine (refAccYes_any 0 y lv n F E e b v vs w h1 h2 (by omega) (by omega) (Nat.zero_le _) hv (fun g hg hF => ?_) (by omega) (by omega) (by omega) (by omega)).mono ?_
      · rcases hF with rfl | hF
        · exact hvb g hg h3
        · exact hvb g hg (h4 g hF)
      rintro en w' ⟨lv', n', F', rfl, hn', hR⟩
      obtain ⟨⟨tag', r1, r2⟩, r3⟩ := hR.rt (nn := nn + 1) (by omega) h1 h3 h4 h5
      exact ⟨1, b, _, tag', rfl, .inr ⟨by rintro (h | h); exact he h; exact hno h, rfl, rfl, rfl⟩, r1, r2, r3⟩
end Go.Proofs.YtkgjpfamjedncaaGreat
