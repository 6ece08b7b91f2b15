-- Fills and appends, from their question on, without a program.
-- A message is taken by a unit, or by the client.
-- A message is handed in.
import Derived.Test.YtnhjmiglegdamaaGreatKReck3KReck4KReck5Q
import Derived.Test.YtnhjmiglegdamaaGreatKWatchKRunKAskQ
import Derived.Test.YtnhjmiglegdamaaGreatSCRecvSDoorsSGiveSFurKPureQ
import Derived.Test.YtnhjmiglegdamaaGreatSRecvSImgSCloneSClearSDeleteSOutQ
import Derived.Deep.DeepCutAuto
import Derived.Deep.RegionHeld3
namespace Go.Proofs.YtnhjmiglegdamaaGreat
open Go.RowKit Go.Maps
section
variable {n m v : Nat} {ce : Int} {past : List PK} {d : PK}
/-- What an elder call wrote is none of the call's own. -/
theorem owns_not {L : Nat → Ct} {k : Nat} (hL : LOk L k) (a : Nat) {c : PC} (h1 : c.own.cl = 1000) (h2 : c.own.ca = k) (x : Ct) (hx : x.cl = (L a).cl ∧ x.ca = (L a).ca) : owns c x = false := by
  unfold owns
  rw [hx.1, hx.2, h1, h2]
  rcases hL a with e | ⟨_, _, e3, e4, e5⟩
  · rw [e]; simp [no]
  · have : ((L a).ca == (k : Int)) = false := by
      rw [beq_eq_false_iff_ne]
      omega
    rw [this, Bool.and_false]
theorem seenC_trim {L : Nat → Ct} {mark : Int} {a : Nat} (h : (a : Int) < mark) : seenC L mark a = (4, mark, { L a with val := [] }) := by unfold seenC; rw [if_pos h]
theorem seenC_full {L : Nat → Ct} {mark : Int} {a : Nat} (h : ¬ (a : Int) < mark) (hk : (L a).kd ≠ 0) : seenC L mark a = (2, 0, L a) := by unfold seenC; rw [if_neg h, if_neg hk]
/-- From what came out of walking along the chain. -/
theorem walked {K : KW} {L : Nat → Ct} {mark : Int} {c : PC} {b : Bool} {a : Nat} {t : Ct} (hus : K.us = usOf (n * m) fun u => ⟨uS n L mark (u / m), []⟩) (hpool : K.pool = []) (hX : AskOk n m K.X c b past.length) (hA : AdOk n m v ce a) (had : c.addr = a) (hpl : c.place = 0) (hq : c.q = ⟨2, c.q.nr, a, c.cont, nodesOf (a % n * m + 0) 1, true, []⟩) (hct : CtOk c.cont) (hisC : isC c.cont.kd c.cont.val.length = true) (hL : LOk L (past.length + 1)) (hm : Sm mark) (hmk : ¬ (a : Int) < mark) (hcase : (L a).kd = 0 ∧ c.cont = t ∨ (L a).kd ≠ 0 ∧ L a = t ∧ c.kind ≠ 1) (hct2 : CtOk t) (hisC2 : isC t.kd t.val.length = true) (hNt : Nt past d K) (h0 : 0 ≤ K.now) (hn : K.now + 48 * (n * m : Nat) ≤ 400000) (has : K.X.asked + 300 ≤ 1000000) :
    ∃ jj K', jj ≤ 10 ∧ ExchT n m v ce K jj K' ∧ Ended n m K K' past d (updL L a t) mark (wroteR c.kind a t) := by
  obtain ⟨s1, s2, s3, s4, s5, s6⟩ := fit_nm hA.fit
  obtain ⟨r, hr⟩ : ∃ r, m = r + 1 := ⟨m - 1, by omega⟩
  have hle : (8 : Int) * (n * m : Nat) * ((r + 1 : Nat) : Int) ≤ 8 * (n * m : Nat) * 3 := Int.mul_le_mul_of_nonneg_left (by omega) (by omega)
  obtain ⟨jj, K', g1, g2, g3, g4, g5, g6, g7, g8, g9, g10, g11, g12, g13, g14, g15, g16⟩ := walkW (n := n) (m := m) (v := v) (ce := ce) (past := past) (d := d) r 0 (K := K) (L := L) (mark := mark) (c := c) (b := b) (a := a) (t := t) (by omega) (by rw [hus]; apply usOf_congr; intro u _; rw [if_neg (by omega)]) hpool hX hA had hpl hq hct hisC hL hm hmk hcase hct2 hisC2 hNt h0 (by omega) (by omega)
  exact ⟨jj, K', by omega, g2, g3, g4, g5, g6, g7, g8, g9, g10, g11, g12, g13, by omega, g15, by omega⟩
/-- What a fill leaves at its address. -/
def fillC (L : Nat → Ct) (a : Nat) (t : Ct) : Ct := if (L a).kd = 0 then t else L a
/-- A fill, from its question on. -/
theorem reckF {K : KW} {L : Nat → Ct} {mark : Int} (hus : K.us = usOf (n * m) fun u => ⟨uS n L mark (u / m), []⟩) (hpool : K.pool = []) {c : PC} {b : Bool} (hX : AskOk n m K.X c b past.length) {a : Nat} (hA : AdOk n m v ce a) (hm : Sm mark) (hL : LOk L past.length) (had : c.addr = a) (hpl : c.place = 0) (hkd : c.kind = 3) (hown : c.own = ⟨9, 1000, past.length, []⟩) (hcont : c.cont = ⟨9, 1000, past.length, []⟩) (hq : c.q = ⟨2, c.q.nr, a, c.cont, nodesOf (a % n * m + 0) 1, true, []⟩)
    (hNt : Nt past d K) (h0 : 0 ≤ K.now) (hn : K.now + 48 * (n * m : Nat) ≤ 400000) (has : K.X.asked + 300 ≤ 1000000) :
    ∃ j K', j ≤ 10 ∧ ExchT n m v ce K j K' ∧ Ended n m K K' past d (if (a : Int) < mark then L else updL L a (fillC L a c.cont)) mark (if (a : Int) < mark then ⟨4, 0, []⟩ else told (fillC L a c.cont)) := by
  obtain ⟨s1, s2, s3, s4, s5, s6⟩ := fit_nm hA.fit
  have hple := hNt.le
  have hct : CtOk c.cont := by rw [hcont]; exact ⟨by unfold Sm; simp, by unfold Sm; simp, by unfold Sm; simp only; omega, by simp, fun x hx => by simp at hx⟩
  have hisC : isC c.cont.kd c.cont.val.length = true := by rw [hcont]; simp [isC]
  by_cases hmk : (a : Int) < mark
  · rw [if_pos hmk, if_pos hmk]
    have hs := seenC_trim (L := L) hmk
    obtain ⟨A, hAe⟩ : ∃ A : An, A = ⟨(seenC L mark a).1, 0, (seenC L mark a).2.1, (seenC L mark a).2.2⟩ := ⟨_, rfl⟩
    have hAw : A.wh = 4 := by rw [hAe, hs]
    have hAm : A.mark = mark := by rw [hAe, hs]
    obtain ⟨c1, hc1⟩ : ∃ c1 : PC, c1 = { c with q := { c.q with due := false, ans := [(((a % n * m + 0 : Nat) : Int), A)] } } := ⟨_, rfl⟩
    have hwr : K.X.outX.wrote n m c1 A = K.X.outX.lay n m c1 mark ⟨4, 0, []⟩ := by
      have hk : c1.kind ≠ 1 := by rw [hc1]; simp only [hkd]; decide
      unfold CX.wrote CX.trimmed
      rw [if_neg (by rw [hAw]; decide), if_neg (by rw [hAw]; decide), if_neg hk, hAm]
    obtain ⟨K1, K2, pr', a1, a2, a3, a4, a5, a6, a7, a8, a9, a10, a11, a12, a13⟩ := dblW (n := n) (m := m) (v := v) (ce := ce) (past := past) (d := d) (Lf := fun _ => L) (mark := mark) hus hpool hX hA had (by omega) hpl hq hct hisC (hL.mono (by omega)) hm A (by rw [if_pos (.inl hmk)]; exact hAe) (K.X.outX.lay n m c1 mark ⟨4, 0, []⟩) (by rw [← hwr, hc1]) (.inr (.inr ⟨hAw, hpl, owns_not hL a (by rw [hown]) (by rw [hown]) _ (by rw [hAe, hs]; exact ⟨rfl, rfl⟩)⟩)) (ResGo.refl _ _) ⟨by show K.X.asked ≤ K.X.asked + 1; omega, by show K.X.asked + 1 ≤ K.X.asked + 1; omega⟩ (fun c' hc' => by
      unfold CX.lay CX.ask at hc'
      simp only [Option.some.injEq] at hc'
      subst hc'
      refine ⟨by simp only [allOf_is, nodesOf_len]; omega, ?_⟩
      show K.X.asked + 1 ≠ K.X.pr.nr
      have := hX.prn
      omega) hNt (by omega)
    have hu2 : K2.us = usOf (n * m) (fun u => ⟨uS n L mark (u / m), []⟩) := by
      rw [a3]
      apply usOf_congr
      intro u _
      rw [if_pos (show (a : Int) < mark ∨ (L a).kd ≠ 0 from .inl hmk)]
      split <;> rfl
    have hX2 : AskOk n m K2.X { { c1 with e := ⟨4, 0, []⟩ } with q := ⟨4, K.X.asked + 1, mark, no, allOf n m, true, []⟩ } false past.length := by
      rw [a7]
      exact askNext hX (by omega) a8 (allOf n m) 4 mark no (c2 := { c1 with e := ⟨4, 0, []⟩ }) (by rw [hc1]) (by omega)
    obtain ⟨K', e1, e2, e3, e4⟩ := reckT (v := v) (ce := ce) hu2 a4 hX2 hA.fit hm hm (by simp only [allOf_is]) ⟨by simp, by simp⟩ a6 (by omega) (by omega)
    refine ⟨5, K', by omega, exchT2 a1 a2 h0 (by omega) (by omega) (by omega) hpool a11 e1, ?_⟩
    have hres : K2.X.res = K.X.res := by rw [a7]; rfl
    have hask : K2.X.asked = K.X.asked + 1 := by rw [a7]; rfl
    have hmx : max mark mark = mark := by omega
    have hu := e2.us
    rw [hmx] at hu
    exact ⟨hu, e2.pool, e2.had.trans a5, e2.nt, by rw [e2.res, hres], e2.pend, e2.due, e2.prn, e2.pr0, e2.pra, by omega, by omega, by have := e2.n0; omega, by omega⟩
  · rw [if_neg hmk, if_neg hmk]
    have hk1 : c.kind ≠ 1 := by rw [hkd]; decide
    have hwr : wroteR c.kind a (fillC L a c.cont) = told (fillC L a c.cont) := by unfold wroteR; rw [if_neg hk1]
    rw [← hwr]
    unfold fillC
    by_cases hz : (L a).kd = 0
    · rw [if_pos hz]
      exact walked hus hpool hX hA had hpl hq hct hisC (hL.mono (by omega)) hm hmk (.inl ⟨hz, rfl⟩) hct hisC hNt h0 hn has
    · rw [if_neg hz]
      exact walked hus hpool hX hA had hpl hq hct hisC (hL.mono (by omega)) hm hmk (.inr ⟨hz, rfl, hk1⟩) (hL.ct a) (hL.full hz).1 hNt h0 hn has
/-- An append at an address that is free. -/
theorem reckA {K : KW} {L : Nat → Ct} {mark : Int} (hus : K.us = usOf (n * m) fun u => ⟨uS n L mark (u / m), []⟩) (hpool : K.pool = []) {c : PC} {b : Bool} (hX : AskOk n m K.X c b past.length) {a : Nat} (hA : AdOk n m v ce a) (hm : Sm mark) (hL : LOk L past.length) (had : c.addr = a) (hpl : c.place = 0) (hkd : c.kind = 1) (hct : CtOk c.cont) (hisC : isC c.cont.kd c.cont.val.length = true) (hq : c.q = ⟨2, c.q.nr, a, c.cont, nodesOf (a % n * m + 0) 1, true, []⟩) (hmk : ¬ (a : Int) < mark) (hz : (L a).kd = 0)
    (hNt : Nt past d K) (h0 : 0 ≤ K.now) (hn : K.now + 48 * (n * m : Nat) ≤ 400000) (has : K.X.asked + 300 ≤ 1000000) :
    ∃ j K', j ≤ 10 ∧ ExchT n m v ce K j K' ∧ Ended n m K K' past d (updL L a c.cont) mark ⟨1, a, []⟩ := by
  have hwr : wroteR c.kind a c.cont = ⟨1, a, []⟩ := by unfold wroteR; rw [if_pos hkd]
  rw [← hwr]
  exact walked hus hpool hX hA had hpl hq hct hisC (hL.mono (by omega)) hm hmk (.inl ⟨hz, rfl⟩) hct hisC hNt h0 hn has
/-- How a beat ends in which a token was of no use. -/
structure Wanting (n m : Nat) (K K' : KW) (past : List PK) (d : PK) (L : Nat → Ct) (mark : Int) (c c' : PC) : Prop where
  us : K'.us = usOf (n * m) fun u => ⟨uS n L mark (u / m), []⟩
  pool : K'.pool = []
  had : K'.had = K.had
  nt : Nt past d K'
  res : K'.X.res = K.X.res
  pend : K'.X.pend = some c'
  q : c'.q = PQ.zero
  same : c'.kind = c.kind ∧ c'.num = c.num ∧ c'.own = c.own
  due : K'.X.pr.due = false
  prn : K'.X.pr.nodes.length ≤ 100
  pr0 : 1 ≤ K'.X.pr.nr
  pra : K'.X.pr.nr ≤ K'.X.asked
  a : K'.X.asked = K.X.asked
  n0 : K.now ≤ K'.now
  n1 : K'.now ≤ K.now + 48 * (n * m : Nat)
/-- An append at an address that is not free. -/
theorem reckW {K : KW} {L : Nat → Ct} {mark : Int} (hus : K.us = usOf (n * m) fun u => ⟨uS n L mark (u / m), []⟩) (hpool : K.pool = []) {c : PC} {b : Bool} (hX : AskOk n m K.X c b past.length) {a : Nat} (hA : AdOk n m v ce a) (hm : Sm mark) (hL : LOk L past.length) (had : c.addr = a) (hpl : c.place = 0) (hkd : c.kind = 1) (hown : c.own.cl = 1000 ∧ c.own.ca = past.length) (hct : CtOk c.cont) (hisC : isC c.cont.kd c.cont.val.length = true) (hq : c.q = ⟨2, c.q.nr, a, c.cont, nodesOf (a % n * m + 0) 1, true, []⟩) (hno : (a : Int) < mark ∨ (L a).kd ≠ 0)
    (hNt : Nt past d K) (h0 : 0 ≤ K.now) (hn : K.now + 48 * (n * m : Nat) ≤ 400000) :
    ∃ K' c', ExchT n m v ce K 3 K' ∧ Wanting n m K K' past d L mark c c' := by
  obtain ⟨s1, s2, s3, s4, s5, s6⟩ := fit_nm hA.fit
  have hple := hNt.le
  obtain ⟨A, hAe⟩ : ∃ A : An, A = ⟨(seenC L mark a).1, 0, (seenC L mark a).2.1, (seenC L mark a).2.2⟩ := ⟨_, rfl⟩
  obtain ⟨c1, hc1⟩ : ∃ c1 : PC, c1 = { c with q := { c.q with due := false, ans := [(((a % n * m + 0 : Nat) : Int), A)] } } := ⟨_, rfl⟩
  have hk1 : c1.kind = 1 := by rw [hc1]; exact hkd
  have hboth : WrOk c A ∧ K.X.outX.wrote n m c1 A = { K.X.outX with pend := some { c1 with q := PQ.zero } } := by
    by_cases hmk : (a : Int) < mark
    · have hs := seenC_trim (L := L) hmk
      have hAw : A.wh = 4 := by rw [hAe, hs]
      refine ⟨.inr (.inr ⟨hAw, hpl, owns_not hL a hown.1 hown.2 _ (by rw [hAe, hs]; exact ⟨rfl, rfl⟩)⟩), ?_⟩
      unfold CX.wrote CX.trimmed
      rw [if_neg (by rw [hAw]; decide), if_neg (by rw [hAw]; decide), if_pos hk1]
    · have hs := seenC_full (L := L) hmk (hno.resolve_left hmk)
      have hAw : A.wh = 2 := by rw [hAe, hs]
      refine ⟨.inr (.inl ⟨hAw, fun _ => owns_not hL a hown.1 hown.2 _ (by rw [hAe, hs]; exact ⟨rfl, rfl⟩)⟩), ?_⟩
      unfold CX.wrote CX.taken
      rw [if_neg (by rw [hAw]; decide), if_pos hAw, if_pos hk1]
  obtain ⟨K1, K2, pr', a1, a2, a3, a4, a5, a6, a7, a8, a9, a10, a11, a12, a13⟩ := dblW (n := n) (m := m) (v := v) (ce := ce) (past := past) (d := d) (Lf := fun _ => L) (mark := mark) hus hpool hX hA had (by omega) hpl hq hct hisC (hL.mono (by omega)) hm A (by rw [if_pos hno]; exact hAe) { K.X.outX with pend := some { c1 with q := PQ.zero } } (by rw [← hboth.2, hc1]) hboth.1 (ResGo.refl _ _) ⟨by show K.X.asked ≤ K.X.asked; omega, by show K.X.asked ≤ K.X.asked + 1; omega⟩ (fun c' hc' => by
      simp only [Option.some.injEq] at hc'
      subst hc'
      refine ⟨by simp [PQ.zero], ?_⟩
      show (0 : Int) ≠ K.X.pr.nr
      have := hX.pr0
      omega) hNt (by omega)
  have hu2 : K2.us = usOf (n * m) (fun u => ⟨uS n L mark (u / m), []⟩) := by
    rw [a3]
    apply usOf_congr
    intro u _
    rw [if_pos hno]
    split <;> rfl
  have hp2 : K2.X.pend = some { c1 with q := PQ.zero } := by rw [a7]
  have hdn : ExchT n m v ce K2 1 K2 := exch_done hu2 a4 ⟨by omega, by omega⟩ (by rw [a7]; exact a8.due) (by rw [a7]; simp only [a8.nodes]; exact hX.hpn (by omega)) (fun c' hc' => by
    rw [hp2] at hc'
    simp only [Option.some.injEq] at hc'
    subst hc'
    refine ⟨rfl, ?_, by simp [PQ.zero]⟩
    rw [hc1]
    simp only
    rw [hX.num]
    omega)
  refine ⟨K2, { c1 with q := PQ.zero }, exchT2 a1 a2 h0 (by omega) (by omega) (by omega) hpool a11 hdn, hu2, a4, a5, a6, by rw [a7]; rfl, hp2, rfl, by rw [hc1]; exact ⟨rfl, rfl, rfl⟩, by rw [a7]; exact a8.due, by rw [a7]; simp only [a8.nodes]; exact hX.hpn (by omega), by rw [a7]; simp only [a8.nr]; exact hX.pr0, ?_, by rw [a7]; rfl, by omega, by omega⟩
  rw [a7]
  show pr'.nr ≤ K.X.asked
  rw [a8.nr]; exact hX.prn
end
end Go.Proofs.YtnhjmiglegdamaaGreat

namespace Go.Proofs.YtnhjmiglegdamaaGreat
open Go.RowKit Go.Maps
attribute [local go_sem ↓] Go.wp_at_zero Go.wp_at_succ
theorem more_len {rs rs' : List Rc} {S S' : Nat → St} (h : MoreK rs S rs' S') : (flat rs).length ≤ (flat rs').length := by
  rcases h with ⟨e, _⟩ | ⟨r, s, e, _⟩
  · rw [e]; exact Nat.le_refl _
  · rw [e]; unfold flat; rw [List.flatMap_append, List.length_append]; omega
section
variable {P Q : Nat → Prop} {w w' w2 : World} {tag tag' tag2 : Nat → Nat} {g p q n m v : Nat} {ce : Int} {K : KW} {pv av lv cv hv : Value} {ps cs ls : List Value}
theorem PlAt.eq {i g g' : Nat} {mk mk' : Int} (h : PlAt ps n m i g mk) (k : PlAt ps n m i g' mk') : g' = g ∧ mk' = mk := by
  have h1 := h.2.1.symm.trans k.2.1
  have h2 := h.2.2.1.symm.trans k.2.2.1
  simp at h1 h2
  exact ⟨h1.symm, h2.symm⟩
/-- A unit turns. -/
theorem WdX.reUnit (h : WdX w tag g p q n m v ce K pv av lv cv hv ps cs ls) {u : Nat} (k : KSt (fun t => t = 10 + 3 * u ∨ t = 11 + 3 * u) w tag w' tag') (hu : u < n * m) (hnm : n * m + v ≤ 20) {gu : Nat} {mk : Int} (hat : PlAt ps n m u gu mk) {U : UQ} (hN : NodeOk w' tag' n m v ce (K.us.set u U) K.now u gu mk) : WdX w' tag' g p q n m v ce { K with us := K.us.set u U } pv av lv cv hv ps cs ls := by
  obtain ⟨hs, hh⟩ := h.ha
  refine ⟨(k.heap h.hg h.tg (by omega)).1, (k.heap h.hg h.tg (by omega)).2, ⟨h.pls.row.kst k (by omega), fun i hi => ?_⟩, h.ac.kst k (by omega), h.cl.kst k (by omega), h.ca.kst k (by omega) (by omega) (fun i _ => by omega), h.po.kst k (by omega) (by omega), hs, hh.kst k (by omega)⟩
  by_cases e : i = u
  · subst e; exact ⟨gu, mk, hat, hN⟩
  · obtain ⟨g', mk', e1, e2⟩ := h.pls.pl i hi
    exact ⟨g', mk', e1, (e2.kst k (by omega) (by omega) (by omega)).later (Int.le_refl _) (List.getElem?_set_ne (Ne.symm e))⟩
/-- The client turns. -/
theorem WdX.reCli (h : WdX w tag g p q n m v ce K pv av lv cv hv ps cs ls) (k : KSt (fun t => t = 5) w tag w' tag') {q' : Nat} {X' : CX} (hc : Cl w' tag' 5 p q' n m v ce 1000 X') : WdX w' tag' g p q' n m v ce { K with X := X' } pv av lv cv hv ps cs ls := by
  obtain ⟨hs, hh⟩ := h.ha
  exact ⟨(k.heap h.hg h.tg (by omega)).1, (k.heap h.hg h.tg (by omega)).2, h.pls.kst k (by omega) (fun i _ => by omega), h.ac.kst k (by omega), hc, h.ca.kst k (by omega) (by omega) (fun i _ => by omega), h.po.kst k (by omega) (by omega), hs, hh.kst k (by omega)⟩
theorem CStep.kst {X' : CX} (h : CStep w tag 5 p q n m v ce 1000 X' w') : KSt (fun t => t = 5) w tag w' (tagTo tag w.heap.size 5) := ⟨h.2.mono fun _ _ e => e.1, fun _ hb => tagTo_old _ _ _ _ hb⟩
theorem place_recv (h : WdX w tag g p q n m v ce K pv av lv cv hv ps cs ls) (hpl : PlsX w tag n m v ce K.us (K.now - 1) pv ps) {u kd nr pl : Int} {ct : Ct} (hOk : HandOk n m v ce K (.req u kd nr pl ct)) (hn : K.now ≤ 400000) (hnm : n * m + v ≤ 20) {gu : Nat} {mk : Int} (hat : PlAt ps n m u.toNat gu mk) (dv : Value) (hd : Pkt w dv (Ms.data (.req u kd nr pl ct))) :
    Calls Tryz.prog 100 #[.pointer (some ⟨gu, 0, none⟩), .int .i64 1000, dv] w fun en w' => en = .returned (.tuple #[]) ∧ ∃ tag', KSt (fun t => 10 ≤ t ∧ t < 80) w tag w' tag' ∧ WdX w' tag' g p q n m v ce (K.recv n m v ce (.req u kd nr pl ct)) pv av lv cv hv ps cs ls := by
  cases hOk with
  | req _ _ _ _ _ h0 h1 ok hkd hys hc hU =>
  have hun : u.toNat < n * m := by omega
  obtain ⟨g', mk', e1, e2⟩ := hpl.pl u.toNat (by omega)
  obtain ⟨rfl, rfl⟩ := hat.eq e1
  rcases e2 with ⟨_, U, rs, S, u1, u2, u3, u4, u5, u6⟩ | ⟨hge, _⟩
  · obtain ⟨hv1, hv2⟩ := hU U u1
    have hR := receive_any w tag _ _ _ g' n m v ce _ rs S _ u2 (by omega) (by omega) (by omega) (by rw [List.length_map]; omega) dv 1000 kd nr 0 pl ct.kd ct.cl ct.ca ct.val (by decide) (by decide) hd ok hkd hys hc (by omega) (uAns n m v ce u.toNat U.s kd pl ct) (by rw [u3]; rfl) hv1
    refine (fnodeReceive_w w g' 1000 dv _ hR).mono ?_
    rintro en w' ⟨rfl, rs', S', tag', t1, t2, t3, t4, t5, t6⟩
    have k : KSt (fun t => t = 10 + 3 * u.toNat ∨ t = 11 + 3 * u.toNat) w tag w' tag' := ⟨t6, t1⟩
    refine ⟨rfl, tag', k.mono fun t ht => by omega, ?_⟩
    have hl := more_len t2
    have := h.reUnit k hun hnm hat (U := ⟨(uAns n m v ce u.toNat U.s kd pl ct).2, U.q ++ [(nr, (uAns n m v ce u.toNat U.s kd pl ct).1)]⟩) (.inl ⟨hun, _, rs', S', List.getElem?_set_self (List.getElem?_eq_some_iff.1 u1).1, by rw [List.map_append]; exact t5, t3, u4, by omega, by omega⟩)
    simp only [KW.recv, u1]
    exact this
  · omega
theorem client_recv (h : WdX w tag g p q n m v ce K pv av lv cv hv ps cs ls) {u : Nat} {nr : Int} {A : An} (hOk : HandOk n m v ce K (.rep u nr A)) (dv : Value) (hd : Pkt w dv (Ms.data (.rep u nr A))) (hdt : ∀ b, dv.ownBlock = some b → tag b ≠ 5) :
    Calls Tryz.prog 101 #[.pointer (some ⟨p, 0, none⟩), .int .i64 u, dv] w fun en w' => en = .returned (.tuple #[]) ∧ ∃ tag', KSt (fun t => t = 5) w tag w' tag' ∧ WdX w' tag' g p q n m v ce (K.recv n m v ce (.rep u nr A)) pv av lv cv hv ps cs ls := by
  cases hOk with
  | rep _ _ _ h1 hR ok =>
  obtain ⟨lv, rv, vv, nv, av, bm, born, clk, hcl⟩ := h.cl
  refine (fcl_receive u dv _ (cl_receive hcl u nr A hR dv hd ok hdt)).mono ?_
  rintro en w' ⟨rfl, hS⟩
  exact ⟨rfl, _, hS.kst, h.reCli hS.kst hS.1⟩
end
end Go.Proofs.YtnhjmiglegdamaaGreat

namespace Go.Proofs.YtnhjmiglegdamaaGreat
open Go.RowKit Go.Maps
attribute [local go_sem ↓] Go.wp_at_zero Go.wp_at_succ
/-- The marks that a hand turns. -/
def Ph (t : Nat) : Prop := t = 1 ∨ t = 4 ∨ t = 5 ∨ t = 9 ∨ (10 ≤ t ∧ t < 80)
/-- What a hand has in hand: the letter, a copy of its bytes, the bytes themselves. -/
structure HF (w : World) (tag : Nat → Nat) (wr : World) (tag' : Nat → Nat) (gl gd cap : Nat) (fr tt : Int) (dv : Value) (D : List Int) : Prop where
  k : KSt Ph w tag wr tag'
  box : wr.heap[gl]? = some (.cells #[.int .i64 fr, .int .i64 tt, dv] 135 (0, 0))
  tb : tag' gl = 9
  data : RowT wr tag' 9 5 1 (.slice (some ⟨gd, 0, none⟩) D.length cap) D.length (D.map B8)
  src : Rd wr tag' 98 5 dv (D.map B8)
theorem HF.step {w wr wr2 : World} {tag tag' tag2 : Nat → Nat} {gl gd cap : Nat} {fr tt : Int} {dv : Value} {D : List Int} (h : HF w tag wr tag' gl gd cap fr tt dv D) (k2 : KSt (fun t => t = 5 ∨ (10 ≤ t ∧ t < 80)) wr tag' wr2 tag2) : HF w tag wr2 tag2 gl gd cap fr tt dv D :=
  ⟨h.k.trans (k2.mono fun t e => by unfold Ph; omega), (k2.heap h.box h.tb (by omega)).1, (k2.heap h.box h.tb (by omega)).2, h.data.kst k2 (by omega), h.src.kst k2 (by omega)⟩
theorem HF.pkt {w wr : World} {tag tag' : Nat → Nat} {gl gd cap : Nat} {fr tt : Int} {dv : Value} {D : List Int} (h : HF w tag wr tag' gl gd cap fr tt dv D) (h0 : 0 < D.length) : Pkt wr (.slice (some ⟨gd, 0, none⟩) D.length cap) D := by
  obtain ⟨g', cap', cur, e1, _, e3, _, e5, e6⟩ := h.data.block h0
  simp only [Value.slice.injEq, Option.some.injEq, Addr.mk.injEq, and_true, true_and] at e1
  obtain ⟨rfl, rfl⟩ := e1
  refine ⟨gd, 0, cap, rfl, e3, e5, by unfold maxLen at e6; omega, fun j d hd => ?_⟩
  have hj := (List.getElem?_eq_some_iff.1 hd).1
  rw [Nat.zero_add, h.data.own.cellAt j (by omega), List.getElem?_map, hd]
  rfl
theorem HandOk.now {n m v : Nat} {ce : Int} {K : KW} {l : Ms} (h : HandOk n m v ce K l) (t : Int) : HandOk n m v ce { K with now := t } l := by
  cases h with
  | req u kd nr pl ct h0 h1 ok hkd hys hc hU => exact .req u kd nr pl ct h0 h1 ok hkd hys hc hU
  | rep u nr A h1 hR ok => exact .rep u nr A h1 hR ok
theorem HandOk.to {n m v : Nat} {ce : Int} {K : KW} {l : Ms} (h : HandOk n m v ce K l) : (0 ≤ l.to ∧ l.to < (n * m : Nat)) ∨ l.to = 1000 := by
  cases h with
  | req u kd nr pl ct h0 h1 ok hkd hys hc hU => exact .inl ⟨h0, h1⟩
  | rep u nr A h1 hR ok => exact .inr rfl
theorem HandOk.len {n m v : Nat} {ce : Int} {K : KW} {l : Ms} (h : HandOk n m v ce K l) : 3 ≤ l.data.length ∧ l.data.length ≤ 600 ∧ Byt l.data := by
  cases h with
  | req u kd nr pl ct h0 h1 ok hkd hys hc hU =>
    refine ⟨?_, ?_, fun d hd => Rc.range ok d hd⟩
    · simp only [Ms.data, recB_len]; omega
    · have := ok.v1; simp only [Ms.data, recB_len]; simp at this ⊢; omega
  | rep u nr A h1 hR ok =>
    refine ⟨?_, ?_, fun d hd => Rc.range ok d hd⟩
    · simp only [Ms.data, repB, recB_len]; omega
    · have := ok.v1; simp only [Ms.data, repB, recB_len]; simp at this ⊢; omega
theorem free_one (n m v k t : Nat) (ht : t = 0 ∨ t = 6 ∨ t = 9) : Free n m v k (fun s => s = t) := ⟨by omega, by omega, by omega, by omega, by omega, by omega, by omega, by omega, by omega, fun i _ => by omega, fun i _ => by omega⟩
theorem recv_now {n m v : Nat} {ce : Int} (K : KW) (l : Ms) (t : Int) : ({ K with now := t } : KW).recv n m v ce l = { K.recv n m v ce l with now := t } := by
  cases l with
  | req u kd nr pl ct =>
    unfold KW.recv
    simp only
    split <;> rfl
  | rep u nr A => rfl
section
variable {w : World} {tag : Nat → Nat} {g p q n m v : Nat} {ce : Int} {K : KW} {pv av lv cv hv : Value} {ps cs ls : List Value}
set_option maxRecDepth 100000 in
set_option maxHeartbeats 4000000 in
theorem hand_any (h : WdX w tag g p q n m v ce K pv av lv cv hv ps cs ls) (l : Ms) (dv : Value) (hd : Rd w tag 98 5 dv (l.data.map B8)) (hOk : HandOk n m v ce K l) (hW : WatchOk { K.recv n m v ce l with now := K.now + 1 }) (hnm : n * m + v ≤ 20) (hnow : 0 ≤ K.now ∧ K.now + 1 ≤ 400000) :
    Calls Tryz.prog 66 #[.pointer (some ⟨g, 0, none⟩), .agg #[.int .i64 l.fr, .int .i64 l.to, dv]] w fun en w' => en = .returned (.bool true) ∧ ∃ tag', KSt Ph w tag w' tag' ∧ ∃ cs', WdX w' tag' g p q n m v ce (K.hand n m v ce l) pv av lv cv hv ps cs' ls := by
  obtain ⟨i5, ji, jz0, jz1, jz2⟩ := info_parts Tryz.info5
  obtain ⟨pa, pc, hpv⟩ := h.pls.row.shape
  obtain ⟨aa, ac, rfl⟩ := h.ac.shape
  obtain ⟨ab, rfl, _⟩ := h.ac.cells (by decide)
  obtain ⟨N, hN⟩ : ∃ N, n * m + v = N := ⟨_, rfl⟩
  rw [hN] at hpv
  subst hpv
  obtain ⟨hl3, hl6, hby⟩ := hOk.len
  have hto := hOk.to
  obtain ⟨db, dof, dc, rfl, ldb, _, _, hdc⟩ := hd.cell (by rw [List.length_map]; omega)
  rw [List.length_map] at hd
  simp only [List.length_map]
  obtain ⟨D, hD⟩ : ∃ D, l.data = D := ⟨_, rfl⟩
  obtain ⟨fr, hfr⟩ : ∃ fr, l.fr = fr := ⟨_, rfl⟩
  obtain ⟨tt, htt⟩ : ∃ tt, l.to = tt := ⟨_, rfl⟩
  obtain ⟨K0, hK0⟩ : ∃ K0, ({ K with now := K.now + 1 } : KW) = K0 := ⟨_, rfl⟩
  obtain ⟨KR, hKR⟩ : ∃ KR, K0.recv n m v ce l = KR := ⟨_, rfl⟩
  have hrn : ({ K.recv n m v ce l with now := K.now + 1 } : KW) = KR := by rw [← hKR, ← hK0]; exact (recv_now K l _).symm
  have Hhand : Hid (K.hand n m v ce l = KR.watch) := by unfold Hid KW.hand; rw [hrn]
  rw [hrn] at hW
  -- what a node or the client makes of it
  have HR1 : Hid (∀ (k gu : Nat) (mk : Int) (W : World) (tagW : Nat → Nat) (cap gd : Nat), (k : Int) = tt → k < n * m → WdX W tagW g p q n m v ce K0 (.slice pa N pc) (.slice (some ⟨ab, 0, none⟩) 1 ac) lv cv hv ps cs ls → PlsX W tagW n m v ce K.us K.now (.slice pa N pc) ps → PlAt ps n m k gu mk → Pkt W (.slice (some ⟨gd, 0, none⟩) D.length cap) D → Calls Tryz.prog 100 #[.pointer (some ⟨gu, 0, none⟩), .int .i64 fr, .slice (some ⟨gd, 0, none⟩) D.length cap] W fun en w' => en = .returned (.tuple #[]) ∧ ∃ tag', KSt (fun t => 10 ≤ t ∧ t < 80) W tagW w' tag' ∧ WdX w' tag' g p q n m v ce KR (.slice pa N pc) (.slice (some ⟨ab, 0, none⟩) 1 ac) lv cv hv ps cs ls) := by
    intro k gu mk W tagW cap gd hk hkn hX hP hat hpk
    have hOk0 := hOk.now (K.now + 1)
    rw [hK0] at hOk0
    subst hKR hD hfr htt
    cases l with
    | req u kd nr pl ct =>
      have hu : u.toNat = k := by have : (k : Int) = u := hk; omega
      exact place_recv hX (by rw [← hK0]; simp only [Int.add_sub_cancel]; exact hP) hOk0 (by rw [← hK0]; simp only; omega) hnm (by rw [hu]; exact hat) _ hpk
    | rep u nr A =>
      have : (k : Int) = 1000 := hk
      omega
  have HR2 : Hid (tt = 1000 → ∀ (W : World) (tagW : Nat → Nat) (cap gd : Nat), WdX W tagW g p q n m v ce K0 (.slice pa N pc) (.slice (some ⟨ab, 0, none⟩) 1 ac) lv cv hv ps cs ls → Pkt W (.slice (some ⟨gd, 0, none⟩) D.length cap) D → tagW gd ≠ 5 → Calls Tryz.prog 101 #[.pointer (some ⟨p, 0, none⟩), .int .i64 fr, .slice (some ⟨gd, 0, none⟩) D.length cap] W fun en w' => en = .returned (.tuple #[]) ∧ ∃ tag', KSt (fun t => t = 5) W tagW w' tag' ∧ WdX w' tag' g p q n m v ce KR (.slice pa N pc) (.slice (some ⟨ab, 0, none⟩) 1 ac) lv cv hv ps cs ls) := by
    intro ht W tagW cap gd hX hpk htg
    have hOk0 := hOk.now (K.now + 1)
    rw [hK0] at hOk0
    subst hKR hD hfr htt
    cases l with
    | req u kd nr pl ct =>
      have : u = 1000 := ht
      cases hOk with
      | req _ _ _ _ _ h0 h1 => omega
    | rep u nr A =>
      refine client_recv hX hOk0 _ hpk fun b hb => ?_
      have e : gd = b := by simpa [Value.ownBlock] using hb
      rw [← e]; exact htg
  rw [hD] at hl3 hl6 hby hd ⊢
  rw [hfr, htt]
  rw [htt] at hto
  have HWO := hid hW
  clear hOk hW hrn hKR hdc hD hfr htt
  -- the letter, and the time
  obtain ⟨W1, hW1⟩ : ∃ W1, w.alloc (.cells #[.int .i64 fr, .int .i64 tt, .slice (some ⟨db, dof, none⟩) D.length dc] 135) = W1 := ⟨_, rfl⟩
  have b1 := (Bl.refl w).alloc (.cells #[.int .i64 fr, .int .i64 tt, .slice (some ⟨db, dof, none⟩) D.length dc] 135)
  have hbx1 := heap_alloc_new w (.cells #[.int .i64 fr, .int .i64 tt, .slice (some ⟨db, dof, none⟩) D.length dc] 135)
  rw [hW1] at b1 hbx1
  have h1 := h.bl (tag' := tagTo tag w.heap.size 9) b1 (fun b hb => tagTo_old _ _ _ _ hb)
  have k1 : KSt Ph w tag W1 (tagTo tag w.heap.size 9) := KSt.of_bl b1 9
  have d1 : Rd W1 (tagTo tag w.heap.size 9) 98 5 (.slice (some ⟨db, dof, none⟩) D.length dc) (D.map B8) := hd.bl b1 (fun b hb e => by rw [tagTo_old _ _ _ _ hb]; exact e)
  have t1 : tagTo tag w.heap.size 9 w.heap.size = 9 := tagTo_new _ _ _ _ (Nat.le_refl _)
  have c8 := h1.cellAt 8 rfl
  have f8 := frozen_of_row W1 g 8 _ 66 h1.hg
  have lg1 := h1.lt
  have p1 := h1.pls
  have h2 := h1.setNow (K.now + 1) (by omega)
  have k2 : KSt (fun s => s = 1) W1 (tagTo tag w.heap.size 9) (W1.setCell ⟨g, 8, none⟩ (.int .i64 (K.now + 1))) (tagTo tag w.heap.size 9) := kst_set h1.tg 8 _
  obtain ⟨W2, hW2⟩ : ∃ W2, W1.setCell ⟨g, 8, none⟩ (.int .i64 (K.now + 1)) = W2 := ⟨_, rfl⟩
  rw [hW2] at h2 k2
  rw [hK0] at h2
  have hbx2 := k2.heap hbx1 t1 (by omega)
  have p2 := p1.kst k2 (by omega) (fun i _ => by omega)
  have d2 := d1.kst k2 (by omega)
  have K2 := k1.trans (k2.mono (Q := Ph) fun t e => .inl e)
  have hwrap : IntKind.i64.wrap (K.now + 1) = K.now + 1 := by rw [IntKind.wrap_i64]; omega
  have HPt := hid (parted_any h2 fr tt (some ⟨db, dof, none⟩) D.length dc)
  have lg2 := h2.lt
  have lbx2 : w.heap.size < W2.heap.size := (Array.getElem?_eq_some_iff.1 hbx2.1).1
  have x0 : W2.cell? ⟨w.heap.size, 0, none⟩ = some (.int .i64 fr) := cell_of_row W2 _ 0 _ 135 (0, 0) hbx2.1
  have x1 : W2.cell? ⟨w.heap.size, 1, none⟩ = some (.int .i64 tt) := cell_of_row W2 _ 1 _ 135 (0, 0) hbx2.1
  have x2 : W2.cell? ⟨w.heap.size, 2, none⟩ = some (.slice (some ⟨db, dof, none⟩) D.length dc) := cell_of_row W2 _ 2 _ 135 (0, 0) hbx2.1
  have HX2 := hid (And.intro hbx2 (And.intro p2 (And.intro d2 (And.intro K2 h2))))
  have HW1 := hid hW1
  have HW2 := hid hW2
  have HBY := hid hby
  clear b1 hbx1 h1 k1 d1 p1 h2 k2 hbx2 p2 d2 K2 hW1 hW2 h hd hby
  go_enter Tryz.func66, Tryz.ntmps66
  go_upto_region 1 with fail
  rw [HW1.out]
  go_upto_region 2 with fail
  rw [HW2.out]
  clear HW1 HW2 c8 f8
  go_upto_region 6 with (go_at_call 99; refine HPt.out.mono ?_; rintro en w3 ⟨rfl, hb3⟩; have HB3 := hid hb3; have lbx3 := Nat.lt_of_lt_of_le lbx2 hb3.lt; have z2 := (hb3.cell lbx2).trans x2; clear hb3)
  have HN : Hid (w3.ownsRow w3.heap.size 5 1 (.slice none 0 0) 0 []) := World.ownsRow_nil _ _ _ _
  have HBs := hid ((HX2.out.2.2.1.bl HB3.out (fun _ _ e => e)).bs)
  have hml : Hid (0 + (D.map B8).length ≤ maxLen) := by unfold Hid maxLen; rw [List.length_map]; omega
  have hby2 : Hid ((0 + (D.map B8).length) * 1 ≤ 140737488355328) := by unfold Hid; rw [List.length_map]; omega
  go_wp2_with (at_builtin; refine wpList_append_bs _ rfl _ _ 40 rfl w3.heap.size 5 i5 (.int .u8 0) 1 Tryz.underlying40 ji jz0 jz1 jz2 rfl _ 0 [] rfl HN.out _ _ rfl HBs.out (b8_one D) hml.out hby2.out (by simp) ?_)
  intro v' w4 hG
  obtain ⟨gd, cap, hv'⟩ : ∃ gd cap, v' = .slice (some ⟨gd, 0, none⟩) D.length cap := by
    rcases hG.own.2 with ⟨_, e⟩ | ⟨g, cap, cur, e, _⟩
    · omega
    · exact ⟨g, cap, e⟩
  subst hv'
  have b4 : Bl W2 w4 := HB3.out.trans (hG.only.to_bl fun k _ e => by simp [Value.ownBlock] at e)
  have lgd : w.heap.size ≤ gd := by have := (hG.own.lt gd rfl).1; omega
  have ht9 : tagTo tag w.heap.size 9 gd = 9 := tagTo_new _ _ _ _ lgd
  have HFs : Hid (HF w tag w4 (tagTo tag w.heap.size 9) w.heap.size gd cap fr tt (.slice (some ⟨db, dof, none⟩) D.length dc) D) := ⟨HX2.out.2.2.2.1.trans (KSt.of_bl' b4 fun _ _ => rfl), (b4.heap lbx2).trans HX2.out.1.1, HX2.out.1.2, ⟨ownsRow_base hG.own fun _ _ => Nat.zero_le _, fun b hb => by rw [← (show gd = b by simpa [Value.ownBlock] using hb)]; exact ht9⟩, HX2.out.2.2.1.bl b4 (fun _ _ e => e)⟩
  have HX4 := hid (HX2.out.2.2.2.2.bl (tag' := tagTo tag w.heap.size 9) b4 fun _ _ => rfl)
  have HP4 : Hid (PlsX w4 (tagTo tag w.heap.size 9) n m v ce K.us K.now (.slice pa N pc) ps) := HX2.out.2.1.kst (P := fun _ => False) (KSt.of_bl' b4 fun _ _ => rfl) (by simp) (fun _ _ => by simp)
  clear hG b4 HX2 HB3 HN HBs hml hby2 HPt x0 x1 x2 z2 lbx3 lbx2 lg2 lgd ht9
  have HK0 := hid hK0
  clear hK0
  go_wp2
  go_loopw [7] (fun i wr => ∃ (k : Nat) (tag' : Nat → Nat), k ≤ N ∧ i = .int .i64 k ∧ Hid (HF w tag wr tag' w.heap.size gd cap fr tt (.slice (some ⟨db, dof, none⟩) D.length dc) D) ∧ (tt < k → Hid (WdX wr tag' g p q n m v ce KR (.slice pa N pc) (.slice (some ⟨ab, 0, none⟩) 1 ac) lv cv hv ps cs ls)) ∧ (¬ tt < k → Hid (WdX wr tag' g p q n m v ce K0 (.slice pa N pc) (.slice (some ⟨ab, 0, none⟩) 1 ac) lv cv hv ps cs ls ∧ PlsX wr tag' n m v ce K.us K.now (.slice pa N pc) ps))) (fun i _ => N - (Go.RowKit.intOf i).toNat)
  case atStart => exact ⟨0, _, Nat.zero_le _, rfl, HFs, fun e => by omega, fun _ => ⟨HX4.out, HP4.out⟩⟩
  case round =>
    clear HFs HX4 HP4
    obtain ⟨k, tag', hk, rfl, HFk, HA, HB⟩ := hrel
    obtain ⟨Kc, HWc⟩ : ∃ Kc, Hid (WdX wr tag' g p q n m v ce Kc (.slice pa N pc) (.slice (some ⟨ab, 0, none⟩) 1 ac) lv cv hv ps cs ls) := by
      by_cases e : tt < k
      · exact ⟨KR, HA e⟩
      · exact ⟨K0, (HB e).out.1⟩
    have c4 := HWc.out.cellAt 4 rfl
    have lgr := HWc.out.lt
    have HAB := hid (And.intro HA HB)
    clear HA HB
    by_cases hlt : k < N
    · have hltI : (k : Int) < (N : Int) := by omega
      have hrow := HWc.out.pls.row
      rw [hN] at hrow
      obtain ⟨pb, rfl, _, lpb, hpce, _⟩ := hrow.cells (by omega)
      obtain ⟨gu, mk, hat, _⟩ := HWc.out.pls.pl k (by omega)
      have Hat := hid hat
      obtain ⟨e0, e1, e2, e3, e4⟩ := hat
      have d0 := (hpce (k * 5) (by omega)).trans e0
      have d1 := (hpce (k * 5 + 1) (by omega)).trans e1
      have d3 := (hpce (k * 5 + 3) (by omega)).trans e3
      have lbx : w.heap.size < wr.heap.size := (Array.getElem?_eq_some_iff.1 HFk.out.box).1
      have x0 : wr.cell? ⟨w.heap.size, 0, none⟩ = some (.int .i64 fr) := cell_of_row wr _ 0 _ 135 (0, 0) HFk.out.box
      have x1 : wr.cell? ⟨w.heap.size, 1, none⟩ = some (.int .i64 tt) := cell_of_row wr _ 1 _ 135 (0, 0) HFk.out.box
      have hidk : plId n m k = tt ↔ (k : Int) = tt := by
        unfold plId
        by_cases hkm : k < n * m
        · rw [if_pos hkm]
        · rw [if_neg hkm]; omega
      generalize plId n m k = idk at *
      have Hidk := hid hidk
      clear hpce e0 e1 e2 e3 e4 hrow hidk
      by_cases heq : idk = tt
      · have hkt := Hidk.out.1 heq
        have hnlt : ¬ tt < (k : Int) := by omega
        have hkm : k < n * m := by omega
        have HRk : Hid (∀ W, Bl wr W → Calls Tryz.prog 100 #[.pointer (some ⟨gu, 0, none⟩), .int .i64 fr, .slice (some ⟨gd, 0, none⟩) D.length cap] W fun en w' => en = .returned (.tuple #[]) ∧ ∃ tag2, KSt (fun t => 10 ≤ t ∧ t < 80) wr tag' w' tag2 ∧ WdX w' tag2 g p q n m v ce KR (.slice (some ⟨pb, 0, none⟩) N pc) (.slice (some ⟨ab, 0, none⟩) 1 ac) lv cv hv ps cs ls) := by
          intro W hbW
          have hB := (HAB.out.2 hnlt).out
          refine (HR1.out k gu mk W tag' cap gd hkt hkm (hB.1.bl hbW fun _ _ => rfl) (hB.2.kst (P := fun _ => False) (KSt.of_bl' hbW fun _ _ => rfl) (by simp) (fun _ _ => by simp)) Hat.out ((HFk.out.pkt (by omega)).bl hbW)).mono ?_
          rintro en w' ⟨rfl, tag2, k2, hX⟩
          exact ⟨rfl, tag2, (KSt.of_bl' hbW fun _ _ => rfl).trans k2, hX⟩
        have Hkt := hid hkt
        rw [heq] at d0
        clear heq hkt Hidk
        go_upto_region 10 with fail
        go_quiet (fail)
        go_upto_region 11 with fail
        go_region_with (go_at_call 100; refine (HRk.out _ ?hb).mono ?_; (case hb => repeat (first | exact Bl.refl _ | refine Bl.drew ?_ | refine Bl.drewN ?_ _)); rintro en w5 ⟨rfl, tag2, k2, hX⟩; have HK2 := hid k2; have HX2 := hid hX; clear k2 hX)
        all_goals (go_wp2)
        all_goals (refine ⟨⟨k + 1, tag2, by omega, by go_num, HFk.out.step (HK2.out.mono fun t e => .inr e), fun _ => HX2, fun e => absurd (by have := Hkt.out; omega) e⟩, by simp [Go.RowKit.intOf]; omega⟩)
      · have hne : decide (idk = tt) = false := by simpa using heq
        have hkt : (k : Int) ≠ tt := fun e => heq (Hidk.out.2 e)
        go_upto_region 10 with fail
        go_quiet (fail)
        go_wp2
        have hF2 := HFk.out.step (KSt.of_bl' ((Bl.refl wr).drewN nq) fun _ _ => rfl)
        refine ⟨⟨k + 1, tag', by omega, by go_num, hF2, fun e => ?_, fun e => ?_⟩, by simp [Go.RowKit.intOf]; omega⟩
        · exact (HAB.out.1 (by omega)).out.bl ((Bl.refl wr).drewN nq) fun _ _ => rfl
        · have := (HAB.out.2 (by omega)).out
          exact ⟨this.1.bl ((Bl.refl wr).drewN nq) fun _ _ => rfl, this.2.kst (P := fun _ => False) (KSt.of_bl' ((Bl.refl wr).drewN nq) fun _ _ => rfl) (by simp) (fun _ _ => by simp)⟩
    · have hge : ¬ ((k : Int) < (N : Int)) := by omega
      have hkn : k = N := by omega
      have HY1 : tt ≠ 1000 → Hid (WdX wr tag' g p q n m v ce KR (.slice pa N pc) (.slice (some ⟨ab, 0, none⟩) 1 ac) lv cv hv ps cs ls) := fun e => HAB.out.1 (by omega)
      have HY2 : tt = 1000 → Hid (WdX wr tag' g p q n m v ce K0 (.slice pa N pc) (.slice (some ⟨ab, 0, none⟩) 1 ac) lv cv hv ps cs ls) := fun e => (HAB.out.2 (by omega)).out.1
      have HY := hid (And.intro HY1 HY2)
      clear HAB HWc Kc HY1 HY2
      go_wp2
      go_loopw [8] (fun i wx => ∃ (j : Int) (tag2 : Nat → Nat), (j = 0 ∨ j = 1) ∧ i = .int .i64 j ∧ Hid (HF w tag wx tag2 w.heap.size gd cap fr tt (.slice (some ⟨db, dof, none⟩) D.length dc) D) ∧ ((j = 1 ∨ tt ≠ 1000) → Hid (WdX wx tag2 g p q n m v ce KR (.slice pa N pc) (.slice (some ⟨ab, 0, none⟩) 1 ac) lv cv hv ps cs ls)) ∧ (j = 0 → tt = 1000 → Hid (WdX wx tag2 g p q n m v ce K0 (.slice pa N pc) (.slice (some ⟨ab, 0, none⟩) 1 ac) lv cv hv ps cs ls))) (fun i _ => 1 - (Go.RowKit.intOf i).toNat)
      case atStart => exact ⟨0, tag', .inl rfl, rfl, HFk, fun e => HY.out.1 (by omega), fun _ e => HY.out.2 e⟩
      case round =>
        clear HFk HY c4 lgr tag' hk hge hkn
        obtain ⟨j, tag', hj, rfl, HFk, HA, HB⟩ := hrel
        obtain ⟨Kc, HWc⟩ : ∃ Kc, Hid (WdX wr tag' g p q n m v ce Kc (.slice pa N pc) (.slice (some ⟨ab, 0, none⟩) 1 ac) lv cv hv ps cs ls) := by
          by_cases e : j = 1 ∨ tt ≠ 1000
          · exact ⟨KR, HA e⟩
          · exact ⟨K0, HB (by omega) (by omega)⟩
        have c5 := HWc.out.cellAt 5 rfl
        have lgr := HWc.out.lt
        have HAB := hid (And.intro HA HB)
        clear HA HB
        rcases hj with rfl | rfl
        · obtain ⟨ab', eab, _, lab, hace, _⟩ := HWc.out.ac.cells (by decide)
          simp only [Option.some.injEq, Addr.mk.injEq, and_true] at eab
          subst eab
          have a0 := hace 0 (by decide)
          have a1 := hace 1 (by decide)
          have a2 := hace 2 (by decide)
          simp only [List.getElem?_cons_zero, List.getElem?_cons_succ] at a0 a1 a2
          have lbx : w.heap.size < wr.heap.size := (Array.getElem?_eq_some_iff.1 HFk.out.box).1
          have x0 : wr.cell? ⟨w.heap.size, 0, none⟩ = some (.int .i64 fr) := cell_of_row wr _ 0 _ 135 (0, 0) HFk.out.box
          have x1 : wr.cell? ⟨w.heap.size, 1, none⟩ = some (.int .i64 tt) := cell_of_row wr _ 1 _ 135 (0, 0) HFk.out.box
          clear hace
          by_cases heq : tt = 1000
          · have HRk : Hid (∀ W, Bl wr W → Calls Tryz.prog 101 #[.pointer (some ⟨p, 0, none⟩), .int .i64 fr, .slice (some ⟨gd, 0, none⟩) D.length cap] W fun en w' => en = .returned (.tuple #[]) ∧ ∃ tag2, KSt (fun t => t = 5) wr tag' w' tag2 ∧ WdX w' tag2 g p q n m v ce KR (.slice pa N pc) (.slice (some ⟨ab, 0, none⟩) 1 ac) lv cv hv ps cs ls) := by
              intro W hbW
              refine (HR2.out heq W tag' cap gd ((HAB.out.2 rfl heq).out.bl hbW fun _ _ => rfl) ((HFk.out.pkt (by omega)).bl hbW) (by rw [HFk.out.data.tag gd rfl]; omega)).mono ?_
              rintro en w' ⟨rfl, tag2, k2, hX⟩
              exact ⟨rfl, tag2, (KSt.of_bl' hbW fun _ _ => rfl).trans k2, hX⟩
            rw [heq] at x1
            have Hheq := hid heq
            clear heq
            go_upto_region 15 with fail
            go_quiet (fail)
            go_upto_region 16 with fail
            go_region_with (go_at_call 101; refine (HRk.out _ ?hb).mono ?_; (case hb => repeat (first | exact Bl.refl _ | refine Bl.drew ?_ | refine Bl.drewN ?_ _)); rintro en w5 ⟨rfl, tag2, k2, hX⟩; have HK2 := hid k2; have HX2 := hid hX; clear k2 hX)
            all_goals (go_wp2)
            all_goals (refine ⟨⟨1, tag2, .inr rfl, by go_num, HFk.out.step (HK2.out.mono fun t e => .inl e), fun _ => HX2, fun e => absurd e (by decide)⟩, by simp [Go.RowKit.intOf]⟩)
          · obtain ⟨id0, hid0⟩ : ∃ id0 : Int, (1000 : Int) = id0 := ⟨_, rfl⟩
            have hne0 : ¬ id0 = tt := by omega
            have hne : decide (id0 = tt) = false := by simpa using hne0
            rw [hid0] at a0
            have Hne := hid heq
            clear heq hid0
            go_upto_region 15 with fail
            go_quiet (fail)
            go_wp2
            have hF2 := HFk.out.step (KSt.of_bl' ((Bl.refl wr).drewN nq) fun _ _ => rfl)
            refine ⟨⟨1, tag', .inr rfl, by go_num, hF2, fun e => ?_, fun e => absurd e (by decide)⟩, by simp [Go.RowKit.intOf]⟩
            exact (HAB.out.1 (.inr Hne.out)).out.bl ((Bl.refl wr).drewN nq) fun _ _ => rfl
        · have HXR := HAB.out.1 (.inl rfl)
          clear HAB HWc Kc
          have lbx : w.heap.size < wr.heap.size := (Array.getElem?_eq_some_iff.1 HFk.out.box).1
          have x2 : wr.cell? ⟨w.heap.size, 2, none⟩ = some (.slice (some ⟨db, dof, none⟩) D.length dc) := cell_of_row wr _ 2 _ 135 (0, 0) HFk.out.box
          have v1 := conv_any _ D wr HFk.out.src.bs.sl
          have v2 := conv_any _ D wr (ownsRow_sl HFk.out.data.own)
          have HXF := hid (And.intro HFk.out.k HFk.out.data)
          clear HFk
          go_wp2
          go_loopw [10] (fun i wx => ∃ (j : Nat) (ds : List Value), j ≤ D.length ∧ i = .int .i64 j ∧ ds.length = D.length ∧ Hid (KSt Ph w tag wx tag') ∧ Hid (RowT wx tag' 9 5 1 (.slice (some ⟨gd, 0, none⟩) D.length cap) D.length ds) ∧ Hid (WdX wx tag' g p q n m v ce KR (.slice pa N pc) (.slice (some ⟨ab, 0, none⟩) 1 ac) lv cv hv ps cs ls)) (fun i _ => D.length - (Go.RowKit.intOf i).toNat)
          case atStart => exact ⟨0, D.map B8, Nat.zero_le _, rfl, by simp, HXF.out.1, HXF.out.2, HXR⟩
          case round =>
            clear HXF HXR v1 v2 x2 lbx c5 lgr
            obtain ⟨j, ds, hj, rfl, hdl, HKx, HRx, HXx⟩ := hrel
            by_cases hjl : j < D.length
            · have hjI : (j : Int) < (D.length : Int) := by omega
              obtain ⟨gd', eg, tgd, lgd, hgc, hgf⟩ := HRx.out.cells (by omega)
              simp only [Option.some.injEq, Addr.mk.injEq, and_true] at eg
              subst eg
              have y0 := (hgc j (by omega)).trans (List.getElem?_eq_getElem (by omega))
              have y1 := hgf j
              generalize ds[j] = dj at *
              clear hgc hgf
              go_wp2
              have kset : KSt (fun s => s = 9) wr tag' (wr.setCell ⟨gd, j, none⟩ (.int .u8 88)) tag' := kst_set tgd j _
              exact ⟨⟨j + 1, ds.set j (.int .u8 88), by omega, by go_num, by simpa using hdl, HKx.out.trans (kset.mono fun t e => .inr (.inr (.inr (.inl e)))), ⟨own_set HRx.out.own j _, HRx.out.tag⟩, HXx.out.kst kset (free_one _ _ _ _ 9 (by omega))⟩, by simp [Go.RowKit.intOf]; omega⟩
            · have hjge : ¬ ((j : Int) < (D.length : Int)) := by omega
              have HWO2 := hid (watch_any HXx.out HWO.out hnm)
              go_wp2_with (go_at_call 53; refine HWO2.out.mono ?_; rintro en w9 ⟨rfl, tag9, k9, cs9, h9⟩; have HK9 := hid k9; have H9 := hid h9; clear k9 h9)
              go_ret
              exact ⟨rfl, tag9, HKx.out.trans (HK9.out.mono fun t e => by unfold P14 at e; unfold Ph; omega), cs9, by rw [Hhand.out]; exact H9.out⟩
end
end Go.Proofs.YtnhjmiglegdamaaGreat
