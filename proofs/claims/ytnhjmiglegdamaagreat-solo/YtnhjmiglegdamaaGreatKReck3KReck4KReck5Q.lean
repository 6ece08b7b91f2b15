-- Looking at a chain, without a program.
-- A whole call, from its question to its end, without a program.
-- Writing along a chain, without a program.
import Derived.Test.YtnhjmiglegdamaaGreatKDblKLogKReckKReck2Q
namespace Go.Proofs.YtnhjmiglegdamaaGreat
open Go.RowKit Go.Maps
section
variable {n m v : Nat} {ce : Int} {past : List PK} {d : PK}
/-- What a look tells. -/
def lookR (L : Nat → Ct) (a : Nat) : Rz := if (L a).kd = 0 then ⟨3, 0, []⟩ else told (L a)
theorem chainOf_is (n m a : Nat) : chainOf n m (a : Int) = nodesOf (a % n * m) m := by
  unfold chainOf nodesOf
  apply List.map_congr_left
  intro i _
  simp
/-- A chain is looked at; nothing is trimmed there. -/
theorem dblR {K : KW} {L : Nat → Ct} {mark : Int} (hus : K.us = usOf (n * m) fun u => ⟨uS n L mark (u / m), []⟩) (hpool : K.pool = []) {c : PC} {b : Bool} (hX : AskOk n m K.X c b past.length) {a : Nat} (hA : AdOk n m v ce a) (hmk : ¬ (a : Int) < mark) (hm : Sm mark) (hL : LOk L (past.length + 1)) (hq : c.q = ⟨3, c.q.nr, a, no, nodesOf (a % n * m) m, true, []⟩)
    (hNt : Nt past d K) (hn : K.now + 8 * (n * m : Nat) ≤ 400000) :
    ∃ K1 K2 pr', Step1 n m v ce K K1 ∧ Step1 n m v ce K1 K2 ∧ K2.us = usOf (n * m) (fun u => ⟨uS n L mark (u / m), []⟩) ∧ K2.pool = [] ∧ K2.had = K.had ∧ Nt past d K2 ∧ K2.X = ⟨K.X.asked, K.X.res.set past.length (lookR L a), pr', none⟩ ∧ PrL { K.X.pr with due := false } pr' ∧ K2.now ≤ K.now + 8 * (n * m : Nat) ∧ K.now ≤ K2.now ∧ K1.pool = [] ∧ K.now ≤ K1.now ∧ K1.now ≤ K2.now := by
  have hsm : 1 ≤ n ∧ n ≤ 3 ∧ 1 ≤ m ∧ m ≤ 3 := by have := hA.fit; simp [fit] at this; omega
  have hnm : n * m ≤ 9 := by have := Nat.mul_le_mul hsm.2.1 hsm.2.2.2; omega
  obtain ⟨f1, f2, f3, f4⟩ := fit_bd hA.fit
  have hmod : a % n < n := Nat.mod_lt a (by omega)
  have hNm : a % n * m + m ≤ n * m := by
    have : (a % n + 1) * m ≤ n * m := Nat.mul_le_mul_right m hmod
    rw [Nat.add_mul] at this
    omega
  have hdiv : ∀ j, j < m → (a % n * m + j) / m = a % n := fun j hj => by rw [Nat.mul_comm, Nat.mul_add_div (by omega), Nat.div_eq_of_lt hj, Nat.add_zero]
  obtain ⟨A0, hA0⟩ : ∃ A0 : An, A0 = ⟨(seenC L mark a).1, 0, (seenC L mark a).2.1, (seenC L mark a).2.2⟩ := ⟨_, rfl⟩
  have hans : ∀ j, j < m → uAns n m v ce (a % n * m + j) (uS n L mark (a % n)) 3 a no = (A0, uS n L mark (a % n)) := fun j hj => by rw [uAns_read hA hj, hA0]
  have hA0ok : RepOk c.q.nr A0 := by rw [hA0]; exact seen_ok hL hm a hX.sm
  have hwh : A0.wh = if (L a).kd = 0 then 3 else 2 := by
    rw [hA0]
    unfold seenC
    rw [if_neg hmk]
    split <;> rfl
  have hct : (L a).kd ≠ 0 → A0.ct = L a := fun h => by
    rw [hA0]
    unfold seenC
    rw [if_neg hmk, if_neg h]
  have hw4 : A0.wh ≠ 4 := by rw [hwh]; split <;> decide
  have hw5 : A0.wh ≠ 5 := by rw [hwh]; split <;> decide
  obtain ⟨A, hAe⟩ : ∃ A : Nat → An, A = fun _ => A0 := ⟨_, rfl⟩
  have hAw : ∀ j, (A (a % n * m + j)).wh = A0.wh := fun j => by rw [hAe]
  have hnum : c.num ≤ 1000 := by rw [hX.num]; have := hNt.le; omega
  have hRz : (lookR L a).wh ≠ 0 ∧ (lookR L a).val.length ≤ 255 := by
    unfold lookR
    split
    · exact ⟨by decide, by decide⟩
    · rename_i h
      refine ⟨h, ?_⟩
      have := (hL.ct a).len
      unfold told
      simp only
      omega
  obtain ⟨r0, hr0, hr00⟩ := hX.r0
  obtain ⟨K1, K2, pr', s1, s2, e1, e2, e3, e4, e5, e6, e7⟩ := dbl (n := n) (m := m) (v := v) (ce := ce) (past := past) (d := d) (s := fun u => uS n L mark (u / m)) hus hpool hX.pend (lo := a % n * m) (len := m) hNm (by omega) (by omega) hq (reqOk (.inr (.inr (.inl rfl))) hX.sm (by have := hA.lo; have := hA.hi; have := mul_bd f1 f2 f3 f4; unfold Sm; omega) ctOk_no (by decide) (fun _ => rfl)) hnum b K.X.pr.nr hX.hpr (fun _ _ => rfl) (fun u h1 h2 => by
      obtain ⟨j, rfl⟩ : ∃ j, u = a % n * m + j := ⟨u - a % n * m, by omega⟩
      simp only [hdiv j (by omega)]
      rw [hans j (by omega)]
      exact ⟨rfl, hA0ok⟩) (fun k => if k < m then { K.X.outX with pend := some (qK c (a % n * m) A k) } else ⟨K.X.asked, K.X.res.set past.length (lookR L a), K.X.pr, none⟩) (by
      simp only [if_pos (show 0 < m by omega)]
      unfold CX.outX
      rw [hX.pend]
      have : c.q.ans = [] := by rw [hq]
      simp [qK, ansK, this]) (fun k hk pr' hpr' => by
      simp only [hdiv k hk]
      rw [hans k hk]
      simp only [if_pos hk]
      have hne : ({ K.X.outX with pr := pr', pend := some (qK c (a % n * m) A k) } : CX).pr.nr ≠ c.q.nr := by
        show pr'.nr ≠ c.q.nr
        rw [hpr'.nr]; exact hX.ne
      have haw : (qK c (a % n * m) A k).q.awaits c.q.nr ((a % n * m + k : Nat) : Int) = true := by
        unfold qK
        simp only
        rw [hq]
        exact ansK_aw 3 c.q.nr a no (a % n * m) m false A k hk
      have hk3 : c.q.kd = 3 := by rw [hq]
      have hnl : c.q.nodes.length = m := by rw [hq]; exact nodesOf_len _ _
      have hhd : c.q.nodes.headD 0 = ((a % n * m : Nat) : Int) := by
        rw [hq]
        unfold nodesOf
        obtain ⟨m', rfl⟩ : ∃ m', m = m' + 1 := ⟨m - 1, by omega⟩
        rw [List.range_succ_eq_map]
        simp
      have hans2 : ansK (a % n * m) A k ++ [(((a % n * m + k : Nat) : Int), A0)] = ansK (a % n * m) A (k + 1) := by rw [ansK_succ, hAe]
      have hfirst : ∀ k', (ansK (a % n * m) A (k' + 1)).find? (fun z => z.1 == ((a % n * m : Nat) : Int)) = some (((a % n * m : Nat) : Int), A0) := fun k' => by
        unfold ansK
        rw [List.range_succ_eq_map]
        simp [hAe]
      have hrec : ({ K.X.outX with pr := pr', pend := some (qK c (a % n * m) A k) } : CX).recv n m ((a % n * m + k : Nat) : Int) c.q.nr A0 = { (if k + 1 < m then { K.X.outX with pend := some (qK c (a % n * m) A (k + 1)) } else (⟨K.X.asked, K.X.res.set past.length (lookR L a), K.X.pr, none⟩ : CX)) with pr := pr' } := by
        rw [recv_call (X := { K.X.outX with pr := pr', pend := some (qK c (a % n * m) A k) }) (c := qK c (a % n * m) A k) rfl hne haw]
        have hcnt := ansK_count (a % n * m) A A0.wh hAw (k + 1) 2
        simp only [CX.goOn, qK, hk3, hans2]
        rw [if_pos trivial]
        unfold CX.looked PQ.count
        simp only [ansK_len, hnl, hcnt]
        rw [if_neg hw4]
        by_cases hlast : k + 1 < m
        · rw [if_pos hlast, if_pos hlast]
        · rw [if_neg hlast, if_neg hlast]
          unfold CX.end'
          simp only [hX.num, hhd, hfirst k, Option.map_some, Option.getD_some]
          by_cases hz : (L a).kd = 0
          · have h2 : A0.wh ≠ 2 := by rw [hwh, if_pos hz]; decide
            rw [if_neg h2, if_neg (by omega)]
            unfold lookR
            rw [if_pos hz]
            rfl
          · have h2 : A0.wh = 2 := by rw [hwh, if_neg hz]
            rw [if_pos h2, if_pos (by omega)]
            unfold lookR
            rw [if_neg hz, hct hz]
            rfl
      refine ⟨⟨?_, fun c' hc' => ?_, hw5, ?_, ?_, fun c' hc' _ _ => ?_⟩, hrec, ?_⟩
      · show pr'.nodes.length ≤ 100
        rw [hpr'.nodes]; exact hX.hpn (by omega)
      · simp only [Option.some.injEq] at hc'
        subst hc'
        simp only [qK, hnl]
        omega
      · have := hX.q0; have := hX.qn; show 0 ≤ K.X.asked; omega
      · have := hX.a1; show K.X.asked ≤ 1000000; omega
      · simp only [Option.some.injEq] at hc'
        subst hc'
        refine .look (by simp only [qK, hk3]) hA.fit (.inr ⟨hw4, ?_, ?_, ?_, ?_, ?_⟩)
        · simp only [qK, hans2]; exact ansK_nodup _ _ _
        · simp only [qK, hnl]; omega
        · simp only [qK, hnl]; omega
        · simp only [qK, hans2, ansK_len]; omega
        · right
          simp only [qK, hans2, hhd]
          exact ⟨_, List.mem_of_find?_eq_some (hfirst k), rfl⟩
      · by_cases hlast : k + 1 < m
        · rw [if_pos hlast]; exact ResGo.refl _ _
        · rw [if_neg hlast]
          exact .inr ⟨lookR L a, ⟨r0, hr0, hr00⟩, hRz.1, hRz.2, rfl⟩) (fun k hk => by
      by_cases hlt : k < m
      · simp only [if_pos hlt]
        refine ⟨by have := hX.q0; have := hX.qn; show 0 ≤ K.X.asked; omega, by have := hX.a1; show K.X.asked ≤ 1000000; omega, fun c' hc' => ?_⟩
        simp only [Option.some.injEq] at hc'
        subst hc'
        refine ⟨by simp only [qK]; rw [hq]; simp only [nodesOf_len]; omega, Ne.symm hX.ne⟩
      · simp only [if_neg hlt]
        exact ⟨by have := hX.q0; have := hX.qn; omega, by have := hX.a1; omega, fun c' hc' => by simp at hc'⟩) hNt hn
  refine ⟨K1, K2, pr', s1, s2, ?_, e2, e3, e4, ?_, e6, e7⟩
  · rw [e1]
    apply usOf_congr
    intro u hu
    by_cases hin : a % n * m ≤ u ∧ u < a % n * m + m
    · rw [if_pos hin]
      obtain ⟨j, rfl⟩ : ∃ j, u = a % n * m + j := ⟨u - a % n * m, by omega⟩
      simp only [hdiv j (by omega)]
      rw [hans j (by omega)]
    · rw [if_neg hin]
  · rw [e5]
    simp
/-- A chain is looked at; it is trimmed there: the mark is laid on all units. -/
theorem dblRt {K : KW} {L : Nat → Ct} {mark : Int} (hus : K.us = usOf (n * m) fun u => ⟨uS n L mark (u / m), []⟩) (hpool : K.pool = []) {c : PC} {b : Bool} (hX : AskOk n m K.X c b past.length) {a : Nat} (hA : AdOk n m v ce a) (hmk : (a : Int) < mark) (hm : Sm mark) (hL : LOk L (past.length + 1)) (hq : c.q = ⟨3, c.q.nr, a, no, nodesOf (a % n * m) m, true, []⟩)
    (hNt : Nt past d K) (hn : K.now + 8 * (n * m : Nat) ≤ 400000) :
    ∃ K1 K2 pr' c', Step1 n m v ce K K1 ∧ Step1 n m v ce K1 K2 ∧ K2.us = usOf (n * m) (fun u => ⟨uS n L mark (u / m), []⟩) ∧ K2.pool = [] ∧ K2.had = K.had ∧ Nt past d K2 ∧ K2.X = { (K.X.outX.lay n m c' mark ⟨4, 0, []⟩) with pr := pr' } ∧ c'.num = c.num ∧ PrL { K.X.pr with due := false } pr' ∧ K2.now ≤ K.now + 8 * (n * m : Nat) ∧ K.now ≤ K2.now ∧ K1.pool = [] ∧ K.now ≤ K1.now ∧ K1.now ≤ K2.now := by
  have hsm : 1 ≤ n ∧ n ≤ 3 ∧ 1 ≤ m ∧ m ≤ 3 := by have := hA.fit; simp [fit] at this; omega
  have hnm : n * m ≤ 9 := by have := Nat.mul_le_mul hsm.2.1 hsm.2.2.2; omega
  obtain ⟨f1, f2, f3, f4⟩ := fit_bd hA.fit
  have hmod : a % n < n := Nat.mod_lt a (by omega)
  have hNm : a % n * m + m ≤ n * m := by
    have : (a % n + 1) * m ≤ n * m := Nat.mul_le_mul_right m hmod
    rw [Nat.add_mul] at this
    omega
  have hdiv : ∀ j, j < m → (a % n * m + j) / m = a % n := fun j hj => by rw [Nat.mul_comm, Nat.mul_add_div (by omega), Nat.div_eq_of_lt hj, Nat.add_zero]
  obtain ⟨A0, hA0⟩ : ∃ A0 : An, A0 = ⟨(seenC L mark a).1, 0, (seenC L mark a).2.1, (seenC L mark a).2.2⟩ := ⟨_, rfl⟩
  have hans : ∀ j, j < m → uAns n m v ce (a % n * m + j) (uS n L mark (a % n)) 3 a no = (A0, uS n L mark (a % n)) := fun j hj => by rw [uAns_read hA hj, hA0]
  have hA0ok : RepOk c.q.nr A0 := by rw [hA0]; exact seen_ok hL hm a hX.sm
  have hwh : A0.wh = 4 := by rw [hA0]; unfold seenC; rw [if_pos hmk]
  have hmkA : A0.mark = mark := by rw [hA0]; unfold seenC; rw [if_pos hmk]
  have hnum : c.num ≤ 1000 := by rw [hX.num]; have := hNt.le; omega
  obtain ⟨c1, hc1⟩ : ∃ c1 : PC, c1 = { c with q := { c.q with due := false, ans := [(((a % n * m : Nat) : Int), A0)] } } := ⟨_, rfl⟩
  have hc1n : c1.num = c.num := by rw [hc1]
  obtain ⟨XL, hXL⟩ : ∃ XL, XL = K.X.outX.lay n m c1 mark ⟨4, 0, []⟩ := ⟨_, rfl⟩
  have hXLp : ∃ c2, XL.pend = some c2 ∧ c2.q.nr = K.X.asked + 1 ∧ c2.q.nodes.length ≤ 100 := by
    rw [hXL]
    exact ⟨_, rfl, rfl, by simp only [allOf_is, nodesOf_len]; omega⟩
  have hXLa : XL.asked = K.X.asked + 1 := by rw [hXL]; rfl
  have hXLr : XL.res = K.X.res := by rw [hXL]; rfl
  obtain ⟨K1, K2, pr', s1, s2, e1, e2, e3, e4, e5, e6, e7⟩ := dbl (n := n) (m := m) (v := v) (ce := ce) (past := past) (d := d) (s := fun u => uS n L mark (u / m)) hus hpool hX.pend (lo := a % n * m) (len := m) hNm (by omega) (by omega) hq (reqOk (.inr (.inr (.inl rfl))) hX.sm (by have := hA.lo; have := hA.hi; have := mul_bd f1 f2 f3 f4; unfold Sm; omega) ctOk_no (by decide) (fun _ => rfl)) hnum b K.X.pr.nr hX.hpr (fun _ _ => rfl) (fun u h1 h2 => by
      obtain ⟨j, rfl⟩ : ∃ j, u = a % n * m + j := ⟨u - a % n * m, by omega⟩
      simp only [hdiv j (by omega)]
      rw [hans j (by omega)]
      exact ⟨rfl, hA0ok⟩) (fun k => if k = 0 then K.X.outX else XL) rfl (fun k hk pr' hpr' => by
      simp only [hdiv k hk]
      rw [hans k hk]
      by_cases hk0 : k = 0
      · subst hk0
        simp only [if_true, Nat.add_zero, Nat.zero_add, Nat.one_ne_zero, if_false]
        have hne : ({ K.X.outX with pr := pr' } : CX).pr.nr ≠ c.q.nr := by
          show pr'.nr ≠ c.q.nr
          rw [hpr'.nr]; exact hX.ne
        have haw : ({ c.q with due := false } : PQ).awaits c.q.nr ((a % n * m : Nat) : Int) = true := by
          rw [hq]
          have := ansK_aw 3 c.q.nr a no (a % n * m) m false (fun _ => A0) 0 (by omega)
          simpa [ansK] using this
        have hk3 : c.q.kd = 3 := by rw [hq]
        have ha0 : c.q.ans = [] := by rw [hq]
        refine ⟨⟨?_, fun c' hc' => ?_, by rw [hwh]; decide, ?_, ?_, fun c' hc' _ _ => ?_⟩, ?_, ?_⟩
        · show pr'.nodes.length ≤ 100
          rw [hpr'.nodes]; exact hX.hpn (by omega)
        · have hc2 := (outX_pend hX.pend).symm.trans hc'
          simp only [Option.some.injEq] at hc2
          subst hc2
          simp only
          rw [hq]; simp only [nodesOf_len]; omega
        · have := hX.q0; have := hX.qn; show 0 ≤ K.X.asked; omega
        · have := hX.a1; show K.X.asked ≤ 1000000; omega
        · have hc2 := (outX_pend hX.pend).symm.trans hc'
          simp only [Option.some.injEq] at hc2
          subst hc2
          exact .look (by simp only [hk3]) hA.fit (.inl hwh)
        · rw [recv_call (X := { K.X.outX with pr := pr' }) (c := { c with q := { c.q with due := false } }) (by exact outX_pend hX.pend) hne haw, goOn_pr, hXL, hc1]
          simp only [CX.goOn, hk3, ha0, List.nil_append]
          rw [if_pos trivial]
          unfold CX.looked
          rw [if_pos hwh, hmkA]
        · rw [hXLr]; exact ResGo.refl _ _
      · simp only [if_neg hk0, if_neg (Nat.succ_ne_zero k)]
        obtain ⟨c2, p1, p2, p3⟩ := hXLp
        have hne : ({ XL with pr := pr' } : CX).pr.nr ≠ c.q.nr := by
          show pr'.nr ≠ c.q.nr
          rw [hpr'.nr]; exact hX.ne
        have hq2 : c2.q.nr ≠ c.q.nr := by rw [p2]; have := hX.qn; omega
        refine ⟨⟨?_, fun c' hc' => ?_, by rw [hwh]; decide, ?_, ?_, fun c' hc' _ haw => ?_⟩, ?_, ResGo.refl _ _⟩
        · show pr'.nodes.length ≤ 100
          rw [hpr'.nodes]; exact hX.hpn (by omega)
        · have hc2 := p1.symm.trans hc'
          simp only [Option.some.injEq] at hc2
          rw [← hc2]; exact p3
        · have := hX.q0; have := hX.qn; show 0 ≤ XL.asked; rw [hXLa]; omega
        · have := hX.a1; show XL.asked ≤ 1000000; rw [hXLa]; omega
        · have hc2 := p1.symm.trans hc'
          simp only [Option.some.injEq] at hc2
          rw [← hc2, awaits_nr hq2] at haw
          simp at haw
        · exact recv_old (X := { XL with pr := pr' }) p1 hne hq2) (fun k hk => by
      by_cases hk0 : k = 0
      · subst hk0
        simp only [if_true]
        refine ⟨by have := hX.q0; have := hX.qn; show 0 ≤ K.X.asked; omega, by have := hX.a1; show K.X.asked ≤ 1000000; omega, fun c' hc' => ?_⟩
        rw [outX_pend hX.pend] at hc'
        simp only [Option.some.injEq] at hc'
        subst hc'
        refine ⟨by simp only; rw [hq]; simp only [nodesOf_len]; omega, Ne.symm hX.ne⟩
      · simp only [if_neg hk0]
        obtain ⟨c2, p1, p2, p3⟩ := hXLp
        refine ⟨by have := hX.q0; have := hX.qn; rw [hXLa]; omega, by have := hX.a1; rw [hXLa]; omega, fun c' hc' => ?_⟩
        rw [p1] at hc'
        simp only [Option.some.injEq] at hc'
        subst hc'
        exact ⟨p3, by rw [p2]; have := hX.prn; omega⟩) hNt hn
  refine ⟨K1, K2, pr', c1, s1, s2, ?_, e2, e3, e4, ?_, hc1n, e6, e7⟩
  · rw [e1]
    apply usOf_congr
    intro u hu
    by_cases hin : a % n * m ≤ u ∧ u < a % n * m + m
    · rw [if_pos hin]
      obtain ⟨j, rfl⟩ : ∃ j, u = a % n * m + j := ⟨u - a % n * m, by omega⟩
      simp only [hdiv j (by omega)]
      rw [hans j (by omega)]
    · rw [if_neg hin]
  · rw [e5, if_neg (by omega), hXL]
end
end Go.Proofs.YtnhjmiglegdamaaGreat

namespace Go.Proofs.YtnhjmiglegdamaaGreat
open Go.RowKit Go.Maps
section
variable {n m v : Nat} {ce : Int} {past : List PK} {d : PK}
theorem exchT2 {K K1 K2 K' : KW} {j : Nat} (s1 : Step1 n m v ce K K1) (s2 : Step1 n m v ce K1 K2) (h0 : 0 ≤ K.now) (h1 : K.now ≤ K1.now) (h2 : K1.now ≤ K2.now) (h3 : K2.now ≤ 400000) (hp : K.pool = []) (hp1 : K1.pool = []) (r : ExchT n m v ce K2 j K') : ExchT n m v ce K (j + 2) K' :=
  .more K K1 (j + 1) K' s1 ⟨h0, by omega⟩ hp (.more K1 K2 j K' s2 ⟨by omega, by omega⟩ hp1 r)
/-- Nothing comes out. -/
theorem exch_done {K : KW} {s : Nat → St} (hus : K.us = usOf (n * m) fun u => ⟨s u, []⟩) (hp : K.pool = []) (hn : 0 ≤ K.now ∧ K.now ≤ 400000) (hd : K.X.pr.due = false) (hpn : K.X.pr.nodes.length ≤ 100) (hc : ∀ c, K.X.pend = some c → c.q.due = false ∧ c.num ≤ 1000 ∧ c.q.nodes.length ≤ 100) : ExchT n m v ce K 1 K := by
  have hX : K.X.outX = K.X := by
    unfold CX.outX
    cases hx : K.X with
    | mk ax rs pr pe =>
      rw [hx] at hd hc
      simp only at hd hc
      have h1 : ({ pr with due := false } : PQ) = pr := by cases pr; simp only at hd; rw [hd]
      have h2 : (pe.map fun c => { c with q := { c.q with due := false } }) = pe := by
        cases pe with
        | none => rfl
        | some c =>
          have := (hc c rfl).1
          cases c with
          | mk kind num addr own cont place e q =>
            cases q
            simp only at this
            simp [this]
      simp only [h1, h2]
  have hM : K.X.outM = [] := by
    unfold CX.outM PQ.outM
    rw [hd]
    cases hx : K.X.pend with
    | none => simp
    | some c => simp [(hc c hx).1]
  have hO := outs_is (v := v) hus
  simp only [List.map_nil] at hO
  have hpo : (K.outs n m v).pool = [] := by rw [hO, hM]; simp
  have hK : ({ K.outs n m v with pool := K.pool } : KW) = K := by rw [hO, hX, ← hus]
  have hS : StepOk n m K := by
    refine ⟨by rw [hus, usOf_len], fun U hU => ?_, ⟨fun h => by rw [hd] at h; simp at h, outP_len _ hpn, fun c hcc => ⟨(hc c hcc).2.1, fun h => by rw [(hc c hcc).1] at h; simp at h, outP_len _ (hc c hcc).2.2⟩⟩, by rw [← CX.outM_raw, hM]; simp⟩
    rw [hus] at hU
    simp only [usOf, List.mem_map] at hU
    obtain ⟨_, _, rfl⟩ := hU
    simp
  have := ExchT.done (n := n) (m := m) (v := v) (ce := ce) K hS hn hp hpo
  rw [hK] at this
  exact this
/-- The client asks its next question: of a call that goes on. -/
theorem askNext {X : CX} {c c2 : PC} {b : Bool} {l : Nat} {pr' : PQ} (hX : AskOk n m X c b l) (hnm : n * m ≤ 50) (hpr : PrL { X.pr with due := false } pr') (nodes : List Int) (kd pl : Int) (t : Ct) (hnum : c2.num = c.num) (h1 : X.asked + 101 ≤ 1000000) : AskOk n m { (X.outX.ask c2 nodes kd pl t) with pr := pr' } { c2 with q := ⟨kd, X.asked + 1, pl, t, nodes, true, []⟩ } false l := by
  refine ⟨rfl, by simp only; rw [hnum]; exact hX.num, ?_, ?_, ?_, ?_, ?_, ?_, .inr ⟨rfl, hpr.due, ?_⟩, ?_⟩
  · show pr'.nr ≠ X.asked + 1
    rw [hpr.nr]; have := hX.prn; simp only; omega
  · show pr'.nr ≤ X.asked + 1
    rw [hpr.nr]; have := hX.prn; simp only; omega
  · have := hX.q0; have := hX.qn; show 0 ≤ X.asked + 1; omega
  · show X.asked + 1 ≤ X.asked + 1; omega
  · show X.asked + 1 + 100 ≤ 1000000; omega
  · show 1 ≤ pr'.nr
    rw [hpr.nr]; exact hX.pr0
  · show pr'.nodes.length ≤ 100
    rw [hpr.nodes]; exact hX.hpn hnm
  · exact hX.r0
end
/-- How a call has ended: what the units hold, the client, what was noted. -/
structure Ended (n m : Nat) (K K' : KW) (past : List PK) (d : PK) (L' : Nat → Ct) (mark' : Int) (r : Rz) : Prop where
  us : K'.us = usOf (n * m) fun u => ⟨uS n L' mark' (u / m), []⟩
  pool : K'.pool = []
  had : K'.had = K.had
  nt : Nt past d K'
  res : K'.X.res = K.X.res.set past.length r
  pend : K'.X.pend = none
  due : K'.X.pr.due = false
  prn : K'.X.pr.nodes.length ≤ 100
  pr0 : 1 ≤ K'.X.pr.nr
  pra : K'.X.pr.nr ≤ K'.X.asked
  a0 : K.X.asked ≤ K'.X.asked
  a1 : K'.X.asked ≤ K.X.asked + 8
  n0 : K.now ≤ K'.now
  n1 : K'.now ≤ K.now + 48 * (n * m : Nat)
section
variable {n m v : Nat} {ce : Int} {past : List PK} {d : PK}
theorem fit_nm (hf : fit n m v ce = true) : 1 ≤ n ∧ n ≤ 3 ∧ 1 ≤ m ∧ m ≤ 3 ∧ n * m ≤ 9 ∧ 1 ≤ n * m := by
  have h := hf
  simp [fit] at h
  have h1 : n * m ≤ 3 * 3 := Nat.mul_le_mul (by omega) (by omega)
  have h2 : 1 * 1 ≤ n * m := Nat.mul_le_mul (by omega) (by omega)
  omega
/-- A trim, from its question on. -/
theorem reckT {K : KW} {L : Nat → Ct} {mark : Int} (hus : K.us = usOf (n * m) fun u => ⟨uS n L mark (u / m), []⟩) (hpool : K.pool = []) {c : PC} {b : Bool} (hX : AskOk n m K.X c b past.length) (hf : fit n m v ce = true) {t : Int} (ht : Sm t) (hm : Sm mark) (hq : c.q = ⟨4, c.q.nr, t, no, nodesOf 0 (n * m), true, []⟩) (he : c.e.wh ≠ 0 ∧ c.e.val.length ≤ 255)
    (hNt : Nt past d K) (h0 : 0 ≤ K.now) (hn : K.now + 8 * (n * m : Nat) ≤ 400000) : ∃ K', ExchT n m v ce K 3 K' ∧ Ended n m K K' past d L (max mark t) c.e ∧ K'.X.asked = K.X.asked ∧ K'.now ≤ K.now + 8 * (n * m : Nat) := by
  obtain ⟨s1, s2, s3, s4, s5, s6⟩ := fit_nm hf
  obtain ⟨K1, K2, pr', a1, a2, a3, a4, a5, a6, a7, a8, a9, a10, a11, a12, a13⟩ := dblT (Lf := fun _ => L) hus hpool hX hf ht hm hq he hNt (by omega)
  have hdn : ExchT n m v ce K2 1 K2 := exch_done a3 a4 ⟨by omega, by omega⟩ (by rw [a7]; exact a8.due) (by rw [a7]; simp only [a8.nodes]; exact hX.hpn (by omega)) (fun c hc => by rw [a7] at hc; simp at hc)
  refine ⟨K2, exchT2 a1 a2 h0 (by omega) (by omega) (by omega) hpool a11 hdn, ⟨a3, a4, a5, a6, by rw [a7], by rw [a7], by rw [a7]; exact a8.due, by rw [a7]; simp only [a8.nodes]; exact hX.hpn (by omega), by rw [a7]; simp only [a8.nr]; exact hX.pr0, by rw [a7]; simp only [a8.nr]; exact hX.prn, by rw [a7]; simp, by rw [a7]; simp only; omega, by omega, by omega⟩, by rw [a7], by omega⟩
/-- A read, from its question on. -/
theorem reckR {K : KW} {L : Nat → Ct} {mark : Int} (hus : K.us = usOf (n * m) fun u => ⟨uS n L mark (u / m), []⟩) (hpool : K.pool = []) {c : PC} {b : Bool} (hX : AskOk n m K.X c b past.length) {a : Nat} (hA : AdOk n m v ce a) (hm : Sm mark) (hL : LOk L (past.length + 1)) (hq : c.q = ⟨3, c.q.nr, a, no, nodesOf (a % n * m) m, true, []⟩)
    (hNt : Nt past d K) (h0 : 0 ≤ K.now) (hn : K.now + 16 * (n * m : Nat) ≤ 400000) (has : K.X.asked + 200 ≤ 1000000) : ∃ j K', j ≤ 10 ∧ ExchT n m v ce K j K' ∧ Ended n m K K' past d L mark (if (a : Int) < mark then ⟨4, 0, []⟩ else lookR L a) := by
  obtain ⟨s1, s2, s3, s4, s5, s6⟩ := fit_nm hA.fit
  by_cases hmk : (a : Int) < mark
  · rw [if_pos hmk]
    obtain ⟨K1, K2, pr', c', a1, a2, a3, a4, a5, a6, a7, a7', a8, a9, a10, a11, a12, a13⟩ := dblRt hus hpool hX hA hmk hm hL hq hNt (by omega)
    have hX2 : AskOk n m K2.X { { c' with e := ⟨4, 0, []⟩ } with q := ⟨4, K.X.asked + 1, mark, no, allOf n m, true, []⟩ } false past.length := by
      rw [a7]
      exact askNext hX (by omega) a8 (allOf n m) 4 mark no (c2 := { c' with e := ⟨4, 0, []⟩ }) a7' (by omega)
    obtain ⟨K', e1, e2, e3, e4⟩ := reckT (v := v) (ce := ce) a3 a4 hX2 hA.fit hm hm (by simp only [allOf_is]) ⟨by simp, by simp⟩ a6 (by omega) (by omega)
    refine ⟨5, K', by omega, exchT2 a1 a2 h0 (by omega) (by omega) (by omega) hpool a11 e1, ?_⟩
    have hres : K2.X.res = K.X.res := by rw [a7]; rfl
    have hask : K2.X.asked = K.X.asked + 1 := by rw [a7]; rfl
    have hmx : max mark mark = mark := by omega
    have hu := e2.us
    rw [hmx] at hu
    exact ⟨hu, e2.pool, e2.had.trans a5, e2.nt, by rw [e2.res, hres], e2.pend, e2.due, e2.prn, e2.pr0, e2.pra, by omega, by omega, by have := e2.n0; omega, by omega⟩
  · rw [if_neg hmk]
    obtain ⟨K1, K2, pr', a1, a2, a3, a4, a5, a6, a7, a8, a9, a10, a11, a12, a13⟩ := dblR hus hpool hX hA hmk hm hL hq hNt (by omega)
    have hdn : ExchT n m v ce K2 1 K2 := exch_done a3 a4 ⟨by omega, by omega⟩ (by rw [a7]; exact a8.due) (by rw [a7]; simp only [a8.nodes]; exact hX.hpn (by omega)) (fun c hc => by rw [a7] at hc; simp at hc)
    refine ⟨3, K2, by omega, exchT2 a1 a2 h0 (by omega) (by omega) (by omega) hpool a11 hdn, a3, a4, a5, a6, by rw [a7], by rw [a7], by rw [a7]; exact a8.due, by rw [a7]; simp only [a8.nodes]; exact hX.hpn (by omega), by rw [a7]; simp only [a8.nr]; exact hX.pr0, by rw [a7]; simp only [a8.nr]; exact hX.prn, by rw [a7]; simp, by rw [a7]; simp only; omega, by omega, by omega⟩
end
end Go.Proofs.YtnhjmiglegdamaaGreat

namespace Go.Proofs.YtnhjmiglegdamaaGreat
open Go.RowKit Go.Maps
section
variable {n m v : Nat} {ce : Int} {past : List PK} {d : PK}
/-- How a call ends that has written along the chain. -/
def wroteR (kind : Int) (a : Nat) (t : Ct) : Rz := if kind = 1 then ⟨1, a, []⟩ else told t
theorem wroteR_ok {kind : Int} {a : Nat} {t : Ct} (ht : isC t.kd t.val.length = true) (hc : CtOk t) : (wroteR kind a t).wh ≠ 0 ∧ (wroteR kind a t).val.length ≤ 255 := by
  unfold wroteR
  split
  · exact ⟨by simp, by simp⟩
  · have := hc.len
    rcases isC_kd ht with h | h
    · exact ⟨by unfold told; simp only; omega, by unfold told; simp only; omega⟩
    · exact ⟨by unfold told; simp only; omega, by unfold told; simp only; omega⟩
theorem writeNode (n m a j : Nat) : [((a : Nat) : Int) % n * m + j] = nodesOf (a % n * m + j) 1 := by
  simp [nodesOf]
/-- One write on the way along the chain. -/
theorem stepW {K : KW} {L : Nat → Ct} {mark : Int} {c : PC} {b : Bool} {a j : Nat} {t : Ct} (hj : j < m) (hus : K.us = usOf (n * m) (fun u => ⟨uS n (if u % m < j then updL L a t else L) mark (u / m), []⟩)) (hpool : K.pool = []) (hX : AskOk n m K.X c b past.length) (hA : AdOk n m v ce a) (had : c.addr = a) (hpl : c.place = j) (hq : c.q = ⟨2, c.q.nr, a, c.cont, nodesOf (a % n * m + j) 1, true, []⟩) (hct : CtOk c.cont) (hisC : isC c.cont.kd c.cont.val.length = true) (hL : LOk L (past.length + 1)) (hm : Sm mark) (hmk : ¬ (a : Int) < mark) (hcase : (L a).kd = 0 ∧ c.cont = t ∨ (L a).kd ≠ 0 ∧ L a = t ∧ c.kind ≠ 1) (hct2 : CtOk t) (hisC2 : isC t.kd t.val.length = true) (hNt : Nt past d K) (hn : K.now + 8 * (n * m : Nat) ≤ 400000) :
    ∃ K1 K2 pr' c2, Step1 n m v ce K K1 ∧ Step1 n m v ce K1 K2 ∧ K2.us = usOf (n * m) (fun u => ⟨uS n (if u % m < j + 1 then updL L a t else L) mark (u / m), []⟩) ∧ K2.pool = [] ∧ K2.had = K.had ∧ Nt past d K2 ∧ K2.X = { K.X.outX.goAlong n m c2 with pr := pr' } ∧ (c2.cont = t ∧ c2.num = c.num ∧ c2.kind = c.kind ∧ c2.addr = a ∧ c2.place = j) ∧ PrL { K.X.pr with due := false } pr' ∧ K2.now ≤ K.now + 8 * (n * m : Nat) ∧ K.now ≤ K2.now ∧ K1.pool = [] ∧ K.now ≤ K1.now ∧ K1.now ≤ K2.now := by
  obtain ⟨s1, s2, s3, s4, s5, s6⟩ := fit_nm hA.fit
  obtain ⟨A, hAe⟩ : ∃ A : An, A = if (a : Int) < mark ∨ (L a).kd ≠ 0 then ⟨(seenC L mark a).1, 0, (seenC L mark a).2.1, (seenC L mark a).2.2⟩ else an 1 0 0 := ⟨_, rfl⟩
  obtain ⟨c1, hc1⟩ : ∃ c1 : PC, c1 = { c with q := { c.q with due := false, ans := [(((a % n * m + j : Nat) : Int), A)] } } := ⟨_, rfl⟩
  have hc2 : ∃ c2 : PC, K.X.outX.wrote n m c1 A = K.X.outX.goAlong n m c2 ∧ WrOk c A ∧ c2.cont = t ∧ c2.num = c.num ∧ c2.kind = c.kind ∧ c2.addr = a ∧ c2.place = j := by
    rcases hcase with ⟨h1, h2⟩ | ⟨h1, h2, h3⟩
    · have hA1 : A = an 1 0 0 := by rw [hAe, if_neg (fun e => e.elim hmk (fun e => e h1))]
      refine ⟨c1, ?_, .inl (by rw [hA1]; rfl), by rw [hc1]; exact h2, by rw [hc1], by rw [hc1], by rw [hc1]; exact had, by rw [hc1]; exact hpl⟩
      unfold CX.wrote
      rw [if_pos (by rw [hA1]; rfl)]
    · have hA2 : A.wh = 2 ∧ A.ct = L a := by
        rw [hAe, if_pos (.inr h1)]
        unfold seenC
        rw [if_neg hmk, if_neg h1]
        exact ⟨rfl, rfl⟩
      refine ⟨{ c1 with cont := t }, ?_, .inr (.inl ⟨hA2.1, fun e => absurd e h3⟩), rfl, by rw [hc1], by rw [hc1], by rw [hc1]; exact had, by rw [hc1]; exact hpl⟩
      have hk : c1.kind ≠ 1 := by rw [hc1]; exact h3
      unfold CX.wrote CX.taken
      rw [if_neg (by rw [hA2.1]; decide), if_pos hA2.1, if_neg hk, hA2.2, h2]
  obtain ⟨c2, w1, w2, w3, w4, w5, w6, w7⟩ := hc2
  have hnext : K.X.outX.goAlong n m c2 = if j + 1 < m then K.X.outX.writeNext n m { c2 with place := j + 1 } else K.X.outX.end' c2 (wroteR c.kind a t) := by
    unfold CX.goAlong wroteR
    rw [w7, w5]
    by_cases h : j + 1 < m
    · rw [if_pos h, if_pos h]
    · rw [if_neg h, if_neg h]
      by_cases hk : c.kind = 1
      · rw [if_pos hk, if_pos hk, w6]
      · rw [if_neg hk, if_neg hk, w3]
  have hRz := wroteR_ok (kind := c.kind) (a := a) hisC2 hct2
  obtain ⟨r0, hr0, hr00⟩ := hX.r0
  obtain ⟨K1, K2, pr', a1, a2, a3, a4, a5, a6, a7, a8, a9⟩ := dblW (n := n) (m := m) (v := v) (ce := ce) (past := past) (d := d) (Lf := fun i => if i < j then updL L a t else L) (mark := mark) hus hpool hX hA had hj hpl hq hct hisC (by simp only [Nat.lt_irrefl, if_false]; exact hL) hm A (by simp only [Nat.lt_irrefl, if_false]; exact hAe) (K.X.outX.goAlong n m c2) (by rw [← w1, hc1]) w2 (by
      rw [hnext]
      by_cases h : j + 1 < m
      · rw [if_pos h]; exact ResGo.refl _ _
      · rw [if_neg h]
        refine .inr ⟨wroteR c.kind a t, ⟨r0, hr0, hr00⟩, hRz.1, hRz.2, ?_⟩
        unfold CX.end'
        simp only [w4, hX.num]
        rfl) (by
      rw [hnext]
      by_cases h : j + 1 < m
      · rw [if_pos h]; exact ⟨by show K.X.asked ≤ K.X.asked + 1; omega, by show K.X.asked + 1 ≤ K.X.asked + 1; omega⟩
      · rw [if_neg h]; exact ⟨by show K.X.asked ≤ K.X.asked; omega, by show K.X.asked ≤ K.X.asked + 1; omega⟩) (fun c' hc' => by
      rw [hnext] at hc'
      by_cases h : j + 1 < m
      · rw [if_pos h] at hc'
        unfold CX.writeNext CX.ask at hc'
        simp only [Option.some.injEq] at hc'
        subst hc'
        refine ⟨by simp, ?_⟩
        show K.X.asked + 1 ≠ K.X.pr.nr
        have := hX.prn
        omega
      · rw [if_neg h] at hc'
        unfold CX.end' at hc'
        simp at hc') hNt hn
  refine ⟨K1, K2, pr', c2, a1, a2, ?_, a4, a5, a6, a7, ⟨w3, w4, w5, w6, w7⟩, a8, a9⟩
  rw [a3]
  apply usOf_congr
  intro u _
  simp only [Nat.lt_irrefl, if_false]
  congr 2
  by_cases h1 : u % m = j
  · have h4 : u % m < j + 1 := by omega
    rw [if_pos h1, if_pos h4]
    rcases hcase with ⟨h2, h3⟩ | ⟨h2, h3, _⟩
    · rw [if_neg (show ¬ ((a : Int) < mark ∨ (L a).kd ≠ 0) from fun e => e.elim hmk (fun e => e h2)), h3]
    · rw [if_pos (show (a : Int) < mark ∨ (L a).kd ≠ 0 from .inr h2), ← h3, updL_self]
  · rw [if_neg h1]
    by_cases h2 : u % m < j
    · rw [if_pos h2, if_pos (by omega)]
    · rw [if_neg h2, if_neg (by omega)]
/-- From place j on. -/
theorem walkW (r : Nat) : ∀ (j : Nat) {K : KW} {L : Nat → Ct} {mark : Int} {c : PC} {b : Bool} {a : Nat} {t : Ct}, j + (r + 1) = m → K.us = usOf (n * m) (fun u => ⟨uS n (if u % m < j then updL L a t else L) mark (u / m), []⟩) → K.pool = [] → AskOk n m K.X c b past.length → AdOk n m v ce a → c.addr = a → c.place = j → c.q = ⟨2, c.q.nr, a, c.cont, nodesOf (a % n * m + j) 1, true, []⟩ → CtOk c.cont → isC c.cont.kd c.cont.val.length = true → LOk L (past.length + 1) → Sm mark → ¬ (a : Int) < mark → ((L a).kd = 0 ∧ c.cont = t ∨ (L a).kd ≠ 0 ∧ L a = t ∧ c.kind ≠ 1) → CtOk t → isC t.kd t.val.length = true → Nt past d K → 0 ≤ K.now → K.now + 8 * (n * m : Nat) * (r + 1 : Nat) ≤ 400000 → K.X.asked + 200 + (r + 1 : Nat) ≤ 1000000 →
    ∃ jj K', jj ≤ 2 * r + 3 ∧ ExchT n m v ce K jj K' ∧ K'.us = usOf (n * m) (fun u => ⟨uS n (updL L a t) mark (u / m), []⟩) ∧ K'.pool = [] ∧ K'.had = K.had ∧ Nt past d K' ∧ K'.X.res = K.X.res.set past.length (wroteR c.kind a t) ∧ K'.X.pend = none ∧ K'.X.pr.due = false ∧ K'.X.pr.nodes.length ≤ 100 ∧ 1 ≤ K'.X.pr.nr ∧ K'.X.pr.nr ≤ K'.X.asked ∧ K.X.asked ≤ K'.X.asked ∧ K'.X.asked ≤ K.X.asked + r ∧ K.now ≤ K'.now ∧ K'.now ≤ K.now + 8 * (n * m : Nat) * (r + 1 : Nat) := by
  induction r with
  | zero =>
    intro j K L mark c b a t hjm hus hpool hX hA had hpl hq hct hisC hL hm hmk hcase hct2 hisC2 hNt h0 hn has
    obtain ⟨s1, s2, s3, s4, s5, s6⟩ := fit_nm hA.fit
    obtain ⟨K1, K2, pr', c2, a1, a2, a3, a4, a5, a6, a7, ⟨w3, w4, w5, w6, w7⟩, a8, a9, a10, a11, a12, a13⟩ := stepW (v := v) (ce := ce) (d := d) (by omega) hus hpool hX hA had hpl hq hct hisC hL hm hmk hcase hct2 hisC2 hNt (by omega)
    have hnext : K.X.outX.goAlong n m c2 = K.X.outX.end' c2 (wroteR c.kind a t) := by
      unfold CX.goAlong wroteR
      rw [w7, w5, if_neg (by omega)]
      by_cases hk : c.kind = 1
      · rw [if_pos hk, if_pos hk, w6]
      · rw [if_neg hk, if_neg hk, w3]
    rw [hnext] at a7
    have hu : K2.us = usOf (n * m) (fun u => ⟨uS n (updL L a t) mark (u / m), []⟩) := by
      rw [a3]
      apply usOf_congr
      intro u _
      rw [if_pos (by have := Nat.mod_lt u (show 0 < m by omega); omega)]
    have hdn : ExchT n m v ce K2 1 K2 := exch_done hu a4 ⟨by omega, by omega⟩ (by rw [a7]; exact a8.due) (by rw [a7]; simp only [a8.nodes]; exact hX.hpn (by omega)) (fun c hc => by rw [a7] at hc; simp [CX.end'] at hc)
    refine ⟨3, K2, by omega, exchT2 a1 a2 h0 (by omega) (by omega) (by omega) hpool a11 hdn, hu, a4, a5, a6, ?_, ?_, ?_, ?_, ?_, ?_, ?_, ?_, by omega, by omega⟩
    · rw [a7]
      unfold CX.end'
      simp only [w4, hX.num]
      rfl
    · rw [a7]; rfl
    · rw [a7]; exact a8.due
    · rw [a7]; simp only [a8.nodes]; exact hX.hpn (by omega)
    · rw [a7]; simp only [a8.nr]; exact hX.pr0
    · rw [a7]
      show pr'.nr ≤ K.X.asked
      rw [a8.nr]; exact hX.prn
    · rw [a7]; show K.X.asked ≤ K.X.asked; omega
    · rw [a7]; show K.X.asked ≤ K.X.asked + 0; omega
  | succ r ih =>
    intro j K L mark c b a t hjm hus hpool hX hA had hpl hq hct hisC hL hm hmk hcase hct2 hisC2 hNt h0 hn has
    obtain ⟨s1, s2, s3, s4, s5, s6⟩ := fit_nm hA.fit
    have hexp : (8 : Int) * (n * m : Nat) * ((r + 1 + 1 : Nat) : Int) = 8 * (n * m : Nat) * ((r + 1 : Nat) : Int) + 8 * (n * m : Nat) := by
      rw [show ((r + 1 + 1 : Nat) : Int) = ((r + 1 : Nat) : Int) + 1 by omega, Int.mul_add, Int.mul_one]
    have hpos : (0 : Int) ≤ 8 * (n * m : Nat) * ((r + 1 : Nat) : Int) := Int.mul_nonneg (by omega) (by omega)
    obtain ⟨Q, hQ⟩ : ∃ Q : Int, 8 * (n * m : Nat) * ((r + 1 : Nat) : Int) = Q := ⟨_, rfl⟩
    rw [hexp, hQ] at hn
    rw [hQ] at hpos
    obtain ⟨K1, K2, pr', c2, a1, a2, a3, a4, a5, a6, a7, ⟨w3, w4, w5, w6, w7⟩, a8, a9, a10, a11, a12, a13⟩ := stepW (v := v) (ce := ce) (d := d) (by omega) hus hpool hX hA had hpl hq hct hisC hL hm hmk hcase hct2 hisC2 hNt (by omega)
    have hnext : K.X.outX.goAlong n m c2 = K.X.outX.ask { c2 with place := j + 1 } (nodesOf (a % n * m + (j + 1)) 1) 2 a t := by
      unfold CX.goAlong
      rw [w7, if_pos (by omega)]
      unfold CX.writeNext
      simp only [w6, w3]
      rw [show ((a : Int) % n * m + ((j + 1 : Nat) : Int)) = ((a % n * m + (j + 1) : Nat) : Int) by simp]
      simp [nodesOf]
    rw [hnext] at a7
    have hX2 : AskOk n m K2.X { { c2 with place := j + 1 } with q := ⟨2, K.X.asked + 1, a, t, nodesOf (a % n * m + (j + 1)) 1, true, []⟩ } false past.length := by
      rw [a7]
      exact askNext hX (by omega) a8 _ 2 a t (c2 := { c2 with place := j + 1 }) w4 (by omega)
    have hask : K2.X.asked = K.X.asked + 1 := by rw [a7]; rfl
    have hres : K2.X.res = K.X.res := by rw [a7]; rfl
    obtain ⟨jj, K', g1, g2, g3, g4, g5, g6, g7, g8, g9, g10, g11, g12, g13, g14, g15, g16⟩ := ih (j + 1) (K := K2) (L := L) (mark := mark) (a := a) (t := t) (by omega) a3 a4 hX2 hA w6 rfl (by simp only [w3]) (by simp only [w3]; exact hct2) (by simp only [w3]; exact hisC2) hL hm hmk (by
      rcases hcase with ⟨h1, h2⟩ | ⟨h1, h2, h3⟩
      · exact .inl ⟨h1, w3⟩
      · exact .inr ⟨h1, h2, by simp only [w5]; exact h3⟩) hct2 hisC2 a6 (by omega) (by rw [hQ]; omega) (by rw [hask]; omega)
    rw [hQ] at g16
    refine ⟨jj + 2, K', by omega, exchT2 a1 a2 h0 (by omega) (by omega) (by omega) hpool a11 g2, g3, g4, g5.trans a5, g6, ?_, g8, g9, g10, g11, g12, by omega, by omega, by omega, by rw [hexp, hQ]; omega⟩
    rw [g7, hres]
    simp only [w5]
end
end Go.Proofs.YtnhjmiglegdamaaGreat
