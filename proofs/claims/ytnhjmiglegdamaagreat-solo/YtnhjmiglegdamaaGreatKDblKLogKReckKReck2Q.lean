-- A question and its answers: two steps, without a program.
-- What the units hold, and what they answer, without a program.
-- A call's questions and what comes of them, without a program.
-- Looking, and laying a mark, without a program.
import Derived.Test.YtnhjmiglegdamaaGreatKWatchKRunKAskQ
namespace Go.Proofs.YtnhjmiglegdamaaGreat
open Go.RowKit Go.Maps
/-- A number that is small. -/
def Sm (x : Int) : Prop := -10000000 ≤ x ∧ x ≤ 10000000
theorem Sm.wf {x : Int} (h : Sm x) : (Lit.int .i64 x).wf = true := by
  unfold Sm at h
  have h1 : IntKind.i64.min = -9223372036854775808 := by decide
  have h2 : IntKind.i64.max = 9223372036854775807 := by decide
  simp only [Lit.wf, h1, h2]
  simp
  omega
theorem sm0 : Sm 0 := by unfold Sm; omega
/-- A content that can be sent. -/
structure CtOk (t : Ct) : Prop where
  kd : Sm t.kd
  cl : Sm t.cl
  ca : Sm t.ca
  len : t.val.length ≤ 8
  byt : Byt t.val
theorem ctOk_no : CtOk no := ⟨sm0, sm0, sm0, by decide, fun d h => by simp [no] at h⟩
theorem repOk {nr : Int} {A : An} (h1 : Sm nr) (h2 : Sm A.wh) (h3 : Sm A.ep) (h4 : Sm A.mark) (h5 : CtOk A.ct) : RepOk nr A :=
  ⟨by simp, by simp, by simp, by simp, by have := h5.len; simp only; omega, fun x hx => by
    simp only [List.mem_cons, List.not_mem_nil, or_false] at hx
    rcases hx with rfl | rfl | rfl | rfl | rfl | rfl | rfl
    · exact h1.wf
    · exact h2.wf
    · exact h3.wf
    · exact h4.wf
    · exact h5.kd.wf
    · exact h5.cl.wf
    · exact h5.ca.wf, h5.byt, (101, 7, 8), by simp [repShs], rfl, by simp, by have := h5.len; simp only; omega⟩
theorem reqOk {kd nr pl : Int} {t : Ct} (hkd : kd = 1 ∨ kd = 2 ∨ kd = 3 ∨ kd = 4) (h1 : Sm nr) (h2 : Sm pl) (h5 : CtOk t) (hc : kd = 2 → isC t.kd t.val.length = true) (hv : kd ≠ 2 → t.val = []) : ReqOk kd nr pl t := by
  refine ⟨⟨by rcases hkd with rfl | rfl | rfl | rfl <;> simp, by rcases hkd with rfl | rfl | rfl | rfl <;> simp, by simp, by simp, by have := h5.len; simp only; omega, fun x hx => ?_, h5.byt, ?_⟩, hkd, h5.byt, hc⟩
  · simp only [List.mem_cons, List.not_mem_nil, or_false] at hx
    rcases hx with rfl | rfl | rfl | rfl | rfl | rfl
    · exact h1.wf
    · exact sm0.wf
    · exact h2.wf
    · exact h5.kd.wf
    · exact h5.cl.wf
    · exact h5.ca.wf
  · have hl := h5.len
    rcases hkd with rfl | rfl | rfl | rfl
    · exact ⟨(1, 6, 0), by simp [reqShs], rfl, by simp, by rw [hv (by decide)]; simp⟩
    · exact ⟨(2, 6, 8), by simp [reqShs], rfl, by simp, by simp only; omega⟩
    · exact ⟨(3, 6, 0), by simp [reqShs], rfl, by simp, by rw [hv (by decide)]; simp⟩
    · exact ⟨(4, 6, 0), by simp [reqShs], rfl, by simp, by rw [hv (by decide)]; simp⟩
/-- A world that may make a step. -/
structure StepOk (n m : Nat) (K : KW) : Prop where
  len : K.us.length = n * m
  q : ∀ U ∈ K.us, U.q.length ≤ 100
  x : OutOk K.X
  o : K.X.outP.length ≤ 200
/-- A step in which something is on its way. -/
structure Step1 (n m v : Nat) (ce : Int) (K K' : KW) : Prop where
  ok : StepOk n m K
  ne : (K.outs n m v).pool ≠ []
  run : Runs n m v ce { K.outs n m v with pool := K.pool } (K.outs n m v).pool K'
/-- Steps, till nothing comes out. -/
inductive Exch (n m v : Nat) (ce : Int) : KW → Nat → KW → Prop
  | done (K : KW) (h : StepOk n m K) (he : (K.outs n m v).pool = []) : Exch n m v ce K 1 { K.outs n m v with pool := K.pool }
  | more (K K1 : KW) (j : Nat) (K' : KW) (h : Step1 n m v ce K K1) (r : Exch n m v ce K1 j K') : Exch n m v ce K (j + 1) K'
/-- An exchange whose times are small. -/
inductive ExchT (n m v : Nat) (ce : Int) : KW → Nat → KW → Prop
  | done (K : KW) (h : StepOk n m K) (hn : 0 ≤ K.now ∧ K.now ≤ 400000) (hp : K.pool = []) (he : (K.outs n m v).pool = []) : ExchT n m v ce K 1 { K.outs n m v with pool := K.pool }
  | more (K K1 : KW) (j : Nat) (K' : KW) (h : Step1 n m v ce K K1) (hn : 0 ≤ K.now ∧ K.now ≤ 400000) (hp : K.pool = []) (r : ExchT n m v ce K1 j K') : ExchT n m v ce K (j + 1) K'
/-- The units lo, lo + 1, .. -/
def nodesOf (lo len : Nat) : List Int := (List.range len).map fun (j : Nat) => ((lo + j : Nat) : Int)
theorem nodesOf_len (lo len : Nat) : (nodesOf lo len).length = len := by simp [nodesOf]
theorem nodesOf_mem (lo len u : Nat) : ((u : Int) ∈ nodesOf lo len) ↔ (lo ≤ u ∧ u < lo + len) := by
  simp only [nodesOf, List.mem_map, List.mem_range]
  constructor
  · rintro ⟨j, hj, e⟩; omega
  · rintro ⟨h1, h2⟩; exact ⟨u - lo, by omega, by omega⟩
theorem allOf_is (n m : Nat) : allOf n m = nodesOf 0 (n * m) := by
  unfold allOf nodesOf
  apply List.map_congr_left
  intro j _
  simp
theorem outM_nodes (kd nr pl : Int) (ct : Ct) (lo len : Nat) (a : List (Int × An)) : (PQ.mk kd nr pl ct (nodesOf lo len) true a).outM = (List.range len).map fun (j : Nat) => .req ((lo + j : Nat) : Int) kd nr pl ct := by
  simp [PQ.outM, nodesOf, List.map_map, Function.comp_def]
theorem outP_len (q : PQ) (h : q.nodes.length ≤ 100) : q.outP.length ≤ 100 := by
  unfold PQ.outP PQ.pkts
  split
  · simpa using h
  · simp
/-- The answer to a probe. -/
def pAn : An := an 1 0 0
section
variable {n m v : Nat} {ce : Int} {past : List PK} {d : PK}
theorem uAns_probe (u : Nat) (s : St) (h : s.ep = 0) : uAns n m v ce u s 1 0 no = (pAn, s) := by
  unfold uAns ansA sealA pAn
  rw [if_pos rfl, if_neg (by omega)]
  cases s
  simp only at h
  rw [h]
set_option maxHeartbeats 1000000 in
/-- A question to the units lo .. is asked and answered, beside a probe if there is one. -/
theorem dbl {K : KW} {s : Nat → St} (hus : K.us = usOf (n * m) fun u => ⟨s u, []⟩) (hpool : K.pool = []) {c : PC} (hc : K.X.pend = some c) {lo len : Nat} (hN : lo + len ≤ n * m) (hnm : n * m ≤ 50) (hlen : 0 < len) {kd nr pl : Int} {ct : Ct} (hq : c.q = ⟨kd, nr, pl, ct, nodesOf lo len, true, []⟩) (hreq : ReqOk kd nr pl ct) (hnum : c.num ≤ 1000)
    (b : Bool) (nrP : Int) (hpr : (b = true ∧ K.X.pr = ⟨1, nrP, 0, no, allOf n m, true, []⟩ ∧ Sm nrP) ∨ (b = false ∧ K.X.pr.due = false ∧ K.X.pr.nodes.length ≤ 100))
    (s0 : ∀ u, u < n * m → (s u).ep = 0) (hA : ∀ u, lo ≤ u → u < lo + len → (uAns n m v ce u (s u) kd pl ct).2.ep = 0 ∧ RepOk nr (uAns n m v ce u (s u) kd pl ct).1)
    (Z : Nat → CX) (hz0 : Z 0 = K.X.outX)
    (hz : ∀ k, k < len → ∀ pr', PrL { K.X.pr with due := false } pr' → RecvOk n m v ce { Z k with pr := pr' } (lo + k : Nat) nr (uAns n m v ce (lo + k) (s (lo + k)) kd pl ct).1 ∧ ({ Z k with pr := pr' } : CX).recv n m (lo + k : Nat) nr (uAns n m v ce (lo + k) (s (lo + k)) kd pl ct).1 = { Z (k + 1) with pr := pr' } ∧ ResGo past.length (Z k).res (Z (k + 1)).res)
    (hp : ∀ k, k ≤ len → 0 ≤ (Z k).asked ∧ (Z k).asked ≤ 1000000 ∧ ∀ c, (Z k).pend = some c → c.q.nodes.length ≤ 100 ∧ c.q.nr ≠ K.X.pr.nr)
    (hNt : Nt past d K) (hn : K.now + 8 * (n * m : Nat) ≤ 400000) :
    ∃ K1 K2 pr', Step1 n m v ce K K1 ∧ Step1 n m v ce K1 K2 ∧ K2.us = usOf (n * m) (fun u => ⟨if lo ≤ u ∧ u < lo + len then (uAns n m v ce u (s u) kd pl ct).2 else s u, []⟩) ∧ K2.pool = [] ∧ K2.had = K.had ∧ Nt past d K2 ∧ K2.X = { Z len with pr := pr' } ∧ PrL { K.X.pr with due := false } pr' ∧ K2.now ≤ K.now + 8 * (n * m : Nat) ∧ K.now ≤ K2.now ∧ K1.pool = [] ∧ K.now ≤ K1.now ∧ K1.now ≤ K2.now := by
  have hprn : K.X.pr.nodes.length ≤ 100 := by
    rcases hpr with ⟨_, e, _⟩ | ⟨_, _, e⟩
    · rw [e, allOf_is, nodesOf_len]; omega
    · exact e
  have hoM : K.X.outM = ((List.range len).map fun (j : Nat) => .req ((lo + j : Nat) : Int) kd nr pl ct) ++ (if b then (List.range (n * m)).map fun (j : Nat) => .req ((0 + j : Nat) : Int) 1 nrP 0 no else []) := by
    unfold CX.outM
    rw [hc]
    simp only [Option.map_some, Option.getD_some]
    rw [hq, outM_nodes]
    congr 1
    rcases hpr with ⟨e, e2, _⟩ | ⟨e, e2, _⟩
    · rw [e2, e, allOf_is, outM_nodes]; rfl
    · rw [e]; unfold PQ.outM; rw [e2]; rfl
  have hO := outs_is (v := v) hus
  simp only [List.map_nil] at hO
  have hpoolO : (K.outs n m v).pool = K.X.outM := by rw [hO]; simp
  have hStep : StepOk n m K := by
    refine ⟨by rw [hus, usOf_len], fun U hU => ?_, ⟨?_, outP_len _ hprn, fun c' hc' => ?_⟩, ?_⟩
    · rw [hus] at hU
      simp only [usOf, List.mem_map] at hU
      obtain ⟨_, _, rfl⟩ := hU
      simp
    · rcases hpr with ⟨_, e2, _⟩ | ⟨_, e2, _⟩
      · rw [e2]
        intro _
        by_cases h0 : n * m = 0
        · exact .inl (by rw [allOf_is, h0]; rfl)
        · exact .inr ⟨rfl, by simp, by simp, by simp [no], by simp only [allOf_is, nodesOf_len]; omega, by simp only [allOf_is, nodesOf_len]; omega⟩
      · intro h
        rw [e2] at h
        simp at h
    · rw [hc] at hc'
      simp only [Option.some.injEq] at hc'
      subst hc'
      refine ⟨hnum, fun _ => .inr ?_, outP_len _ (by rw [hq]; simp only [nodesOf_len]; omega)⟩
      rw [hq]
      exact ⟨rfl, hreq.ok.k0, hreq.ok.k1, hreq.ok.v1, by simp only [nodesOf_len]; omega, by simp only [nodesOf_len]; omega⟩
    · rw [← CX.outM_raw, List.length_map, hoM, List.length_append, List.length_map, List.length_range]
      cases b <;> simp <;> omega
  have hKo : ({ K.outs n m v with pool := K.pool } : KW) = { K with us := usOf (n * m) fun u => ⟨s u, []⟩, X := K.X.outX } := by rw [hO]
  -- the question goes out
  have hNt0 : Nt past d ({ K.outs n m v with pool := K.pool } : KW) := by
    rw [hKo]
    have := hNt.same (usOf (n * m) fun u => ⟨s u, []⟩) K.pool K.now (Int.le_refl _) K.had
    exact ⟨this.old, this.len, this.ex, this.d0, this.beg, this.le, this.n0, this.val⟩
  obtain ⟨Ka, ra, a1, a2, a3, a4, a5, a6⟩ := runs_ask (n := n) (m := m) (v := v) (ce := ce) lo len hN hreq (K := { K.outs n m v with pool := K.pool }) (f := fun u => ⟨s u, []⟩) (by rw [hKo]) (fun u h1 h2 => ⟨by have := (hA u h1 h2).2.v1; simpa using this, by simp⟩) hNt0 (by rw [hKo]; simp only; omega)
  have hKnow : ({ K.outs n m v with pool := K.pool } : KW).now = K.now := by rw [hKo]
  have hKX : ({ K.outs n m v with pool := K.pool } : KW).X = K.X.outX := by rw [hKo]
  have hKhad : ({ K.outs n m v with pool := K.pool } : KW).had = K.had := by rw [hKo]
  have hKpool : ({ K.outs n m v with pool := K.pool } : KW).pool = [] := hpool
  rw [hKnow] at a4
  rw [hKX] at a2
  rw [hKhad] at a5
  rw [hKpool] at a3
  -- the probe goes out
  obtain ⟨f1, hf1⟩ : ∃ f1, f1 = fun u => if lo ≤ u ∧ u < lo + len then askF n m v ce (fun u => ⟨s u, []⟩) kd nr pl ct u else (⟨s u, []⟩ : UQ) := ⟨_, rfl⟩
  have hs1 : ∀ u, u < n * m → (f1 u).s.ep = 0 := fun u hu => by
    rw [hf1]
    dsimp only
    by_cases hin : lo ≤ u ∧ u < lo + len
    · rw [if_pos hin]; exact (hA u hin.1 hin.2).1
    · rw [if_neg hin]; exact s0 u hu
  have hq1 : ∀ u, (f1 u).q = if lo ≤ u ∧ u < lo + len then [(nr, (uAns n m v ce u (s u) kd pl ct).1)] else [] := fun u => by
    rw [hf1]
    dsimp only
    split <;> rfl
  rw [← hf1] at a1
  have sP : ∃ K1, Runs n m v ce Ka (if b then (List.range (n * m)).map fun (j : Nat) => .req ((0 + j : Nat) : Int) 1 nrP 0 no else []) K1 ∧ K1.us = usOf (n * m) (fun u => ⟨(f1 u).s, (f1 u).q ++ (if b then [(nrP, pAn)] else [])⟩) ∧ K1.X = K.X.outX ∧ K1.pool = [] ∧ K1.now ≤ K.now + 4 * (n * m : Nat) ∧ K.now ≤ K1.now ∧ K1.had = K.had ∧ Nt past d K1 := by
    cases hb : b
    · refine ⟨Ka, .nil _, ?_, a2, a3, by omega, by omega, a5, a6⟩
      rw [a1]
      exact usOf_congr fun u _ => by simp
    · have hsm : Sm nrP := by
        rcases hpr with ⟨_, _, e⟩ | ⟨e, _⟩
        · exact e
        · rw [hb] at e; simp at e
      obtain ⟨K1, r1, b1, b2, b3, b4, b5, b6⟩ := runs_ask (n := n) (m := m) (v := v) (ce := ce) 0 (n * m) (by omega) (reqOk (kd := 1) (nr := nrP) (pl := 0) (t := no) (.inl rfl) hsm sm0 ctOk_no (by decide) (fun _ => rfl)) (K := Ka) (f := f1) a1 (fun u _ hu => ⟨by rw [uAns_probe u _ (hs1 u (by omega))]; simp [pAn, an], by rw [hq1]; split <;> simp⟩) a6 (by omega)
      refine ⟨K1, by simpa using r1, ?_, b2.trans a2, b3.trans a3, by omega, by omega, b5.trans a5, b6⟩
      rw [b1]
      apply usOf_congr
      intro u hu
      rw [if_pos (by omega)]
      unfold askF
      rw [uAns_probe u _ (hs1 u hu)]
      simp
  obtain ⟨K1, r1, b1, b2, b3, b4, b4', b5, b6⟩ := sP
  have hne1 : (K.outs n m v).pool ≠ [] := by
    rw [hpoolO, hoM]
    intro e
    have := congrArg List.length e
    simp at this
    omega
  have hS1 : Step1 n m v ce K K1 := ⟨hStep, hne1, by rw [hpoolO, hoM]; exact ra.append r1⟩
  -- the answers come back
  have hX1M : K1.X.outM = [] := by
    rw [b2]
    unfold CX.outM CX.outX
    rw [hc]
    simp [PQ.outM]
  have hO1 := outs_is (v := v) b1
  have hpool1 : (K1.outs n m v).pool = (List.range (n * m)).flatMap fun u => (if lo ≤ u ∧ u < lo + len then [.rep u nr (uAns n m v ce u (s u) kd pl ct).1] else []) ++ (if b then [.rep u nrP pAn] else []) := by
    rw [hO1]
    simp only [hX1M, List.append_nil]
    congr 1
    funext u
    rw [hq1]
    by_cases hin : lo ≤ u ∧ u < lo + len
    · rw [if_pos hin, if_pos hin]; cases b <;> simp
    · rw [if_neg hin, if_neg hin]; cases b <;> simp
  have hoX : K1.X.outX = K.X.outX := by
    rw [b2]
    unfold CX.outX
    rw [hc]
    simp
  have hK1o : ({ K1.outs n m v with pool := K1.pool } : KW) = { K1 with us := usOf (n * m) fun u => ⟨(f1 u).s, []⟩ } := by rw [hO1, hoX, b2]
  have hNt1 : Nt past d ({ K1.outs n m v with pool := K1.pool } : KW) := by
    rw [hK1o]
    exact b6.same _ _ _ (Int.le_refl _) _
  have hK1X : ({ K1.outs n m v with pool := K1.pool } : KW).X = K.X.outX := by rw [hK1o]; exact b2
  obtain ⟨K2, r2, ⟨pr', c1, c2⟩, c3, c4, c5, c6, c7, c8⟩ := runs_back (n := n) (m := m) (v := v) (ce := ce) (past := past) (d := d) lo len hN nr nrP (fun u => (uAns n m v ce u (s u) kd pl ct).1) pAn b { K.X.pr with due := false } Z (by exact hprn) (by decide) (fun u h1 h2 => (hA u h1 h2).2) (fun hb => by
      rcases hpr with ⟨_, _, e⟩ | ⟨e, _⟩
      · exact repOk e (by unfold Sm; decide) sm0 sm0 ctOk_no
      · rw [hb] at e; simp at e) (fun hb => by
      rcases hpr with ⟨_, e, _⟩ | ⟨e, _⟩
      · rw [e]
      · rw [hb] at e; simp at e) hz hp (K := { K1.outs n m v with pool := K1.pool }) ⟨{ K.X.pr with due := false }, by rw [hK1X, hz0]; rfl, PrL.refl _⟩ hNt1 (by rw [hK1o]; simp only; omega)
  have hne2 : (K1.outs n m v).pool ≠ [] := by
    rw [hpool1]
    intro e
    rw [List.flatMap_eq_nil_iff] at e
    have := e lo (List.mem_range.2 (by omega))
    rw [if_pos (by omega)] at this
    simp at this
  have hStep1 : StepOk n m K1 := by
    refine ⟨by rw [b1, usOf_len], fun U hU => ?_, ⟨?_, outP_len _ (by rw [b2]; exact hprn), fun c' hc' => ?_⟩, ?_⟩
    · rw [b1] at hU
      simp only [usOf, List.mem_map] at hU
      obtain ⟨u, _, rfl⟩ := hU
      simp only [hq1]
      split <;> cases b <;> simp
    · intro h
      rw [b2] at h
      simp [CX.outX] at h
    · rw [b2] at hc'
      simp only [CX.outX, hc, Option.map_some, Option.some.injEq] at hc'
      subst hc'
      refine ⟨hnum, fun h => by simp at h, outP_len _ ?_⟩
      simp only
      rw [hq]; simp only [nodesOf_len]; omega
    · rw [← CX.outM_raw, hX1M]; simp
  have hS2 : Step1 n m v ce K1 K2 := ⟨hStep1, hne2, by rw [hpool1]; exact r2⟩
  have hn1 : ({ K1.outs n m v with pool := K1.pool } : KW).now = K1.now := by rw [hK1o]
  refine ⟨K1, K2, pr', hS1, hS2, ?_, c4.trans b3, ?_, c6, c1, c2, by rw [hn1] at c7; omega, by rw [hn1] at c8; omega, b3, by omega, by rw [hn1] at c8; omega⟩
  · rw [c3, hK1o]
    apply usOf_congr
    intro u _
    rw [hf1]
    dsimp only
    split <;> rfl
  · rw [c5, hK1o]; exact b5
end
end Go.Proofs.YtnhjmiglegdamaaGreat

namespace Go.Proofs.YtnhjmiglegdamaaGreat
open Go.RowKit Go.Maps
/-- A unit of chain k, when L tells the contents of the addresses. -/
def uS (n : Nat) (L : Nat → Ct) (mark : Int) (k : Nat) : St := ⟨0, mark, fun i => L (i * n + k)⟩
def updL (L : Nat → Ct) (a : Nat) (t : Ct) : Nat → Ct := fun x => if x = a then t else L x
theorem updL_self (L : Nat → Ct) (a : Nat) : updL L a (L a) = L := by funext x; unfold updL; split <;> simp_all
/-- What is told of an address. -/
def seenC (L : Nat → Ct) (mark : Int) (a : Nat) : Int × Int × Ct :=
  if (a : Int) < mark then (4, mark, { L a with val := [] }) else if (L a).kd = 0 then (3, 0, ⟨0, 0, 0, []⟩) else (2, 0, L a)
section
variable {n m v : Nat} {ce : Int}
theorem loc_nat {a : Nat} (hA : AdOk n m v ce a) : loc n m v ce a = (((a % n : Nat) : Int), ((a / n : Nat) : Int), 0) := by
  unfold loc
  rw [if_pos hA.fit, if_neg (by have := hA.lo; have := hA.hi; omega)]
  simp
theorem look_nat {a : Nat} (hA : AdOk n m v ce a) (L : Nat → Ct) (mark : Int) : lookC n m v ce ((a % n : Nat) : Int) mark (uS n L mark (a % n)).ct a = seenC L mark a := by
  unfold lookC seenC uS
  rw [loc_nat hA]
  have e : a / n * n + a % n = a := by rw [Nat.mul_comm]; exact Nat.div_add_mod a n
  simp only [Int.toNat_natCast, e, ne_eq, not_true_eq_false, or_self, if_false]
theorem uAns_write {a j : Nat} (hA : AdOk n m v ce a) (hj : j < m) (L : Nat → Ct) (mark : Int) (t : Ct) (hc : isC t.kd t.val.length = true) :
    uAns n m v ce (a % n * m + j) (uS n L mark (a % n)) 2 a t = if (a : Int) < mark ∨ (L a).kd ≠ 0 then (⟨(seenC L mark a).1, 0, (seenC L mark a).2.1, (seenC L mark a).2.2⟩, uS n L mark (a % n)) else (an 1 0 0, uS n (updL L a t) mark (a % n)) := by
  have hd : (a % n * m + j) / m = a % n := by
    rw [Nat.mul_comm, Nat.mul_add_div (by omega), Nat.div_eq_of_lt hj, Nat.add_zero]
  have hn : 0 < n := by have := fit_bd hA.fit; omega
  unfold uAns ansA writeA lookA
  rw [hd, if_neg (by decide), if_pos rfl, if_neg (by simp [uS]), if_neg (by rw [hc]; decide)]
  show (if (lookC n m v ce ((a % n : Nat) : Int) mark (uS n L mark (a % n)).ct a).1 = 3 then _ else _) = _
  have hl : lookC n m v ce ((a % n : Nat) : Int) (uS n L mark (a % n)).mark (uS n L mark (a % n)).ct a = seenC L mark a := look_nat hA L mark
  rw [hl, look_nat hA]
  by_cases h : (a : Int) < mark ∨ (L a).kd ≠ 0
  · rw [if_pos h]
    have h3 : (seenC L mark a).1 ≠ 3 := by
      unfold seenC
      by_cases h1 : (a : Int) < mark
      · rw [if_pos h1]; simp
      · rw [if_neg h1, if_neg (h.resolve_left h1)]; simp
    rw [if_neg h3]
    rfl
  · rw [if_neg h]
    have h3 : (seenC L mark a).1 = 3 := by
      unfold seenC
      rw [if_neg (fun h1 => h (.inl h1)), if_pos (Classical.byContradiction fun h1 => h (.inr h1))]
    rw [if_pos h3]
    unfold uS updL
    congr 2
    funext i
    have hcel : cel n m v ce a = a / n := by unfold cel; rw [loc_nat hA]; exact Int.toNat_natCast _
    rw [hcel]
    have key : (i = a / n) ↔ (i * n + a % n = a) := by
      constructor
      · rintro rfl; rw [Nat.mul_comm]; exact Nat.div_add_mod a n
      · intro e
        have h1 : (i * n + a % n) / n = i := by rw [Nat.mul_comm, Nat.mul_add_div hn, Nat.div_eq_of_lt (Nat.mod_lt a hn), Nat.add_zero]
        rw [e] at h1; exact h1.symm
    by_cases hi : i = a / n
    · rw [if_pos hi, if_pos (key.1 hi)]
    · rw [if_neg hi, if_neg (fun e => hi (key.2 e))]
theorem uAns_read {a j : Nat} (hA : AdOk n m v ce a) (hj : j < m) (L : Nat → Ct) (mark : Int) :
    uAns n m v ce (a % n * m + j) (uS n L mark (a % n)) 3 a no = (⟨(seenC L mark a).1, 0, (seenC L mark a).2.1, (seenC L mark a).2.2⟩, uS n L mark (a % n)) := by
  have hd : (a % n * m + j) / m = a % n := by
    rw [Nat.mul_comm, Nat.mul_add_div (by omega), Nat.div_eq_of_lt hj, Nat.add_zero]
  unfold uAns ansA readA lookA
  have hl : lookC n m v ce ((a % n : Nat) : Int) (uS n L mark (a % n)).mark (uS n L mark (a % n)).ct a = seenC L mark a := look_nat hA L mark
  rw [hd, if_neg (by decide), if_neg (by decide), if_pos rfl, if_neg (by simp [uS]), hl]
  rfl
theorem uAns_trim (u k : Nat) (L : Nat → Ct) (mark t : Int) : uAns n m v ce u (uS n L mark k) 4 t no = (an 1 0 (max mark t), uS n L (max mark t) k) := by
  unfold uAns ansA trimA
  have e : (if mark < t then t else mark) = max mark t := by split <;> omega
  rw [if_neg (by decide), if_neg (by decide), if_neg (by decide), if_neg (by simp [uS])]
  show (an 1 0 (if mark < t then t else mark), (⟨0, if mark < t then t else mark, fun i => L (i * n + k)⟩ : St)) = _
  rw [e]
  rfl
end
/-- The contents that the first k calls have left. -/
def LOk (L : Nat → Ct) (k : Nat) : Prop := ∀ a, L a = no ∨ (isC (L a).kd (L a).val.length = true ∧ CtOk (L a) ∧ (L a).cl = 1000 ∧ 0 ≤ (L a).ca ∧ (L a).ca < k)
theorem isC_kd {kd : Int} {l : Nat} (h : isC kd l = true) : kd = 8 ∨ kd = 9 := by
  unfold isC at h
  by_cases h8 : kd = 8
  · exact .inl h8
  · rw [if_neg h8] at h
    by_cases h9 : kd = 9
    · exact .inr h9
    · rw [if_neg h9] at h; simp at h
theorem LOk.ct {L : Nat → Ct} {k : Nat} (h : LOk L k) (a : Nat) : CtOk (L a) := by
  rcases h a with e | e
  · rw [e]; exact ctOk_no
  · exact e.2.1
theorem LOk.full {L : Nat → Ct} {k : Nat} (h : LOk L k) {a : Nat} (ha : (L a).kd ≠ 0) : isC (L a).kd (L a).val.length = true ∧ (L a).cl = 1000 ∧ 0 ≤ (L a).ca ∧ (L a).ca < k := by
  rcases h a with e | e
  · rw [e] at ha; exact absurd rfl ha
  · exact ⟨e.1, e.2.2⟩
theorem LOk.mono {L : Nat → Ct} {k k' : Nat} (h : LOk L k) (hk : k ≤ k') : LOk L k' := fun a => by
  rcases h a with e | ⟨e1, e2, e3, e4, e5⟩
  · exact .inl e
  · exact .inr ⟨e1, e2, e3, e4, by omega⟩
theorem LOk.upd {L : Nat → Ct} {k : Nat} (h : LOk L k) (a : Nat) (t : Ct) (h1 : isC t.kd t.val.length = true) (h2 : CtOk t) (h3 : t.cl = 1000) (h4 : 0 ≤ t.ca) (h5 : t.ca < k) : LOk (updL L a t) k := fun x => by
  unfold updL
  by_cases e : x = a
  · rw [if_pos e]; exact .inr ⟨h1, h2, h3, h4, h5⟩
  · rw [if_neg e]; exact h x
theorem seen_ok {L : Nat → Ct} {k : Nat} (h : LOk L k) {mark : Int} (hm : Sm mark) (a : Nat) {nr : Int} (hnr : Sm nr) : RepOk nr ⟨(seenC L mark a).1, 0, (seenC L mark a).2.1, (seenC L mark a).2.2⟩ := by
  have hc := h.ct a
  unfold seenC
  by_cases h1 : (a : Int) < mark
  · rw [if_pos h1]
    exact repOk hnr (by unfold Sm; simp) sm0 hm ⟨hc.kd, hc.cl, hc.ca, by simp, fun d hd => by simp at hd⟩
  · rw [if_neg h1]
    by_cases h2 : (L a).kd = 0
    · rw [if_pos h2]; exact repOk hnr (by unfold Sm; simp) sm0 sm0 ctOk_no
    · rw [if_neg h2]; exact repOk hnr (by unfold Sm; simp) sm0 sm0 hc
end Go.Proofs.YtnhjmiglegdamaaGreat

namespace Go.Proofs.YtnhjmiglegdamaaGreat
open Go.RowKit Go.Maps
section
variable {n m v : Nat} {ce : Int} {past : List PK} {d : PK}
theorem goOn_pr (X : CX) (pr' : PQ) (c : PC) (A : An) : ({ X with pr := pr' } : CX).goOn n m c A = { X.goOn n m c A with pr := pr' } := by
  unfold CX.goOn CX.looked CX.wrote CX.taken CX.trimmed CX.goAlong CX.lay CX.writeNext CX.ask CX.end'
  repeat' split
  all_goals rfl
theorem recv_call {X : CX} {c : PC} {nr u : Int} {A : An} (hp : X.pend = some c) (hnr : X.pr.nr ≠ nr) (haw : c.q.awaits nr u = true) : X.recv n m u nr A = X.goOn n m { c with q := { c.q with ans := c.q.ans ++ [(u, A)] } } A := by
  unfold CX.recv
  rw [awaits_nr hnr, if_neg (by decide), hp]
  simp only [haw, if_true]
theorem recv_old {X : CX} {c : PC} {nr u : Int} {A : An} (hp : X.pend = some c) (hnr : X.pr.nr ≠ nr) (hq : c.q.nr ≠ nr) : X.recv n m u nr A = X := by
  unfold CX.recv
  rw [awaits_nr hnr, if_neg (by decide), hp]
  simp only [awaits_nr hq, Bool.false_eq_true, if_false]
/-- A client that asks. -/
structure AskOk (n m : Nat) (X : CX) (c : PC) (b : Bool) (l : Nat) : Prop where
  pend : X.pend = some c
  num : c.num = l
  ne : X.pr.nr ≠ c.q.nr
  prn : X.pr.nr ≤ X.asked
  q0 : 0 ≤ c.q.nr
  qn : c.q.nr ≤ X.asked
  a1 : X.asked + 100 ≤ 1000000
  pr0 : 1 ≤ X.pr.nr
  pr : (b = true ∧ X.pr = ⟨1, X.pr.nr, 0, no, allOf n m, true, []⟩) ∨ (b = false ∧ X.pr.due = false ∧ X.pr.nodes.length ≤ 100)
  r0 : ∃ r0, X.res[l]? = some r0 ∧ r0.wh = 0
theorem AskOk.hpr {X : CX} {c : PC} {b : Bool} {l : Nat} (h : AskOk n m X c b l) : (b = true ∧ X.pr = ⟨1, X.pr.nr, 0, no, allOf n m, true, []⟩ ∧ Sm X.pr.nr) ∨ (b = false ∧ X.pr.due = false ∧ X.pr.nodes.length ≤ 100) := by
  rcases h.pr with ⟨h1, h2⟩ | h1
  · exact .inl ⟨h1, h2, by have := h.pr0; have := h.prn; have := h.a1; unfold Sm; omega⟩
  · exact .inr h1
theorem AskOk.hpn {X : CX} {c : PC} {b : Bool} {l : Nat} (h : AskOk n m X c b l) (hnm : n * m ≤ 50) : X.pr.nodes.length ≤ 100 := by
  rcases h.pr with ⟨_, e⟩ | ⟨_, _, e⟩
  · rw [e, allOf_is, nodesOf_len]; omega
  · exact e
theorem AskOk.sm {X : CX} {c : PC} {b : Bool} {l : Nat} (h : AskOk n m X c b l) : Sm c.q.nr := by have := h.q0; have := h.qn; have := h.a1; unfold Sm; omega
theorem outX_pend {X : CX} {c : PC} (h : X.pend = some c) : X.outX.pend = some { c with q := { c.q with due := false } } := by unfold CX.outX; rw [h]; rfl
theorem uS_other (L : Nat → Ct) (mark : Int) (a k : Nat) (t : Ct) (hn : k < n) (hk : k ≠ a % n) : uS n (updL L a t) mark k = uS n L mark k := by
  unfold uS updL
  congr 1
  funext i
  rw [if_neg]
  intro e
  apply hk
  rw [← e, Nat.mul_comm, Nat.mul_add_mod, Nat.mod_eq_of_lt hn]
/-- A write at place j, asked and answered. -/
theorem dblW {K : KW} {Lf : Nat → Nat → Ct} {mark : Int} (hus : K.us = usOf (n * m) fun u => ⟨uS n (Lf (u % m)) mark (u / m), []⟩) (hpool : K.pool = []) {c : PC} {b : Bool} (hX : AskOk n m K.X c b past.length) {a j : Nat} (hA : AdOk n m v ce a) (had : c.addr = a) (hj : j < m) (hpl : c.place = j) (hq : c.q = ⟨2, c.q.nr, a, c.cont, nodesOf (a % n * m + j) 1, true, []⟩) (hct : CtOk c.cont) (hisC : isC c.cont.kd c.cont.val.length = true) (hL : LOk (Lf j) (past.length + 1)) (hm : Sm mark)
    (A : An) (hAe : A = if (a : Int) < mark ∨ (Lf j a).kd ≠ 0 then ⟨(seenC (Lf j) mark a).1, 0, (seenC (Lf j) mark a).2.1, (seenC (Lf j) mark a).2.2⟩ else an 1 0 0)
    (X' : CX) (hX' : X' = K.X.outX.wrote n m { c with q := { c.q with due := false, ans := [(((a % n * m + j : Nat) : Int), A)] } } A) (hW : WrOk c A) (hG : ResGo past.length K.X.res X'.res) (hasked : K.X.asked ≤ X'.asked ∧ X'.asked ≤ K.X.asked + 1) (hq' : ∀ c', X'.pend = some c' → c'.q.nodes.length ≤ 100 ∧ c'.q.nr ≠ K.X.pr.nr)
    (hNt : Nt past d K) (hn : K.now + 8 * (n * m : Nat) ≤ 400000) :
    ∃ K1 K2 pr', Step1 n m v ce K K1 ∧ Step1 n m v ce K1 K2 ∧ K2.us = usOf (n * m) (fun u => ⟨uS n ((if u % m = j then (if (a : Int) < mark ∨ (Lf j a).kd ≠ 0 then Lf j else updL (Lf j) a c.cont) else Lf (u % m))) mark (u / m), []⟩) ∧ K2.pool = [] ∧ K2.had = K.had ∧ Nt past d K2 ∧ K2.X = { X' with pr := pr' } ∧ PrL { K.X.pr with due := false } pr' ∧ K2.now ≤ K.now + 8 * (n * m : Nat) ∧ K.now ≤ K2.now ∧ K1.pool = [] ∧ K.now ≤ K1.now ∧ K1.now ≤ K2.now := by
  obtain ⟨f1, f2, f3, f4⟩ := fit_bd hA.fit
  have hm3 : 1 ≤ m ∧ m ≤ 3 := by have := hA.fit; simp [fit] at this; omega
  have hn3 : 1 ≤ n ∧ n ≤ 3 := by omega
  have hmod : a % n < n := Nat.mod_lt a (by omega)
  have hNm : a % n * m + j + 1 ≤ n * m := by
    have : (a % n + 1) * m ≤ n * m := Nat.mul_le_mul_right m hmod
    rw [Nat.add_mul] at this
    omega
  have hnm : n * m ≤ 50 := by
    have := Nat.mul_le_mul hn3.2 hm3.2
    omega
  have hdiv : (a % n * m + j) / m = a % n := by rw [Nat.mul_comm, Nat.mul_add_div (by omega), Nat.div_eq_of_lt hj, Nat.add_zero]
  have hmd : (a % n * m + j) % m = j := by rw [Nat.mul_comm, Nat.mul_add_mod, Nat.mod_eq_of_lt hj]
  have hans := uAns_write (v := v) hA hj (Lf j) mark c.cont hisC
  have hs : (fun u => uS n (Lf (u % m)) mark (u / m)) (a % n * m + j) = uS n (Lf j) mark (a % n) := by simp only [hdiv, hmd]
  have hA1 : (uAns n m v ce (a % n * m + j) (uS n (Lf j) mark (a % n)) 2 a c.cont).1 = A := by
    rw [hans, hAe]; split <;> rfl
  have hA2 : (uAns n m v ce (a % n * m + j) (uS n (Lf j) mark (a % n)) 2 a c.cont).2 = uS n (if (a : Int) < mark ∨ (Lf j a).kd ≠ 0 then Lf j else updL (Lf j) a c.cont) mark (a % n) := by
    rw [hans]; split <;> rfl
  have hAok : RepOk c.q.nr A := by
    rw [hAe]
    split
    · exact seen_ok hL hm a hX.sm
    · exact repOk hX.sm (by unfold Sm; simp [an]) sm0 sm0 ctOk_no
  have h5 : A.wh ≠ 5 := by
    rcases hW with e | ⟨e, _⟩ | ⟨e, _⟩ <;> rw [e] <;> decide
  have hnum : c.num ≤ 1000 := by rw [hX.num]; have := hNt.le; omega
  obtain ⟨K1, K2, pr', s1, s2, e1, e2, e3, e4, e5, e6, e7, e8⟩ := dbl (n := n) (m := m) (v := v) (ce := ce) (past := past) (d := d) (s := fun u => uS n (Lf (u % m)) mark (u / m)) hus hpool hX.pend (lo := a % n * m + j) (len := 1) hNm hnm (by decide) hq (reqOk (.inr (.inl rfl)) hX.sm (by have := hA.lo; have := hA.hi; have := mul_bd f1 f2 f3 f4; unfold Sm; omega) hct (fun _ => hisC) (fun h => absurd rfl h)) hnum b K.X.pr.nr hX.hpr (fun _ _ => rfl) (fun u h1 h2 => by
      have : u = a % n * m + j := by omega
      subst this
      simp only [hdiv, hmd]
      rw [hA1, hA2]
      exact ⟨rfl, hAok⟩) (fun k => if k = 0 then K.X.outX else X') rfl (fun k hk pr' hpr' => by
      have : k = 0 := by omega
      subst this
      simp only [Nat.add_zero, if_true, hdiv, hmd, Nat.zero_add, Nat.one_ne_zero, if_false]
      rw [hA1]
      have hne : ({ K.X.outX with pr := pr' } : CX).pr.nr ≠ c.q.nr := by
        show pr'.nr ≠ c.q.nr
        rw [hpr'.nr]; exact hX.ne
      have haw : ({ c.q with due := false } : PQ).awaits c.q.nr ((a % n * m + j : Nat) : Int) = true := by
        rw [hq]
        simp [PQ.awaits, nodesOf]
      refine ⟨⟨?_, fun c' hc' => ?_, h5, ?_, ?_, fun c' hc' _ _ => ?_⟩, ?_, ?_⟩
      · show pr'.nodes.length ≤ 100
        rw [hpr'.nodes]; exact hX.hpn hnm
      · have hc2 := (outX_pend hX.pend).symm.trans hc'
        simp only [Option.some.injEq] at hc2
        subst hc2
        simp only
        rw [hq]; simp [nodesOf_len]
      · have := hX.q0; have := hX.qn; show 0 ≤ K.X.asked; omega
      · have := hX.a1; show K.X.asked ≤ 1000000; omega
      · have hc2 := (outX_pend hX.pend).symm.trans hc'
        simp only [Option.some.injEq] at hc2
        subst hc2
        exact .write (by simp only; rw [hq]) (by simp only; rw [had]; exact hA) (by simp only; omega) (by
          rcases hW with e | ⟨e, e'⟩ | ⟨e, e', e''⟩
          · exact .inl e
          · exact .inr (.inl ⟨e, e'⟩)
          · exact .inr (.inr ⟨e, e', e''⟩))
      · rw [recv_call (X := { K.X.outX with pr := pr' }) (c := { c with q := { c.q with due := false } }) (by exact outX_pend hX.pend) hne haw, goOn_pr, hX']
        have hk2 : c.q.kd = 2 := by rw [hq]
        have ha0 : c.q.ans = [] := by rw [hq]
        simp only [CX.goOn, hk2, ha0, List.nil_append]
        rw [if_neg (by decide), if_pos trivial]
      · exact hG) (fun k hk => by
      have : k = 0 ∨ k = 1 := by omega
      rcases this with rfl | rfl
      · simp only [if_true]
        refine ⟨by have := hX.q0; have := hX.qn; show 0 ≤ K.X.asked; omega, by have := hX.a1; show K.X.asked ≤ 1000000; omega, fun c' hc' => ?_⟩
        rw [outX_pend hX.pend] at hc'
        simp only [Option.some.injEq] at hc'
        subst hc'
        refine ⟨by simp only; rw [hq]; simp [nodesOf_len], Ne.symm hX.ne⟩
      · simp only [Nat.one_ne_zero, if_false]
        exact ⟨by have := hX.q0; have := hX.qn; omega, by have := hX.a1; omega, hq'⟩) hNt hn
  refine ⟨K1, K2, pr', s1, s2, ?_, e2, e3, e4, by simpa using e5, e6, e7, e8⟩
  rw [e1]
  apply usOf_congr
  intro u hu
  by_cases hin : a % n * m + j ≤ u ∧ u < a % n * m + j + 1
  · have : u = a % n * m + j := by omega
    subst this
    rw [if_pos hin]
    simp only [hdiv, hmd, if_true]
    rw [hA2]
  · rw [if_neg hin]
    by_cases hj2 : u % m = j
    · rw [if_pos hj2, hj2]
      congr 1
      split
      · rfl
      · rw [uS_other]
        · exact Nat.div_lt_of_lt_mul (by rw [Nat.mul_comm]; exact hu)
        · intro e
          apply hin
          have := Nat.div_add_mod u m
          rw [e, hj2, Nat.mul_comm] at this
          omega
    · rw [if_neg hj2]
end
end Go.Proofs.YtnhjmiglegdamaaGreat

namespace Go.Proofs.YtnhjmiglegdamaaGreat
open Go.RowKit Go.Maps
section
variable {n m v : Nat} {ce : Int} {past : List PK} {d : PK}
/-- The first k of the units lo .. have answered. -/
def ansK (lo : Nat) (A : Nat → An) (k : Nat) : List (Int × An) := (List.range k).map fun j => (((lo + j : Nat) : Int), A (lo + j))
theorem ansK_len (lo : Nat) (A : Nat → An) (k : Nat) : (ansK lo A k).length = k := by simp [ansK]
theorem ansK_succ (lo : Nat) (A : Nat → An) (k : Nat) : ansK lo A (k + 1) = ansK lo A k ++ [(((lo + k : Nat) : Int), A (lo + k))] := by simp [ansK, List.range_succ]
theorem ansK_nodup (lo : Nat) (A : Nat → An) (k : Nat) : ((ansK lo A k).map (·.1)).Nodup := by
  unfold ansK
  rw [List.map_map]
  refine List.Pairwise.map _ (fun a b h => ?_) (List.nodup_range (n := k))
  simp only [Function.comp_apply]
  omega
theorem ansK_aw (kd nr pl : Int) (ct : Ct) (lo len : Nat) (due : Bool) (A : Nat → An) (k : Nat) (hk : k < len) : (PQ.mk kd nr pl ct (nodesOf lo len) due (ansK lo A k)).awaits nr ((lo + k : Nat) : Int) = true := by
  unfold PQ.awaits
  simp only [decide_true, Bool.true_and, Bool.and_eq_true, decide_eq_true_eq, Bool.not_eq_true']
  refine ⟨(nodesOf_mem lo len (lo + k)).2 (by omega), ?_⟩
  rw [List.any_eq_false]
  intro z hz
  simp only [ansK, List.mem_map, List.mem_range] at hz
  obtain ⟨j, hj, rfl⟩ := hz
  simp only [beq_iff_eq]
  omega
theorem ansK_count (lo : Nat) (A : Nat → An) (w : Int) (hA : ∀ j, (A (lo + j)).wh = w) (k : Nat) (x : Int) : ((ansK lo A k).filter fun z => z.2.wh == x).length = if w = x then k else 0 := by
  induction k with
  | zero => simp [ansK]
  | succ k ih =>
    rw [ansK_succ, List.filter_append, List.length_append, ih]
    simp only [List.filter_cons, List.filter_nil, hA k]
    by_cases e : w = x
    · simp [e]
    · have : (w == x) = false := by simpa using e
      simp [e, this]
/-- The call's question, with k answers. -/
def qK (c : PC) (lo : Nat) (A : Nat → An) (k : Nat) : PC := { c with q := { c.q with due := false, ans := ansK lo A k } }
/-- A mark is laid on all units. -/
theorem dblT {K : KW} {Lf : Nat → Nat → Ct} {mark : Int} (hus : K.us = usOf (n * m) fun u => ⟨uS n (Lf (u % m)) mark (u / m), []⟩) (hpool : K.pool = []) {c : PC} {b : Bool} (hX : AskOk n m K.X c b past.length) (hf : fit n m v ce = true) {t : Int} (ht : Sm t) (hm : Sm mark) (hq : c.q = ⟨4, c.q.nr, t, no, nodesOf 0 (n * m), true, []⟩) (he : c.e.wh ≠ 0 ∧ c.e.val.length ≤ 255)
    (hNt : Nt past d K) (hn : K.now + 8 * (n * m : Nat) ≤ 400000) :
    ∃ K1 K2 pr', Step1 n m v ce K K1 ∧ Step1 n m v ce K1 K2 ∧ K2.us = usOf (n * m) (fun u => ⟨uS n (Lf (u % m)) (max mark t) (u / m), []⟩) ∧ K2.pool = [] ∧ K2.had = K.had ∧ Nt past d K2 ∧ K2.X = ⟨K.X.asked, K.X.res.set past.length c.e, pr', none⟩ ∧ PrL { K.X.pr with due := false } pr' ∧ K2.now ≤ K.now + 8 * (n * m : Nat) ∧ K.now ≤ K2.now ∧ K1.pool = [] ∧ K.now ≤ K1.now ∧ K1.now ≤ K2.now := by
  have hsm : 1 ≤ n ∧ n ≤ 3 ∧ 1 ≤ m ∧ m ≤ 3 := by have := hf; simp [fit] at this; omega
  have hnm : n * m ≤ 9 := by have := Nat.mul_le_mul hsm.2.1 hsm.2.2.2; omega
  have hnm1 : 1 ≤ n * m := Nat.mul_le_mul hsm.1 hsm.2.2.1
  have hsmx : Sm (max mark t) := by unfold Sm at *; omega
  obtain ⟨A, hA⟩ : ∃ A : Nat → An, A = fun _ => an 1 0 (max mark t) := ⟨_, rfl⟩
  have hAw : ∀ j, (A (0 + j)).wh = 1 := fun j => by rw [hA]; rfl
  have hnum : c.num ≤ 1000 := by rw [hX.num]; have := hNt.le; omega
  obtain ⟨r0, hr0, hr00⟩ := hX.r0
  obtain ⟨K1, K2, pr', s1, s2, e1, e2, e3, e4, e5, e6, e7⟩ := dbl (n := n) (m := m) (v := v) (ce := ce) (past := past) (d := d) (s := fun u => uS n (Lf (u % m)) mark (u / m)) hus hpool hX.pend (lo := 0) (len := n * m) (by omega) (by omega) hnm1 hq (reqOk (.inr (.inr (.inr rfl))) hX.sm ht ctOk_no (by decide) (fun _ => rfl)) hnum b K.X.pr.nr hX.hpr (fun _ _ => rfl) (fun u h1 h2 => by
      rw [uAns_trim]
      exact ⟨rfl, repOk hX.sm (by unfold Sm; simp [an]) sm0 hsmx ctOk_no⟩) (fun k => if k < n * m then { K.X.outX with pend := some (qK c 0 A k) } else ⟨K.X.asked, K.X.res.set past.length c.e, K.X.pr, none⟩) (by
      simp only [if_pos (show 0 < n * m by omega)]
      unfold CX.outX
      rw [hX.pend]
      have : c.q.ans = [] := by rw [hq]
      simp [qK, ansK, this]) (fun k hk pr' hpr' => by
      rw [uAns_trim]
      simp only [if_pos hk]
      have hne : ({ K.X.outX with pr := pr', pend := some (qK c 0 A k) } : CX).pr.nr ≠ c.q.nr := by
        show pr'.nr ≠ c.q.nr
        rw [hpr'.nr]; exact hX.ne
      have haw : (qK c 0 A k).q.awaits c.q.nr ((0 + k : Nat) : Int) = true := by
        unfold qK
        simp only
        rw [hq]
        exact ansK_aw 4 c.q.nr t no 0 (n * m) false A k hk
      have hrec : ({ K.X.outX with pr := pr', pend := some (qK c 0 A k) } : CX).recv n m ((0 + k : Nat) : Int) c.q.nr (an 1 0 (max mark t)) = { (if k + 1 < n * m then { K.X.outX with pend := some (qK c 0 A (k + 1)) } else (⟨K.X.asked, K.X.res.set past.length c.e, K.X.pr, none⟩ : CX)) with pr := pr' } := by
        rw [recv_call (X := { K.X.outX with pr := pr', pend := some (qK c 0 A k) }) (c := qK c 0 A k) rfl hne haw]
        have hk4 : c.q.kd = 4 := by rw [hq]
        have hnl : c.q.nodes.length = n * m := by rw [hq]; exact nodesOf_len _ _
        have hans : ansK 0 A k ++ [(((0 + k : Nat) : Int), an 1 0 (max mark t))] = ansK 0 A (k + 1) := by rw [ansK_succ, hA]
        have hcnt := ansK_count 0 A 1 hAw (k + 1) 1
        simp only [CX.goOn, qK, hk4, hans]
        rw [if_neg (by decide), if_neg (by decide)]
        unfold PQ.count
        simp only [hcnt, if_true, hnl]
        by_cases hlast : k + 1 < n * m
        · rw [if_neg (by omega), if_pos hlast]
        · rw [if_pos (by omega), if_neg hlast]
          unfold CX.end'
          simp only [hX.num]
          rfl
      refine ⟨⟨?_, fun c' hc' => ?_, by simp [an], ?_, ?_, fun c' hc' _ _ => ?_⟩, hrec, ?_⟩
      · show pr'.nodes.length ≤ 100
        rw [hpr'.nodes]; exact hX.hpn (by omega)
      · simp only [Option.some.injEq] at hc'
        subst hc'
        simp only [qK]
        rw [hq]; simp only [nodesOf_len]; omega
      · have := hX.q0; have := hX.qn; show 0 ≤ K.X.asked; omega
      · have := hX.a1; show K.X.asked ≤ 1000000; omega
      · simp only [Option.some.injEq] at hc'
        subst hc'
        refine .trim (by simp only [qK]; rw [hq]) ?_ ?_ ?_
        · simp only [qK]; rw [hq]; simp only [nodesOf_len]; omega
        · simp only [qK]; rw [hq]; simp only [nodesOf_len]; omega
        · simp only [qK, List.length_append, ansK_len, List.length_cons, List.length_nil]; omega
      · by_cases hlast : k + 1 < n * m
        · rw [if_pos hlast]; exact ResGo.refl _ _
        · rw [if_neg hlast]
          exact .inr ⟨c.e, ⟨r0, hr0, hr00⟩, he.1, he.2, rfl⟩) (fun k hk => by
      by_cases hlt : k < n * m
      · simp only [if_pos hlt]
        refine ⟨by have := hX.q0; have := hX.qn; show 0 ≤ K.X.asked; omega, by have := hX.a1; show K.X.asked ≤ 1000000; omega, fun c' hc' => ?_⟩
        simp only [Option.some.injEq] at hc'
        subst hc'
        refine ⟨by simp only [qK]; rw [hq]; simp only [nodesOf_len]; omega, Ne.symm hX.ne⟩
      · simp only [if_neg hlt]
        exact ⟨by have := hX.q0; have := hX.qn; omega, by have := hX.a1; omega, fun c' hc' => by simp at hc'⟩) hNt hn
  refine ⟨K1, K2, pr', s1, s2, ?_, e2, e3, e4, ?_, e6, e7⟩
  · rw [e1]
    apply usOf_congr
    intro u hu
    rw [if_pos (by omega), uAns_trim]
  · rw [e5]
    simp
/-- Two steps more. -/
theorem exch2 {K K1 K2 K' : KW} {j : Nat} (s1 : Step1 n m v ce K K1) (s2 : Step1 n m v ce K1 K2) (r : Exch n m v ce K2 j K') : Exch n m v ce K (j + 2) K' := .more K K1 (j + 1) K' s1 (.more K1 K2 j K' s2 r)
end
end Go.Proofs.YtnhjmiglegdamaaGreat
