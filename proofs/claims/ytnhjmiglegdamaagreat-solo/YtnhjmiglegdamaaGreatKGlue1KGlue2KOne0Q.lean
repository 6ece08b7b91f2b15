-- Between calls; a read, a fill, a trim, whole.
-- An append, whole.
-- What a call that has ended tells.
import Derived.Test.YtnhjmiglegdamaaGreatKReck6KRecvKHandQ
import Derived.Test.YtnhjmiglegdamaaGreatKOutVKStep0KStepKBeatKCall0Q
import Derived.Test.YtnhjmiglegdamaaGreatKPoolSFirstKPickKOut0Q
import Derived.BigQuiet
namespace Go.Proofs.YtnhjmiglegdamaaGreat
open Go.RowKit Go.Maps
/-- No call goes on. -/
structure Idle (n m : Nat) (K : KW) (L : Nat → Ct) (mark : Int) : Prop where
  us : K.us = usOf (n * m) fun u => ⟨uS n L mark (u / m), []⟩
  pool : K.pool = []
  pend : K.X.pend = none
  due : K.X.pr.due = false
  prn : K.X.pr.nodes.length ≤ 100
  pr0 : 0 ≤ K.X.pr.nr
  pra : K.X.pr.nr ≤ K.X.asked
  res : K.X.res = K.calls.map (·.r)
  fin : ∀ c ∈ K.calls, c.fin ≠ 0
  val : ∀ c ∈ K.calls, c.r.val.length ≤ 255
  le : K.calls.length ≤ 50
  n0 : 0 ≤ K.now
  L : LOk L K.calls.length
  mko : 0 ≤ mark ∧ mark ≤ 100
section
variable {n m v : Nat} {ce : Int} {K : KW} {L : Nat → Ct} {mark : Int}
theorem zip_same {t : Int} : ∀ (cs : List PK) (R : List Rz), R.length = cs.length → (∀ c ∈ cs, c.fin ≠ 0) → List.zipWith (PK.see t) cs R = cs
  | [], [], _, _ => rfl
  | [], _ :: _, h, _ => by simp at h
  | _ :: _, [], h, _ => by simp at h
  | c :: cs, r :: R, h, hp => by
    rw [List.zipWith_cons_cons, see_old (hp c (List.mem_cons_self ..)), zip_same cs R (by simpa using h) fun c hc => hp c (List.mem_cons_of_mem _ hc)]
theorem Idle.watch (h : Idle n m K L mark) : K.watch = { K with now := K.now + 1 } := by
  unfold KW.watch
  rw [zip_same K.calls K.X.res (by rw [h.res]; simp) h.fin]
theorem Idle.ok (h : Idle n m K L mark) (hn : K.now ≤ 400000) : WatchOk K :=
  ⟨by rw [h.res]; simp, by have := h.le; omega, fun i c r hc hr _ => by rw [h.res, List.getElem?_map, hc] at hr; simpa using hr, fun r hr => by
    rw [h.res, List.mem_map] at hr
    obtain ⟨c, hc, rfl⟩ := hr
    exact h.val c hc, h.n0, hn⟩
/-- A call has begun. -/
theorem Idle.call (h : Idle n m K L mark) (hn : K.now + 2 ≤ 400000) {X' : CX} (hX : X'.res = K.X.res ++ [⟨0, 0, []⟩]) {c : PK} (hc : c.fin = 0) (hb : c.beg = K.now + 1) :
    WatchOk K ∧ (∀ (i : Nat) (c : PK), K.watch.calls[i]? = some c → c.fin ≠ 0) ∧ WatchOk { K.watch with X := X', calls := K.watch.calls ++ [c] } ∧ ({ K.watch with X := X', calls := K.watch.calls ++ [c] } : KW).watch = { K with X := X', calls := K.calls ++ [c], now := K.now + 2 } ∧ Nt K.calls c { K with X := X', calls := K.calls ++ [c], now := K.now + 2 } := by
  rw [h.watch]
  have hl : K.X.res.length = K.calls.length := by rw [h.res]; simp
  have hn0 := h.n0
  have hle := h.le
  have hlast : X'.res[K.calls.length]? = some ⟨0, 0, []⟩ := by rw [hX, List.getElem?_append_right (by omega), hl]; simp
  have hNt : ∀ now : Int, K.now + 1 ≤ now → Nt K.calls c { K with X := X', calls := K.calls ++ [c], now := now } := fun now hnow => by
    refine ⟨fun i c' hc' => ⟨?_, h.fin c' (List.mem_of_getElem? hc')⟩, ?_, ⟨c, ⟨0, 0, []⟩, rfl, hlast, .inl ⟨rfl, rfl⟩⟩, hc, by simp only; omega, by omega, by omega, fun r hr => ?_⟩
    · simp only [hX, h.res]
      rw [List.getElem?_append_left (by simp; exact (List.getElem?_eq_some_iff.1 hc').1), List.getElem?_map, hc']; rfl
    · simp only [hX, List.length_append, hl]; rfl
    · simp only [hX, List.mem_append, h.res] at hr
      rcases hr with hr | hr
      · obtain ⟨c', hc', rfl⟩ := List.mem_map.1 hr
        exact h.val c' hc'
      · simp at hr; subst hr; simp
  refine ⟨h.ok (by omega), fun i c hc => h.fin c (List.mem_of_getElem? hc), (hNt (K.now + 1) (by omega)).ok (by simp only; omega), ?_, hNt (K.now + 2) (by omega)⟩
  unfold KW.watch
  simp only
  rw [zip_last (by rw [hX, List.length_append, hl]; rfl) hlast h.fin]
  have e : c.see (K.now + 1 + 1) ⟨0, 0, []⟩ = c := by unfold PK.see; rw [if_neg (fun e => e.2 rfl)]
  rw [e]
  congr 1
  omega
/-- A clock's tick, while a call goes on that wants nothing. -/
theorem tick_ask {X : CX} {c : PC} (hp : X.pend = some c) (hw : c.wants = false) {l : Nat} (hnum : c.num = l) (q0 : 0 ≤ c.q.nr) (qn : c.q.nr ≤ X.asked) (ha : X.asked + 101 ≤ 1000000) (hr : ∃ r0, X.res[l]? = some r0 ∧ r0.wh = 0) :
    AskOk n m (X.tickX n m) { c with q := { c.q with due := true } } true l ∧ (X.tickX n m).res = X.res ∧ (X.tickX n m).asked = X.asked + 1 := by
  have e : X.tickX n m = ({ X with pend := some { c with q := { c.q with due := true } } } : CX).probe n m := by
    unfold CX.tickX; rw [hp]; simp only [hw]; rfl
  rw [e]
  unfold CX.probe
  refine ⟨⟨rfl, hnum, ?_, ?_, q0, ?_, ?_, ?_, .inl ⟨rfl, rfl⟩, hr⟩, rfl, rfl⟩
  · simp only; omega
  · simp only; omega
  · simp only; omega
  · simp only; omega
  · simp only; omega
theorem Nt.reX {past : List PK} {d : PK} (h : Nt past d K) {X : CX} (hX : X.res = K.X.res) : Nt past d { K with X := X } := by
  obtain ⟨h1, h2, h3, h4, h5, h6, h7, h8⟩ := h
  exact ⟨by simp only [hX]; exact h1, by simp only [hX]; exact h2, by simp only [hX]; exact h3, h4, h5, h6, h7, by simp only [hX]; exact h8⟩
/-- A call has ended: nothing goes on. -/
theorem Ended.rest {K' : KW} {past : List PK} {d : PK} {L' : Nat → Ct} {mark' : Int} {r : Rz} (hE : Ended n m K K' past d L' mark' r) (hr : r.wh ≠ 0) (hl : past.length ≤ 49) (hL : LOk L' (past.length + 1)) (hm : 0 ≤ mark' ∧ mark' ≤ 100) (hv : ∀ c ∈ past, c.r.val.length ≤ 255) (hn : 0 ≤ K.now) :
    ∃ t, d.beg < t ∧ t ≤ K'.now ∧ K'.calls = past ++ [{ d with fin := t, r := r }] ∧ Idle n m K' L' mark' := by
  obtain ⟨c, r', e1, e2, e3⟩ := hE.nt.ex
  have hlen := hE.nt.len
  have hlen2 : past.length < K.X.res.length := by rw [hE.res, List.length_set] at hlen; omega
  have er : r' = r := by
    rw [hE.res, List.getElem?_set_self hlen2] at e2
    simpa using e2.symm
  subst er
  obtain ⟨_, t, t1, t2, hc⟩ := e3.resolve_left (fun e => hr e.1)
  have hd0 := hE.nt.n0
  have hfin : ∀ x ∈ past, x.fin ≠ 0 := fun x hx => by
    obtain ⟨i, hi, rfl⟩ := List.mem_iff_getElem.1 hx
    exact (hE.nt.old i _ (List.getElem?_eq_getElem hi)).2
  have hval : r'.val.length ≤ 255 := hE.nt.val r' (List.mem_of_getElem? e2)
  refine ⟨t, t1, t2, by rw [e1, hc], hE.us, hE.pool, hE.pend, hE.due, hE.prn, by have := hE.pr0; omega, hE.pra, ?_, ?_, ?_, ?_, by have := hE.n0; omega, ?_, hm⟩
  · apply List.ext_getElem?
    intro i
    rw [List.getElem?_map, e1]
    by_cases hi : i < past.length
    · rw [List.getElem?_append_left hi, List.getElem?_eq_getElem hi, (hE.nt.old i _ (List.getElem?_eq_getElem hi)).1]; rfl
    · by_cases hi2 : i = past.length
      · subst hi2
        rw [e2, List.getElem?_append_right (Nat.le_refl _), hc]; simp
      · rw [List.getElem?_eq_none (by omega), List.getElem?_eq_none (by simp; omega)]; rfl
  · intro x hx
    rw [e1, List.mem_append] at hx
    rcases hx with hx | hx
    · exact hfin x hx
    · simp at hx; subst hx; rw [hc]; simp only; omega
  · intro x hx
    rw [e1, List.mem_append] at hx
    rcases hx with hx | hx
    · exact hv x hx
    · simp at hx; subst hx; rw [hc]; exact hval
  · rw [e1]; simp; omega
  · rw [e1]; simpa using hL
/-- What a call has done, from where nothing goes on to there. -/
structure Did (n m v : Nat) (ce : Int) (K K1 K' : KW) (L' : Nat → Ct) (mark' : Int) (c : PK) : Prop where
  tk : TickOk n m v ce K1.X
  ex : ∃ j, j ≤ 300 ∧ ExchT n m v ce { K1 with X := K1.X.tickX n m } j K'
  rest : Idle n m K' L' mark'
  calls : K'.calls = K.calls ++ [c]
  beg : c.beg = K.now + 1
  fin : c.beg < c.fin ∧ c.fin ≤ K'.now
  n1 : K'.now ≤ K.now + 500
  a0 : K.X.asked ≤ K'.X.asked
  a1 : K'.X.asked ≤ K.X.asked + 20
  had : K'.had = K.had
theorem fit_t (hf : fit n m v ce = true) : 1 ≤ n * ce ∧ n * ce ≤ 48 := by
  obtain ⟨f1, f2, f3, f4⟩ := fit_bd hf
  exact mul_bd f1 f2 f3 f4
theorem told_wh {L : Nat → Ct} {k a : Nat} (hL : LOk L k) (h : (L a).kd ≠ 0) : (L a).kd = 8 ∨ (L a).kd = 9 := isC_kd (hL.full h).1
theorem lookR_wh {L : Nat → Ct} {a : Nat} : (lookR L a).wh ≠ 0 := by
  unfold lookR
  by_cases h : (L a).kd = 0
  · rw [if_pos h]; simp
  · rw [if_neg h]; unfold told; simp only; exact h
/-- A read. -/
theorem did_read (h : Idle n m K L mark) (hf : fit n m v ce = true) (hn : K.now + 600 ≤ 400000) (ha : 0 ≤ K.X.asked ∧ K.X.asked + 400 ≤ 1000000) (hl : K.calls.length ≤ 49) {a : Nat} (hA : AdOk n m v ce a) {X' : CX} (hX' : X' = (K.X.begin 2 1000).look n m (newC K.X 2 1000 a)) {c : PK} (hc : c = ⟨2, a, [], [], K.now + 1, 0, ⟨0, 0, []⟩⟩) :
    ∃ K' t, Did n m v ce K { K with X := X', calls := K.calls ++ [c], now := K.now + 2 } K' L mark { c with fin := t, r := if (a : Int) < mark then ⟨4, 0, []⟩ else lookR L a } := by
  obtain ⟨s1, s2, s3, s4, s5, s6⟩ := fit_nm hf
  obtain ⟨_, _, _, _, hNt⟩ := h.call (X' := X') (c := c) (by omega) (by rw [hX']; rfl) (by rw [hc]) (by rw [hc])
  have hlr : K.X.res.length = K.calls.length := by rw [h.res]; simp
  obtain ⟨pc, hpc⟩ : ∃ pc : PC, pc = { newC K.X 2 1000 a with q := ⟨3, K.X.asked + 1, a, no, chainOf n m a, true, []⟩ } := ⟨_, rfl⟩
  have hpend : X'.pend = some pc := by rw [hX', hpc]; rfl
  have hask : X'.asked = K.X.asked + 1 := by rw [hX']; rfl
  have hnum : pc.num = K.calls.length := by rw [hpc]; exact hlr
  obtain ⟨hA1, hA2, hA3⟩ := tick_ask (n := n) (m := m) hpend (by rw [hpc]; rfl) hnum (by rw [hpc]; simp only; omega) (by rw [hpc, hask]; exact Int.le_refl _) (by omega) ⟨⟨0, 0, []⟩, by rw [hX']; show (K.X.res ++ [⟨0, 0, []⟩])[K.calls.length]? = _; rw [List.getElem?_append_right (by omega), hlr]; simp, rfl⟩
  have hm : Sm mark := by have := h.mko; unfold Sm; omega
  obtain ⟨j, K', hj, hE, hEd⟩ := reckR (n := n) (m := m) (v := v) (ce := ce) (past := K.calls) (d := c) (K := { K with X := X'.tickX n m, calls := K.calls ++ [c], now := K.now + 2 }) (L := L) (mark := mark) h.us h.pool hA1 (a := a) hA hm (h.L.mono (by omega)) (by rw [hpc, chainOf_is]) (hNt.reX hA2) (by have := h.n0; simp only; omega) (by simp only; omega) (by simp only [hA3]; omega)
  have hwh : (if (a : Int) < mark then (⟨4, 0, []⟩ : Rz) else lookR L a).wh ≠ 0 := by
    by_cases e : (a : Int) < mark
    · rw [if_pos e]; simp
    · rw [if_neg e]; exact lookR_wh
  obtain ⟨t, t1, t2, t3, t4⟩ := hEd.rest hwh hl (h.L.mono (by omega)) h.mko h.val (by have := h.n0; simp only; omega)
  have e1 := hEd.a0
  have e2 := hEd.a1
  have e3 := hEd.n1
  simp only [hA3] at e1 e2 e3
  refine ⟨K', t, ⟨⟨hf, by simp only [hask]; omega, by simp only [hask]; omega, fun c' hc' => ?_⟩, ⟨j, by omega, hE⟩, t4, t3, by rw [hc], ⟨t1, t2⟩, by omega, by omega, by omega, hEd.had⟩⟩
  simp only [hpend, Option.some.injEq] at hc'
  subst hc'
  exact ⟨by rw [hnum]; omega, by rw [hpc]; show (2 : Int) ≠ 5; decide⟩
theorem fillC_ok {l a : Nat} (hL : LOk L l) (hl : l ≤ 1000) : isC (fillC L a ⟨9, 1000, l, []⟩).kd (fillC L a ⟨9, 1000, l, []⟩).val.length = true ∧ CtOk (fillC L a ⟨9, 1000, l, []⟩) ∧ (fillC L a ⟨9, 1000, l, []⟩).cl = 1000 ∧ 0 ≤ (fillC L a ⟨9, 1000, l, []⟩).ca ∧ (fillC L a ⟨9, 1000, l, []⟩).ca < (l + 1 : Nat) := by
  unfold fillC
  by_cases h : (L a).kd = 0
  · rw [if_pos h]
    exact ⟨by simp [isC], ⟨by unfold Sm; simp, by unfold Sm; simp, by unfold Sm; simp only; omega, by simp, fun x hx => by simp at hx⟩, rfl, by simp only; omega, by simp only; omega⟩
  · rw [if_neg h]
    obtain ⟨e1, e2, e3, e4⟩ := hL.full h
    exact ⟨e1, hL.ct a, e2, e3, by omega⟩
/-- A fill. -/
theorem did_fill (h : Idle n m K L mark) (hf : fit n m v ce = true) (hn : K.now + 600 ≤ 400000) (ha : 0 ≤ K.X.asked ∧ K.X.asked + 400 ≤ 1000000) (hl : K.calls.length ≤ 49) {a : Nat} (hA : AdOk n m v ce a) {X' : CX} (hX' : X' = (K.X.begin 3 1000).writeNext n m { newC K.X 3 1000 a with own := ⟨9, 1000, K.X.res.length, []⟩, cont := ⟨9, 1000, K.X.res.length, []⟩, place := 0 }) {c : PK} (hc : c = ⟨3, a, [], [], K.now + 1, 0, ⟨0, 0, []⟩⟩) :
    ∃ K' t, Did n m v ce K { K with X := X', calls := K.calls ++ [c], now := K.now + 2 } K' (if (a : Int) < mark then L else updL L a (fillC L a ⟨9, 1000, K.calls.length, []⟩)) mark { c with fin := t, r := if (a : Int) < mark then ⟨4, 0, []⟩ else told (fillC L a ⟨9, 1000, K.calls.length, []⟩) } := by
  obtain ⟨s1, s2, s3, s4, s5, s6⟩ := fit_nm hf
  obtain ⟨_, _, _, _, hNt⟩ := h.call (X' := X') (c := c) (by omega) (by rw [hX']; rfl) (by rw [hc]) (by rw [hc])
  have hlr : K.X.res.length = K.calls.length := by rw [h.res]; simp
  rw [hlr] at hX'
  obtain ⟨pc, hpc⟩ : ∃ pc : PC, pc = { newC K.X 3 1000 a with own := ⟨9, 1000, K.calls.length, []⟩, cont := ⟨9, 1000, K.calls.length, []⟩, place := 0, q := ⟨2, K.X.asked + 1, a, ⟨9, 1000, K.calls.length, []⟩, nodesOf (a % n * m + 0) 1, true, []⟩ } := ⟨_, rfl⟩
  have hpend : X'.pend = some pc := by
    rw [hX', hpc]
    show some _ = some _
    congr 2
  have hask : X'.asked = K.X.asked + 1 := by rw [hX']; rfl
  have hnum : pc.num = K.calls.length := by rw [hpc]; exact hlr
  obtain ⟨hA1, hA2, hA3⟩ := tick_ask (n := n) (m := m) hpend (by rw [hpc]; rfl) hnum (by rw [hpc]; simp only; omega) (by rw [hpc, hask]; exact Int.le_refl _) (by omega) ⟨⟨0, 0, []⟩, by rw [hX']; show (K.X.res ++ [⟨0, 0, []⟩])[K.calls.length]? = _; rw [List.getElem?_append_right (by omega), hlr]; simp, rfl⟩
  have hm : Sm mark := by have := h.mko; unfold Sm; omega
  have hcont : ({ pc with q := { pc.q with due := true } } : PC).cont = ⟨9, 1000, K.calls.length, []⟩ := by rw [hpc]
  obtain ⟨j, K', hj, hE, hEd⟩ := reckF (n := n) (m := m) (v := v) (ce := ce) (past := K.calls) (d := c) (K := { K with X := X'.tickX n m, calls := K.calls ++ [c], now := K.now + 2 }) (L := L) (mark := mark) h.us h.pool hA1 (a := a) hA hm h.L (by rw [hpc]; rfl) (by rw [hpc]) (by rw [hpc]; rfl) (by rw [hpc]) (by rw [hpc]) (by rw [hpc]) (hNt.reX hA2) (by have := h.n0; simp only; omega) (by simp only; omega) (by simp only [hA3]; omega)
  rw [hcont] at hEd
  have hok := fillC_ok (a := a) h.L (by omega)
  have hwh : (if (a : Int) < mark then (⟨4, 0, []⟩ : Rz) else told (fillC L a ⟨9, 1000, K.calls.length, []⟩)).wh ≠ 0 := by
    by_cases e : (a : Int) < mark
    · rw [if_pos e]; simp
    · rw [if_neg e]
      have := isC_kd hok.1
      unfold told
      simp only
      omega
  have hL' : LOk (if (a : Int) < mark then L else updL L a (fillC L a ⟨9, 1000, K.calls.length, []⟩)) (K.calls.length + 1) := by
    by_cases e : (a : Int) < mark
    · rw [if_pos e]; exact h.L.mono (by omega)
    · rw [if_neg e]; exact (h.L.mono (by omega)).upd a _ hok.1 hok.2.1 hok.2.2.1 hok.2.2.2.1 hok.2.2.2.2
  obtain ⟨t, t1, t2, t3, t4⟩ := hEd.rest hwh hl hL' h.mko h.val (by have := h.n0; simp only; omega)
  have e1 := hEd.a0
  have e2 := hEd.a1
  have e3 := hEd.n1
  simp only [hA3] at e1 e2 e3
  refine ⟨K', t, ⟨⟨hf, by simp only [hask]; omega, by simp only [hask]; omega, fun c' hc' => ?_⟩, ⟨j, by omega, hE⟩, t4, t3, by rw [hc], ⟨t1, t2⟩, by omega, by omega, by omega, hEd.had⟩⟩
  simp only [hpend, Option.some.injEq] at hc'
  subst hc'
  exact ⟨by rw [hnum]; omega, by rw [hpc]; show (3 : Int) ≠ 5; decide⟩
/-- A trim. -/
theorem did_trim (h : Idle n m K L mark) (hf : fit n m v ce = true) (hn : K.now + 600 ≤ 400000) (ha : 0 ≤ K.X.asked ∧ K.X.asked + 400 ≤ 1000000) (hl : K.calls.length ≤ 49) {a : Int} (hA : 0 ≤ a ∧ a ≤ 100) {X' : CX} (hX' : X' = (K.X.begin 4 1000).lay n m (newC K.X 4 1000 a) a ⟨1, 0, []⟩) {c : PK} (hc : c = ⟨4, a, [], [], K.now + 1, 0, ⟨0, 0, []⟩⟩) :
    ∃ K' t, Did n m v ce K { K with X := X', calls := K.calls ++ [c], now := K.now + 2 } K' L (max mark a) { c with fin := t, r := ⟨1, 0, []⟩ } := by
  obtain ⟨s1, s2, s3, s4, s5, s6⟩ := fit_nm hf
  obtain ⟨_, _, _, _, hNt⟩ := h.call (X' := X') (c := c) (by omega) (by rw [hX']; rfl) (by rw [hc]) (by rw [hc])
  have hlr : K.X.res.length = K.calls.length := by rw [h.res]; simp
  obtain ⟨pc, hpc⟩ : ∃ pc : PC, pc = { newC K.X 4 1000 a with e := ⟨1, 0, []⟩, q := ⟨4, K.X.asked + 1, a, no, allOf n m, true, []⟩ } := ⟨_, rfl⟩
  have hpend : X'.pend = some pc := by rw [hX', hpc]; rfl
  have hask : X'.asked = K.X.asked + 1 := by rw [hX']; rfl
  have hnum : pc.num = K.calls.length := by rw [hpc]; exact hlr
  obtain ⟨hA1, hA2, hA3⟩ := tick_ask (n := n) (m := m) hpend (by rw [hpc]; rfl) hnum (by rw [hpc]; simp only; omega) (by rw [hpc, hask]; exact Int.le_refl _) (by omega) ⟨⟨0, 0, []⟩, by rw [hX']; show (K.X.res ++ [⟨0, 0, []⟩])[K.calls.length]? = _; rw [List.getElem?_append_right (by omega), hlr]; simp, rfl⟩
  have hm : Sm mark := by have := h.mko; unfold Sm; omega
  have he : ({ pc with q := { pc.q with due := true } } : PC).e = ⟨1, 0, []⟩ := by rw [hpc]
  obtain ⟨K', hE, hEd, _, _⟩ := reckT (n := n) (m := m) (v := v) (ce := ce) (past := K.calls) (d := c) (K := { K with X := X'.tickX n m, calls := K.calls ++ [c], now := K.now + 2 }) (L := L) (mark := mark) h.us h.pool hA1 hf (t := a) (by unfold Sm; omega) hm (by rw [hpc, allOf_is]) (by rw [he]; simp) (hNt.reX hA2) (by have := h.n0; simp only; omega) (by simp only; omega)
  rw [he] at hEd
  have hmk := h.mko
  obtain ⟨t, t1, t2, t3, t4⟩ := hEd.rest (by simp) hl (h.L.mono (by omega)) (by omega) h.val (by have := h.n0; simp only; omega)
  have e1 := hEd.a0
  have e2 := hEd.a1
  have e3 := hEd.n1
  simp only [hA3] at e1 e2 e3
  refine ⟨K', t, ⟨⟨hf, by simp only [hask]; omega, by simp only [hask]; omega, fun c' hc' => ?_⟩, ⟨3, by omega, hE⟩, t4, t3, by rw [hc], ⟨t1, t2⟩, by omega, by omega, by omega, hEd.had⟩⟩
  simp only [hpend, Option.some.injEq] at hc'
  subst hc'
  exact ⟨by rw [hnum]; omega, by rw [hpc]; show (4 : Int) ≠ 5; decide⟩
end
end Go.Proofs.YtnhjmiglegdamaaGreat

namespace Go.Proofs.YtnhjmiglegdamaaGreat
open Go.RowKit Go.Maps
/-- An append wants a token. -/
structure Wnt (n m : Nat) (K : KW) (past : List PK) (d : PK) (L : Nat → Ct) (mark : Int) : Prop where
  us : K.us = usOf (n * m) fun u => ⟨uS n L mark (u / m), []⟩
  pool : K.pool = []
  due : K.X.pr.due = false
  prn : K.X.pr.nodes.length ≤ 100
  pr0 : 0 ≤ K.X.pr.nr
  pra : K.X.pr.nr ≤ K.X.asked
  pend : ∃ pc : PC, K.X.pend = some pc ∧ pc.kind = 1 ∧ pc.num = past.length ∧ pc.own = ⟨8, 1000, past.length, valB past.length⟩ ∧ pc.q = PQ.zero
  nt : Nt past d K
  r0 : ∃ r0, K.X.res[past.length]? = some r0 ∧ r0.wh = 0
  le : past.length ≤ 49
  val : ∀ c ∈ past, c.r.val.length ≤ 255
  L : LOk L past.length
  mko : 0 ≤ mark ∧ mark ≤ 100
section
variable {n m v : Nat} {ce : Int} {K : KW} {past : List PK} {d : PK} {L : Nat → Ct} {mark : Int}
theorem Wnt.calls (h : Wnt n m K past d L mark) : K.calls = past ++ [d] := by
  obtain ⟨c, r, e1, e2, e3⟩ := h.nt.ex
  obtain ⟨r0, f1, f2⟩ := h.r0
  rw [f1] at e2
  simp only [Option.some.injEq] at e2
  subst e2
  rcases e3 with e | e
  · rw [e1, e.2]
  · exact absurd f2 e.1
theorem Wnt.n0 (h : Wnt n m K past d L mark) : 0 ≤ K.now := by have := h.nt.n0; have := h.nt.beg; omega
/-- An append has begun. -/
theorem wnt_call (h : Idle n m K L mark) (hn : K.now + 2 ≤ 400000) (hl : K.calls.length ≤ 49) {X' : CX} (hX' : X' = { (K.X.begin 1 1000) with pend := some { PC.new 1 K.X.res.length 1000 with own := ⟨8, 1000, K.X.res.length, valB K.calls.length⟩ } }) {c : PK} (hc : c = ⟨1, 0, valB K.calls.length, [], K.now + 1, 0, ⟨0, 0, []⟩⟩) :
    Wnt n m { K with X := X', calls := K.calls ++ [c], now := K.now + 2 } K.calls c L mark := by
  have hlr : K.X.res.length = K.calls.length := by rw [h.res]; simp
  obtain ⟨_, _, _, _, hNt⟩ := h.call (X' := X') (c := c) (by omega) (by rw [hX']; rfl) (by rw [hc]) (by rw [hc])
  refine ⟨h.us, h.pool, ?_, ?_, ?_, ?_, ⟨{ PC.new 1 K.X.res.length 1000 with own := ⟨8, 1000, K.X.res.length, valB K.calls.length⟩ }, ?_, rfl, hlr, by rw [← hlr], rfl⟩, hNt, ⟨⟨0, 0, []⟩, ?_, rfl⟩, hl, h.val, h.L, h.mko⟩
  · rw [hX']; exact h.due
  · rw [hX']; exact h.prn
  · rw [hX']; exact h.pr0
  · rw [hX']; exact h.pra
  · rw [hX']
  · rw [hX']; show (K.X.res ++ [⟨0, 0, []⟩])[K.calls.length]? = _; rw [List.getElem?_append_right (by omega), hlr]; simp
/-- A token is given. -/
theorem Wnt.gave (h : Wnt n m K past d L mark) (hn : K.now ≤ 400000) (ts : List Int) {X' : CX} (hR : ResGo past.length K.X.res X'.res) :
    Nt past { d with tokens := ts } ({ K with X := X', calls := K.calls.set past.length { d with tokens := ts }, had := K.had + 1 } : KW).watch ∧ WatchOk { K with X := X', calls := K.calls.set past.length { d with tokens := ts }, had := K.had + 1 } := by
  have hcl := h.calls
  have hset : K.calls.set past.length { d with tokens := ts } = past ++ [{ d with tokens := ts }] := by rw [hcl]; simp
  rw [hset]
  obtain ⟨r0, f1, f2⟩ := h.r0
  have hNt : Nt past { d with tokens := ts } { K with calls := past ++ [{ d with tokens := ts }] } :=
    ⟨h.nt.old, h.nt.len, ⟨_, r0, rfl, f1, .inl ⟨f2, rfl⟩⟩, h.nt.d0, h.nt.beg, h.nt.le, h.nt.n0, h.nt.val⟩
  refine ⟨hNt.watch hR K.us K.pool K.now (Int.le_refl _) (K.had + 1), ?_⟩
  have hlen := h.nt.len
  have hle := h.nt.le
  have hlen' : X'.res.length = past.length + 1 := by
    rcases hR with e | ⟨r', _, _, _, e⟩
    · rw [e]; exact hlen
    · rw [e, List.length_set]; exact hlen
  refine ⟨by simp [hlen'], by simp; omega, fun i c r hc hr hf => ?_, fun r hr => ?_, h.n0, hn⟩
  · simp only at hc hr
    by_cases hi : i < past.length
    · rw [List.getElem?_append_left hi] at hc
      have e := (h.nt.old i c hc).1
      have e2 : X'.res[i]? = K.X.res[i]? := by
        rcases hR with e | ⟨r', _, _, _, e⟩
        · rw [e]
        · rw [e, List.getElem?_set_ne (by omega)]
      rw [e2, e] at hr
      simpa using hr
    · have hil := (List.getElem?_eq_some_iff.1 hc).1
      simp at hil
      have hi' : i = past.length := by omega
      subst hi'
      rw [List.getElem?_append_right (Nat.le_refl _)] at hc
      simp at hc
      subst hc
      exact absurd h.nt.d0 hf
  · simp only at hr
    rcases hR with e | ⟨r1, _, _, h2, e⟩
    · rw [e] at hr; exact h.nt.val r hr
    · rw [e] at hr
      rcases List.mem_or_eq_of_mem_set hr with h3 | h3
      · exact h.nt.val r h3
      · rw [h3]; exact h2
/-- A token that is an address: the question. -/
theorem Wnt.asks (h : Wnt n m K past d L mark) {t : Nat} (hf : fit n m v ce = true) (hn : K.now + 600 ≤ 400000) (ha : 0 ≤ K.X.asked ∧ K.X.asked + 400 ≤ 1000000) {pc : PC} (hpc : K.X.pend = some pc) {X' : CX} (hX' : X' = K.X.writeNext n m { pc with addr := t, cont := pc.own, place := 0 }) {K2 : KW} (hK2 : K2 = ({ K with X := X', calls := K.calls.set past.length { d with tokens := d.tokens ++ [(t : Int)] }, had := K.had + 1 } : KW).watch) :
    TickOk n m v ce K2.X ∧ K2.us = K.us ∧ K2.pool = [] ∧ K2.had = K.had + 1 ∧ K2.now = K.now + 1 ∧ Nt past { d with tokens := d.tokens ++ [(t : Int)] } { K2 with X := K2.X.tickX n m } ∧ (K2.X.tickX n m).asked = K.X.asked + 2 ∧ (K2.X.tickX n m).res = K.X.res ∧ ∃ c : PC, AskOk n m (K2.X.tickX n m) c true past.length ∧ c.addr = t ∧ c.place = 0 ∧ c.kind = 1 ∧ c.own = ⟨8, 1000, past.length, valB past.length⟩ ∧ c.cont = ⟨8, 1000, past.length, valB past.length⟩ ∧ c.q = ⟨2, c.q.nr, t, c.cont, nodesOf (t % n * m + 0) 1, true, []⟩ := by
  obtain ⟨pc', p1, p2, p3, p4, p5⟩ := h.pend
  rw [hpc] at p1
  simp only [Option.some.injEq] at p1
  subst p1
  have hle := h.le
  have hres : X'.res = K.X.res := by rw [hX']; rfl
  have hask : X'.asked = K.X.asked + 1 := by rw [hX']; rfl
  obtain ⟨hNt, _⟩ := h.gave (by omega) (d.tokens ++ [(t : Int)]) (X' := X') (.inl hres)
  rw [← hK2] at hNt
  have hX2 : K2.X = X' := by rw [hK2]; rfl
  obtain ⟨p2', hp2⟩ : ∃ p2' : PC, p2' = { pc with addr := t, cont := pc.own, place := 0, q := ⟨2, K.X.asked + 1, t, pc.own, nodesOf (t % n * m + 0) 1, true, []⟩ } := ⟨_, rfl⟩
  have hpend : X'.pend = some p2' := by
    rw [hX', hp2]
    show some _ = some _
    congr 2
  have hw : p2'.wants = false := by rw [hp2]; unfold PC.wants; simp [nodesOf]
  have hnum : p2'.num = past.length := by rw [hp2]; exact p3
  obtain ⟨r0, f1, f2⟩ := h.r0
  obtain ⟨hA1, hA2, hA3⟩ := tick_ask (n := n) (m := m) (X := X') hpend hw hnum (by rw [hp2]; simp only; omega) (by rw [hp2, hask]; exact Int.le_refl _) (by omega) ⟨r0, by rw [hres]; exact f1, f2⟩
  refine ⟨⟨hf, by rw [hX2, hask]; omega, by rw [hX2, hask]; omega, fun c' hc' => ?_⟩, by rw [hK2]; rfl, by rw [hK2]; exact h.pool, by rw [hK2]; rfl, by rw [hK2]; rfl, ?_, by rw [hX2, hA3, hask]; omega, by rw [hX2, hA2, hres], { p2' with q := { p2'.q with due := true } }, by rw [hX2]; exact hA1, by rw [hp2], by rw [hp2], by rw [hp2]; exact p2, by rw [hp2]; exact p4, by rw [hp2]; exact p4, by rw [hp2]⟩
  · rw [hX2, hpend] at hc'
    simp only [Option.some.injEq] at hc'
    subst hc'
    exact ⟨by rw [hnum]; omega, by rw [hp2]; simp only [p2]; decide⟩
  · exact hNt.reX (by rw [hX2]; exact hA2)
theorem valB_ok (l : Nat) (hl : l ≤ 255) : CtOk ⟨8, 1000, l, valB l⟩ ∧ isC 8 (valB l).length = true := by
  refine ⟨⟨by unfold Sm; simp, by unfold Sm; simp, by unfold Sm; simp only; omega, by simp [valB], fun x hx => ?_⟩, by simp [isC, valB]⟩
  simp [valB] at hx
  rcases hx with rfl | rfl | rfl <;> omega
/-- The address is not free: it wants another. -/
theorem Wnt.again (h : Wnt n m K past d L mark) {t : Nat} (hA : AdOk n m v ce t) (hn : K.now + 600 ≤ 400000) (ha : 0 ≤ K.X.asked ∧ K.X.asked + 400 ≤ 1000000) {pc : PC} (hpc : K.X.pend = some pc) {X' : CX} (hX' : X' = K.X.writeNext n m { pc with addr := t, cont := pc.own, place := 0 }) {K2 : KW} (hK2 : K2 = ({ K with X := X', calls := K.calls.set past.length { d with tokens := d.tokens ++ [(t : Int)] }, had := K.had + 1 } : KW).watch) (hno : (t : Int) < mark ∨ (L t).kd ≠ 0) :
    TickOk n m v ce K2.X ∧ ∃ j K', j ≤ 300 ∧ ExchT n m v ce { K2 with X := K2.X.tickX n m } j K' ∧ Wnt n m K' past { d with tokens := d.tokens ++ [(t : Int)] } L mark ∧ K'.now ≤ K.now + 500 ∧ K.now ≤ K'.now ∧ K.X.asked ≤ K'.X.asked ∧ K'.X.asked ≤ K.X.asked + 20 ∧ K'.had = K.had + 1 := by
  obtain ⟨s1, s2, s3, s4, s5, s6⟩ := fit_nm hA.fit
  obtain ⟨g1, g2, g3, g4, g5, g6, g7, g8, c, g9, g10, g11, g12, g13, g14, g15⟩ := h.asks (t := t) (v := v) (ce := ce) hA.fit hn ha hpc hX' hK2
  have hle := h.le
  have hv := valB_ok past.length (by omega)
  have hm : Sm mark := by have := h.mko; unfold Sm; omega
  have hn0 := h.n0
  obtain ⟨K', c', hE, hW⟩ := reckW (n := n) (m := m) (v := v) (ce := ce) (past := past) (d := { d with tokens := d.tokens ++ [(t : Int)] }) (K := { K2 with X := K2.X.tickX n m }) (L := L) (mark := mark) (by simp only [g2]; exact h.us) g3 g9 (a := t) hA hm h.L g10 g11 g12 (by rw [g13]; exact ⟨rfl, rfl⟩) (by rw [g14]; exact hv.1) (by rw [g14]; exact hv.2) g15 hno g6 (by simp only; omega) (by simp only; omega)
  have e1 := hW.n0
  have e2 := hW.n1
  have e3 := hW.a
  simp only [g7, g5] at e1 e2 e3
  obtain ⟨r0, f1, f2⟩ := h.r0
  refine ⟨g1, 3, K', by omega, hE, ⟨hW.us, hW.pool, hW.due, hW.prn, by have := hW.pr0; omega, hW.pra, ⟨c', hW.pend, by rw [hW.same.1, g12], ?_, by rw [hW.same.2.2, g13], hW.q⟩, hW.nt, ⟨r0, ?_, f2⟩, hle, h.val, h.L, h.mko⟩, by omega, by omega, by omega, by omega, ?_⟩
  · rw [hW.same.2.1]; exact g9.num
  · rw [hW.res]; simp only [g8]; exact f1
  · rw [hW.had]; exact g4
/-- The address is free. -/
theorem Wnt.done (h : Wnt n m K past d L mark) {t : Nat} (hA : AdOk n m v ce t) (hn : K.now + 600 ≤ 400000) (ha : 0 ≤ K.X.asked ∧ K.X.asked + 400 ≤ 1000000) {pc : PC} (hpc : K.X.pend = some pc) {X' : CX} (hX' : X' = K.X.writeNext n m { pc with addr := t, cont := pc.own, place := 0 }) {K2 : KW} (hK2 : K2 = ({ K with X := X', calls := K.calls.set past.length { d with tokens := d.tokens ++ [(t : Int)] }, had := K.had + 1 } : KW).watch) (hmk : ¬ (t : Int) < mark) (hz : (L t).kd = 0) :
    TickOk n m v ce K2.X ∧ ∃ j K' f, j ≤ 300 ∧ ExchT n m v ce { K2 with X := K2.X.tickX n m } j K' ∧ Idle n m K' (updL L t ⟨8, 1000, past.length, valB past.length⟩) mark ∧ K'.calls = past ++ [{ d with tokens := d.tokens ++ [(t : Int)], fin := f, r := ⟨1, t, []⟩ }] ∧ d.beg < f ∧ f ≤ K'.now ∧ K'.now ≤ K.now + 500 ∧ K.now ≤ K'.now ∧ K.X.asked ≤ K'.X.asked ∧ K'.X.asked ≤ K.X.asked + 20 ∧ K'.had = K.had + 1 := by
  obtain ⟨s1, s2, s3, s4, s5, s6⟩ := fit_nm hA.fit
  obtain ⟨g1, g2, g3, g4, g5, g6, g7, g8, c, g9, g10, g11, g12, g13, g14, g15⟩ := h.asks (t := t) (v := v) (ce := ce) hA.fit hn ha hpc hX' hK2
  have hle := h.le
  have hv := valB_ok past.length (by omega)
  have hm : Sm mark := by have := h.mko; unfold Sm; omega
  have hn0 := h.n0
  obtain ⟨j, K', hj, hE, hEd⟩ := reckA (n := n) (m := m) (v := v) (ce := ce) (past := past) (d := { d with tokens := d.tokens ++ [(t : Int)] }) (K := { K2 with X := K2.X.tickX n m }) (L := L) (mark := mark) (by simp only [g2]; exact h.us) g3 g9 (a := t) hA hm h.L g10 g11 g12 (by rw [g14]; exact hv.1) (by rw [g14]; exact hv.2) g15 hmk hz g6 (by simp only; omega) (by simp only; omega) (by simp only [g7]; omega)
  rw [g14] at hEd
  obtain ⟨f, t1, t2, t3, t4⟩ := hEd.rest (by simp) hle ((h.L.mono (by omega)).upd t _ hv.2 hv.1 rfl (by simp only; omega) (by simp only; omega)) h.mko h.val (by simp only; omega)
  have e1 := hEd.n0
  have e2 := hEd.n1
  have e3 := hEd.a0
  have e4 := hEd.a1
  simp only [g7, g5] at e1 e2 e3 e4
  exact ⟨g1, j, K', f, by omega, hE, t4, t3, t1, t2, by omega, by omega, by omega, by omega, by rw [hEd.had]; exact g4⟩
/-- A token behind all addresses. -/
theorem Wnt.full (h : Wnt n m K past d L mark) {t : Int} (hf : fit n m v ce = true) (hn : K.now + 600 ≤ 400000) (ha : 0 ≤ K.X.asked ∧ K.X.asked + 400 ≤ 1000000) {pc : PC} (hpc : K.X.pend = some pc) {X' : CX} (hX' : X' = K.X.end' pc ⟨7, 0, []⟩) {K2 : KW} (hK2 : K2 = ({ K with X := X', calls := K.calls.set past.length { d with tokens := d.tokens ++ [t] }, had := K.had + 1 } : KW).watch) :
    TickOk n m v ce K2.X ∧ ∃ K' f, ExchT n m v ce { K2 with X := K2.X.tickX n m } 1 K' ∧ Idle n m K' L mark ∧ K'.calls = past ++ [{ d with tokens := d.tokens ++ [t], fin := f, r := ⟨7, 0, []⟩ }] ∧ d.beg < f ∧ f ≤ K'.now ∧ K'.now ≤ K.now + 500 ∧ K.now ≤ K'.now ∧ K.X.asked ≤ K'.X.asked ∧ K'.X.asked ≤ K.X.asked + 20 ∧ K'.had = K.had + 1 := by
  obtain ⟨pc', p1, p2, p3, p4, p5⟩ := h.pend
  rw [hpc] at p1
  simp only [Option.some.injEq] at p1
  subst p1
  have hle := h.le
  have hn0 := h.n0
  have hlen := h.nt.len
  have hres : X'.res = K.X.res.set past.length ⟨7, 0, []⟩ := by rw [hX']; unfold CX.end'; rw [p3]
  have hask : X'.asked = K.X.asked := by rw [hX']; rfl
  have hpe : X'.pend = none := by rw [hX']; rfl
  obtain ⟨hNt, _⟩ := h.gave (by omega) (d.tokens ++ [t]) (X' := X') (.inr ⟨⟨7, 0, []⟩, h.r0, by simp, by simp, hres⟩)
  rw [← hK2] at hNt
  have hX2 : K2.X = X' := by rw [hK2]; rfl
  have hn2 : K2.now = K.now + 1 := by rw [hK2]; rfl
  have htk : K2.X.tickX n m = K2.X := by unfold CX.tickX; rw [hX2, hpe]
  have hKK : ({ K2 with X := K2.X.tickX n m } : KW) = K2 := by rw [htk]
  rw [hKK]
  have hus : K2.us = usOf (n * m) fun u => ⟨uS n L mark (u / m), []⟩ := by rw [hK2]; exact h.us
  have hpr : K2.X.pr = K.X.pr := by rw [hX2, hX']; rfl
  have hdn : ExchT n m v ce K2 1 K2 := exch_done hus (by rw [hK2]; exact h.pool) ⟨by omega, by omega⟩ (by rw [hpr]; exact h.due) (by rw [hpr]; exact h.prn) (fun c hc => by rw [hX2, hpe] at hc; simp at hc)
  have r0 := h.r0
  obtain ⟨c, r, e1, e2, e3⟩ := hNt.ex
  have er : r = ⟨7, 0, []⟩ := by
    rw [hX2, hres, List.getElem?_set_self (by omega)] at e2
    simpa using e2.symm
  subst er
  obtain ⟨_, f, t1, t2, hc⟩ := e3.resolve_left (fun e => by simp at e)
  have hd0 := h.nt.n0
  have hbeg := h.nt.beg
  have hfin : ∀ x ∈ past, x.fin ≠ 0 := fun x hx => by
    obtain ⟨i, hi, rfl⟩ := List.mem_iff_getElem.1 hx
    exact (h.nt.old i _ (List.getElem?_eq_getElem hi)).2
  refine ⟨⟨hf, by rw [hX2, hask]; omega, by rw [hX2, hask]; omega, fun c' hc' => by rw [hX2, hpe] at hc'; simp at hc'⟩, K2, f, hdn, ⟨hus, by rw [hK2]; exact h.pool, by rw [hX2]; exact hpe, by rw [hpr]; exact h.due, by rw [hpr]; exact h.prn, by rw [hpr]; exact h.pr0, by rw [hpr, hX2, hask]; exact h.pra, ?_, ?_, ?_, ?_, by omega, ?_, h.mko⟩, by rw [e1, hc], t1, t2, by omega, by omega, by rw [hX2, hask]; omega, by rw [hX2, hask]; omega, by rw [hK2]; rfl⟩
  · apply List.ext_getElem?
    intro i
    rw [List.getElem?_map, e1]
    by_cases hi : i < past.length
    · rw [List.getElem?_append_left hi, List.getElem?_eq_getElem hi, (hNt.old i _ (List.getElem?_eq_getElem hi)).1]; rfl
    · by_cases hi2 : i = past.length
      · subst hi2
        rw [e2, List.getElem?_append_right (Nat.le_refl _), hc]; simp
      · rw [List.getElem?_eq_none (by rw [hNt.len]; omega), List.getElem?_eq_none (by simp; omega)]; rfl
  · intro x hx
    rw [e1, List.mem_append] at hx
    rcases hx with hx | hx
    · exact hfin x hx
    · simp at hx; subst hx; rw [hc]; simp only at t1 ⊢; omega
  · intro x hx
    rw [e1, List.mem_append] at hx
    rcases hx with hx | hx
    · exact h.val x hx
    · simp at hx; subst hx; rw [hc]; simp
  · rw [e1]; simp; omega
  · rw [e1]; simpa using h.L.mono (by omega)
end
end Go.Proofs.YtnhjmiglegdamaaGreat

namespace Go.Proofs.YtnhjmiglegdamaaGreat
open Go.RowKit Go.Maps
attribute [local go_sem ↓] Go.wp_at_zero Go.wp_at_succ
/-- A call as a value. -/
abbrev callV (i : Int) (kd po : Int) (vs : ByteArray) (ta : Option Addr) (tn tc : Nat) (be fi wh ad : Int) (ra : Option Addr) (rn rc : Nat) : Value := .agg #[.int .i64 0, .int .i64 i, .int .i64 kd, .int .i64 po, .string vs, .slice ta tn tc, .int .i64 be, .int .i64 fi, .int .i64 wh, .int .i64 ad, .slice ra rn rc]
/-- Below which address all is trimmed. -/
def trimsP (kd po wh : Int) : Int := if kd = 4 then po else if kd ≠ 1 ∧ wh = 4 then po + 1 else 0
def KindOk (kd : Int) : Prop := kd = 1 ∨ kd = 2 ∨ kd = 3 ∨ kd = 4
set_option maxRecDepth 100000 in
set_option maxHeartbeats 2000000 in
theorem trims_any (i kd po be fi wh ad : Int) (vs : ByteArray) (ta : Option Addr) (tn tc : Nat) (ra : Option Addr) (rn rc : Nat) (hk : KindOk kd) (hf : fi ≠ 0) (hp : 0 ≤ po ∧ po ≤ 1000) (w : World) :
    Calls Tryz.prog 62 #[callV i kd po vs ta tn tc be fi wh ad ra rn rc] w fun en w' => en = .returned (.int .i64 (trimsP kd po wh)) ∧ Bl w w' := by
  have hB := (Bl.refl w).alloc (.cells #[.int .i64 0, .int .i64 i, .int .i64 kd, .int .i64 po, .string vs, .slice ta tn tc, .int .i64 be, .int .i64 fi, .int .i64 wh, .int .i64 ad, .slice ra rn rc] 60)
  rcases hk with rfl | rfl | rfl | rfl
  · go_enter Tryz.func62, Tryz.ntmps62
    go_wp2
    go_ret
    exact ⟨rfl, hB⟩
  · by_cases h4 : wh = 4
    · subst h4
      go_enter Tryz.func62, Tryz.ntmps62
      go_wp2
      go_ret
      exact ⟨rfl, hB⟩
    · have e : trimsP 2 po wh = 0 := by unfold trimsP; rw [if_neg (by decide), if_neg (fun e => h4 e.2)]
      rw [e]
      go_enter Tryz.func62, Tryz.ntmps62
      go_wp2
      go_ret
      exact ⟨rfl, hB⟩
  · by_cases h4 : wh = 4
    · subst h4
      go_enter Tryz.func62, Tryz.ntmps62
      go_wp2
      go_ret
      exact ⟨rfl, hB⟩
    · have e : trimsP 3 po wh = 0 := by unfold trimsP; rw [if_neg (by decide), if_neg (fun e => h4 e.2)]
      rw [e]
      go_enter Tryz.func62, Tryz.ntmps62
      go_wp2
      go_ret
      exact ⟨rfl, hB⟩
  · go_enter Tryz.func62, Tryz.ntmps62
    go_wp2
    go_ret
    exact ⟨rfl, hB⟩
/-- What content a call tells of, and where. -/
def bindsP (kd po wh ad : Int) (vs rv : List Int) : Int × List Int × Bool := if kd = 1 then (if wh = 1 then (ad, vs, true) else (0, [], false)) else if kd = 2 ∨ kd = 3 then (if wh = 8 then (po, rv, true) else if wh = 9 then (po, [], true) else (0, [], false)) else (0, [], false)
set_option maxRecDepth 100000 in
set_option maxHeartbeats 4000000 in
theorem binds_any (i kd po be fi wh ad : Int) (vs rv : List Int) (ta : Option Addr) (tn tc : Nat) (ra : Option Addr) (rc : Nat) (hk : KindOk kd) (hf : fi ≠ 0) (w : World) (hr : Sl w (.slice ra rv.length rc) (rv.map B8)) :
    Calls Tryz.prog 60 #[callV i kd po (strOf vs) ta tn tc be fi wh ad ra rv.length rc] w fun en w' => en = .returned (.tuple #[.int .i64 (bindsP kd po wh ad vs rv).1, .string (strOf (bindsP kd po wh ad vs rv).2.1), .bool (bindsP kd po wh ad vs rv).2.2]) ∧ Bl w w' := by
  have hB := (Bl.refl w).alloc (.cells #[.int .i64 0, .int .i64 i, .int .i64 kd, .int .i64 po, .string (strOf vs), .slice ta tn tc, .int .i64 be, .int .i64 fi, .int .i64 wh, .int .i64 ad, .slice ra rv.length rc] 60)
  have hse : strOf [] = ({ data := #[] } : ByteArray) := rfl
  rcases hk with rfl | rfl | rfl | rfl
  · by_cases h1 : wh = 1
    · subst h1
      go_enter Tryz.func60, Tryz.ntmps60
      go_upto_region 4 with fail
      go_quiet (fail)
      go_wp2
      go_ret3
      exact ⟨rfl, hB.drewN _⟩
    · have e : bindsP 1 po wh ad vs rv = (0, [], false) := by unfold bindsP; rw [if_pos rfl, if_neg h1]
      rw [e]
      go_enter Tryz.func60, Tryz.ntmps60
      go_wp2
      go_ret3
      exact ⟨rfl, hB⟩
  · by_cases h8 : wh = 8
    · subst h8
      have e : bindsP 2 po 8 ad vs rv = (po, rv, true) := by unfold bindsP; rw [if_neg (by decide), if_pos (by decide), if_pos rfl]
      rw [e]
      have kc := conv_any _ rv _ (hr.bl hB)
      have kd := fun n => conv_any _ rv _ ((hr.bl hB).bl ((Bl.refl _).drewN n))
      go_enter Tryz.func60, Tryz.ntmps60
      go_upto_region 6 with fail
      go_quiet (fail)
      go_wp2
      go_ret3
      exact ⟨rfl, hB.drewN _⟩
    · by_cases h9 : wh = 9
      · subst h9
        have e : bindsP 2 po 9 ad vs rv = (po, [], true) := by unfold bindsP; rw [if_neg (by decide), if_pos (by decide), if_neg (by decide), if_pos rfl]
        rw [e]
        go_enter Tryz.func60, Tryz.ntmps60
        go_wp2
        go_ret3
        exact ⟨rfl, hB⟩
      · have e : bindsP 2 po wh ad vs rv = (0, [], false) := by unfold bindsP; rw [if_neg (by decide), if_pos (by decide), if_neg h8, if_neg h9]
        rw [e]
        go_enter Tryz.func60, Tryz.ntmps60
        go_wp2
        go_ret3
        exact ⟨rfl, hB⟩
  · by_cases h8 : wh = 8
    · subst h8
      have e : bindsP 3 po 8 ad vs rv = (po, rv, true) := by unfold bindsP; rw [if_neg (by decide), if_pos (by decide), if_pos rfl]
      rw [e]
      have kc := conv_any _ rv _ (hr.bl hB)
      have kd := fun n => conv_any _ rv _ ((hr.bl hB).bl ((Bl.refl _).drewN n))
      go_enter Tryz.func60, Tryz.ntmps60
      go_upto_region 6 with fail
      go_quiet (fail)
      go_wp2
      go_ret3
      exact ⟨rfl, hB.drewN _⟩
    · by_cases h9 : wh = 9
      · subst h9
        have e : bindsP 3 po 9 ad vs rv = (po, [], true) := by unfold bindsP; rw [if_neg (by decide), if_pos (by decide), if_neg (by decide), if_pos rfl]
        rw [e]
        go_enter Tryz.func60, Tryz.ntmps60
        go_wp2
        go_ret3
        exact ⟨rfl, hB⟩
      · have e : bindsP 3 po wh ad vs rv = (0, [], false) := by unfold bindsP; rw [if_neg (by decide), if_pos (by decide), if_neg h8, if_neg h9]
        rw [e]
        go_enter Tryz.func60, Tryz.ntmps60
        go_wp2
        go_ret3
        exact ⟨rfl, hB⟩
  · have e : bindsP 4 po wh ad vs rv = (0, [], false) := by unfold bindsP; rw [if_neg (by decide), if_neg (by decide)]
    rw [e]
    go_enter Tryz.func60, Tryz.ntmps60
    go_wp2
    go_ret3
    exact ⟨rfl, hB⟩
end Go.Proofs.YtnhjmiglegdamaaGreat
