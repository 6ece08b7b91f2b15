-- A client takes an answer.
-- Time goes by for a client.
import Derived.Test.YtnhjmiglegdamaaGreatSLkdSGoOnSAskerQ
import Derived.Test.YtnhjmiglegdamaaGreatSProbeShelfSKeysSCallsQ
import Derived.Test.YtnhjmiglegdamaaGreatSCountSWantsSAwQ
import Derived.Test.YtnhjmiglegdamaaGreatSQoutSCOutQ
import Derived.Test.YtnhjmiglegdamaaGreatSDoSBeginSTakenQ
import Derived.Deep.MidRow
namespace Go.Proofs.YtnhjmiglegdamaaGreat
open Go.RowKit Go.Maps
attribute [local go_sem ↓] Go.wp_at_zero Go.wp_at_succ
theorem putA_run (w : World) (gm : Nat) (l : List (Int × Value)) (hb : w.heap[gm]? = some (.map (entsA l) l.length)) (k : Int) (v : Value) (h : ∀ z ∈ l, z.1 ≠ k) :
    (Instr.mapUpdate 101 (.map (some gm)) (.int .i64 k) v).run Tryz.prog w = .ok () (setMap w gm (.map (entsA (l ++ [(k, v)])) (l.length + 1))) := by
  have h1 := MapKept.run_findKey (P := Tryz.prog) (w := w) Tryz.underlying3 (findA_none l k h)
  have h2 := MapKept.run_checkKey (P := Tryz.prog) (w := w) (k := .int .i64 k) Tryz.underlying3 (by simp [MapKept.IsKey]) false 9999
  simp only [Instr.mapUpdate, Sem.run_bind, run_underlying Tryz.underlying101, Result.andThen, MapKept.run_getObj_map hb, h2, h1]
  rw [MapKept.run_setObj_map _ hb, entsA_push]
  rfl
section
variable {w w0 w' : World} {tag tag' : Nat → Nat} {tc p q n m : Nat} {vo ce id : Int} {X X' : CX} {lv rv vv nv av pv vv' nv' av' ov cv ev ov' cv' ev' : Value} {bm born clk k gm : Nat} {c c' : PC}
/-- A map of answers gets one more. -/
theorem AnsOk.put {l : List (Int × Value)} {zz : List (Int × An)} (hm : w.heap[gm]? = some (.map (entsA l) l.length)) (tg : tag gm = tc) (hl : l.length = zz.length) (hz : ∀ (i : Nat) (z : Int × An), zz[i]? = some z → ∃ x, l[i]? = some (z.1, x) ∧ AnV w tag tc z.2 x) (fr : Int) (A : An) (v : Value) (hv : AnV w tag tc A v) :
    AnsOk (setMap w gm (.map (entsA (l ++ [(fr, v)])) (l.length + 1))) tag tc (.map (some gm)) (zz ++ [(fr, A)]) := by
  have ho := setMap_only w gm (.map (entsA (l ++ [(fr, v)])) (l.length + 1))
  have lg := (Array.getElem?_eq_some_iff.1 hm).1
  have hT : ∀ b, b < w.heap.size → tag b = tc → b = gm → Mu w b := fun b _ _ e => by rw [e]; exact Mu.of_map hm
  refine .inr ⟨gm, l ++ [(fr, v)], rfl, tg, by rw [setMap_at lg]; simp, by simp [hl], fun i z hi => ?_⟩
  by_cases hlt : i < zz.length
  · rw [List.getElem?_append_left hlt] at hi
    obtain ⟨x, h1, h2⟩ := hz i z hi
    exact ⟨x, by rw [List.getElem?_append_left (by omega)]; exact h1, h2.only ho hT (fun _ _ e => e)⟩
  · rw [List.getElem?_append_right (by omega)] at hi
    have hi0 : i - zz.length = 0 := by
      have := (List.getElem?_eq_some_iff.1 hi).1
      simp at this
      omega
    rw [hi0] at hi
    simp at hi
    subst hi
    exact ⟨v, by rw [List.getElem?_append_right (by omega), hl, hi0]; rfl, hv.only ho hT (fun _ _ e => e)⟩
/-- The probe has an answer more. -/
theorem ClK.ansP (h : ClK w tag tc p q n m vo ce id X lv rv vv nv (.map (some gm)) bm born clk) {l : List (Int × Value)} (hm : w.heap[gm]? = some (.map (entsA l) l.length)) (tg : tag gm = tc) (hl : l.length = X.pr.ans.length) (hz : ∀ (i : Nat) (z : Int × An), X.pr.ans[i]? = some z → ∃ x, l[i]? = some (z.1, x) ∧ AnV w tag tc z.2 x) (fr : Int) (A : An) (v : Value) (hv : AnV w tag tc A v) :
    ClK (setMap w gm (.map (entsA (l ++ [(fr, v)])) (l.length + 1))) tag tc p q n m vo ce id { X with pr := { X.pr with ans := X.pr.ans ++ [(fr, A)] } } lv rv vv nv (.map (some gm)) bm born clk := by
  have ho := setMap_only w gm (.map (entsA (l ++ [(fr, v)])) (l.length + 1))
  have hT : ∀ b, b < w.heap.size → tag b = tc → b = gm → Mu w b := fun b _ _ e => by rw [e]; exact Mu.of_map hm
  have ht : ∀ b, b < w.heap.size → tag b = tc → tag b = tc := fun _ _ e => e
  have hgb : bm ≠ gm := fun e => h.nb gm rfl (by rw [e])
  exact ⟨(ho.block p h.lp fun e => map_ne ⟨_, _, hm⟩ h.hp e.symm).trans h.hp, h.tp, h.lay.only ho hT ht, h.res.only ho hT (fun b hb _ _ e => by
    obtain ⟨xs, h1, _⟩ := h.res
    exact own_not_map ⟨_, _, hm⟩ h1 (by rw [hb, e])) ht, h.tb, (ho.block bm h.lb hgb).trans h.mp, h.bc, ⟨h.pr.val.only ho hT (.inr (.inl rfl)) ht, h.pr.nodes.only ho hT (.inl rfl) ht, AnsOk.put hm tg hl hz fr A v hv, fun e => by simp at e⟩, h.nb, fun c hc => (h.call c hc).only ho hT (fun _ _ ⟨arr, ha⟩ e => map_ne ⟨_, _, hm⟩ ha e.symm) (fun b hb _ _ _ e => hb (by rw [e])) ht⟩
/-- The call has an answer more. -/
theorem ClK.ansQ (h : ClK w tag tc p q n m vo ce id X lv rv vv nv av bm born clk) (hc : X.pend = some c) (k : CallOk w tag tc q c ov cv ev vv' nv' (.map (some gm))) (hn : c.num < X.res.length) (k2 : NeMap (.map (some gm)) (.map (some bm))) (k3 : NeMap (.map (some gm)) av) {l : List (Int × Value)} (hm : w.heap[gm]? = some (.map (entsA l) l.length)) (tg : tag gm = tc) (hl : l.length = c.q.ans.length) (hz : ∀ (i : Nat) (z : Int × An), c.q.ans[i]? = some z → ∃ x, l[i]? = some (z.1, x) ∧ AnV w tag tc z.2 x) (fr : Int) (A : An) (v : Value) (hv : AnV w tag tc A v) :
    ClK (setMap w gm (.map (entsA (l ++ [(fr, v)])) (l.length + 1))) tag tc p q n m vo ce id { X with pend := some { c with q := { c.q with ans := c.q.ans ++ [(fr, A)] } } } lv rv vv nv av bm born clk := by
  have ho := setMap_only w gm (.map (entsA (l ++ [(fr, v)])) (l.length + 1))
  have hT : ∀ b, b < w.heap.size → tag b = tc → b = gm → Mu w b := fun b _ _ e => by rw [e]; exact Mu.of_map hm
  have ht : ∀ b, b < w.heap.size → tag b = tc → tag b = tc := fun _ _ e => e
  have hgb : bm ≠ gm := fun e => k2 gm rfl (by rw [e])
  refine ⟨(ho.block p h.lp fun e => map_ne ⟨_, _, hm⟩ h.hp e.symm).trans h.hp, h.tp, h.lay.only ho hT ht, h.res.only ho hT (fun b hb _ _ e => by
    obtain ⟨xs, h1, _⟩ := h.res
    exact own_not_map ⟨_, _, hm⟩ h1 (by rw [hb, e])) ht, h.tb, ?_, ?_, h.pr.only ho hT (fun b hb _ _ e => k3 gm rfl (by rw [hb, e])) ht, h.nb, fun c2 hc2 => ?_⟩
  · rw [ho.block bm h.lb hgb, h.mp, hc]
    rfl
  · exact .inl (h.bc.resolve_right (by rw [hc]; simp))
  · simp only [Option.some.injEq] at hc2
    subst hc2
    exact ⟨ov, cv, ev, vv', nv', _, ⟨(ho.block q k.lt fun e => map_ne ⟨_, _, hm⟩ k.hq e.symm).trans k.hq, k.tq, k.own.only ho hT (.inr (.inl rfl)) ht, k.cont.only ho hT (.inr (.inl rfl)) ht, k.e.only ho hT (.inr (.inl rfl)) ht, ⟨k.q.val.only ho hT (.inr (.inl rfl)) ht, k.q.nodes.only ho hT (.inl rfl) ht, AnsOk.put hm tg hl hz fr A v hv, fun e => by simp at e⟩⟩, hn, k2, k3⟩
theorem CStep.retag0 (h : CStep w tag tc p q n m vo ce id X w') (ht : ∀ b, tag b = tc → tag' b = tc) : CStep w tag' tc p q n m vo ce id X w' := by
  refine ⟨h.1.retag fun b _ e => ?_, h.2.mono fun b _ e => ⟨ht b e.1, e.2⟩⟩
  by_cases hlt : b < w.heap.size
  · rw [tagTo_old _ _ _ _ hlt] at e ⊢; exact ht b e
  · rw [tagTo_new _ _ _ _ (by omega)]
theorem awaits_mem {q : PQ} {nr fr : Int} (h : q.awaits nr fr = true) : q.nr = nr ∧ fr ∈ q.nodes ∧ ∀ z ∈ q.ans, z.1 ≠ fr := by
  simp only [PQ.awaits, Bool.and_eq_true, decide_eq_true_eq, Bool.not_eq_true', List.any_eq_false, beq_iff_eq] at h
  exact ⟨h.1.1, h.1.2, fun z hz e => h.2 z hz (by simpa using e)⟩
set_option maxRecDepth 100000 in
theorem asker1_any (A : An) (va : Option Addr) (vc : Nat) (w : World) : Calls Tryz.prog 265 #[anV A va vc] w fun en w' => en = .returned (.tuple #[]) ∧ Bl w w' := by
  unfold anV
  go_enter Tryz.func265, Tryz.ntmps265
  go_wp2
  go_end0
  exact ⟨rfl, (Bl.refl w).alloc _⟩
set_option maxRecDepth 100000 in
set_option maxHeartbeats 4000000 in
theorem asker2_any (h : ClK w tag tc p q n m vo ce id X lv rv vv nv av bm born clk) (hc : X.pend = some c) (ha : 0 ≤ X.asked) (hb : X.asked ≤ 1000000) (A : An) (hG : GoOk n m vo ce c A) (va : Option Addr) (vc : Nat) (ht : Rd w tag tc 5 (.slice va A.ct.val.length vc) (A.ct.val.map B8)) (g1 g2 : Nat) (c1 : w.cell? ⟨g1, 0, none⟩ = some (.pointer (some ⟨p, 0, none⟩))) (c2 : w.cell? ⟨g2, 0, none⟩ = some (.pointer (some ⟨q, 0, none⟩))) (l1 : g1 < w.heap.size) (l2 : g2 < w.heap.size) :
    Calls Tryz.prog 267 #[anV A va vc, .pointer (some ⟨g1, 0, none⟩), .pointer (some ⟨g2, 0, none⟩)] w fun en w' => en = .returned (.tuple #[]) ∧ CStep w tag tc p q n m vo ce id (X.goOn n m c A) w' := by
  have bW := (Bl.refl w).alloc (anO A va vc)
  have hW1 := h.bl bW (tag' := tag) (fun _ _ e => e)
  have HN := hid (cl_goOn hW1 hc ha hb A hG va vc (ht.bl bW (fun _ _ e => e)))
  have d1 := (bW.cell l1).trans c1
  have d2 := (bW.cell l2).trans c2
  have BW := hid bW
  clear h hW1 ht bW
  unfold anV at HN ⊢
  unfold anO at HN BW d1 d2
  go_enter Tryz.func267, Tryz.ntmps267
  go_wp2_with (go_at_call 268; refine HN.out.mono ?_; rintro en w3 ⟨rfl, hs⟩; have HS := hid hs; clear hs)
  go_end0
  exact ⟨rfl, HS.out.pre BW.out⟩
set_option maxRecDepth 100000 in
set_option maxHeartbeats 4000000 in
/-- The answer is one to the probe. -/
theorem replied_probe (h : ClK w tag tc p q n m vo ce id X lv rv vv nv av bm born clk) (hl : X.pr.nodes.length ≤ 100) (fr nr : Int) (hw : X.pr.awaits nr fr = true) (A : An) (h5 : A.wh ≠ 5) (va : Option Addr) (vc : Nat) (ht : Rd w tag tc 5 (.slice va A.ct.val.length vc) (A.ct.val.map B8)) :
    Calls Tryz.prog 211 #[.pointer (some ⟨p, 0, none⟩), .int .i64 fr, .int .i64 nr, anV A va vc] w fun en w' => en = .returned (.tuple #[]) ∧ CStep w tag tc p q n m vo ce id { X with pr := { X.pr with ans := X.pr.ans ++ [(fr, A)] } } w' := by
  obtain ⟨W, hW⟩ : ∃ W, w.alloc (anO A va vc) = W := ⟨_, rfl⟩
  have bW := (Bl.refl w).alloc (anO A va vc)
  have hXX := heap_alloc_new w (anO A va vc)
  rw [hW] at bW hXX
  have hW1 := h.bl bW (tag' := tag) (fun _ _ e => e)
  obtain ⟨⟨r0, r1, r2, r3, r4, r5, r6⟩, _, lr⟩ := row7 hXX
  have HA := hid (asker_probe hW1 hl fr nr hw)
  have HF := hid (asker1_any A va vc)
  have HW := hid hW
  have HW1 := hid hW1
  have Ht := hid (ht.bl bW (tag' := tag) (fun _ _ e => e))
  obtain ⟨_, hmem, hnot⟩ := awaits_mem hw
  have BW := hid bW
  have h5d : (A.wh == 5) = false := by simpa using h5
  have Hh := hid h
  obtain ⟨gm, hav⟩ : ∃ gm, av = .map (some gm) := by
    rcases h.pr.ans with ⟨e, _⟩ | ⟨gm, l, e, _⟩
    · have := h.pr.nil e
      rw [this] at hmem
      simp at hmem
    · exact ⟨gm, e⟩
  subst hav
  have Hnot := hid hnot
  clear h hW1 hW bW hXX ht hnot
  unfold anV
  unfold anO at HW
  go_enter Tryz.func211, Tryz.ntmps211
  go_upto_region 1 with fail
  rw [HW.out]
  clear HW
  go_wp2_with (go_at_call 244; refine HA.out.mono ?_; rintro en w2 ⟨rfl, hb2⟩; have hW2 := HW1.out.bl hb2 (tag' := tag) (fun _ _ e => e); have z20 := hW2.cellAt 20 rfl; have lp2 := hW2.lp; have s0 := (hb2.cell lr).trans r0; have s1 := (hb2.cell lr).trans r1; have s2 := (hb2.cell lr).trans r2; have s3 := (hb2.cell lr).trans r3; have s4 := (hb2.cell lr).trans r4; have s5 := (hb2.cell lr).trans r5; have s6 := (hb2.cell lr).trans r6; have lr2 := Nat.lt_of_lt_of_le lr hb2.lt; have HW2 := hid hW2; have HB2 := hid hb2; clear hb2 hW2 HA r0 r1 r2 r3 r4 r5 r6)
  obtain ⟨l, tg, hm2, hll, hz⟩ : ∃ l, tag gm = tc ∧ w2.heap[gm]? = some (.map (entsA l) l.length) ∧ l.length = X.pr.ans.length ∧ ∀ (i : Nat) (z : Int × An), X.pr.ans[i]? = some z → ∃ x, l[i]? = some (z.1, x) ∧ AnV w2 tag tc z.2 x := by
    rcases HW2.out.pr.ans with ⟨e, _⟩ | ⟨gm', l, e, e2⟩
    · simp at e
    · simp at e
      subst e
      exact ⟨l, e2⟩
  have hno : ∀ z ∈ l, z.1 ≠ fr := fun z hz' e => by
    obtain ⟨i, hi, rfl⟩ := List.mem_iff_getElem.1 hz'
    obtain ⟨x, y1, _⟩ := hz i _ (List.getElem?_eq_getElem (show i < X.pr.ans.length by omega))
    rw [List.getElem?_eq_getElem hi] at y1
    simp only [Option.some.injEq] at y1
    exact Hnot.out _ (List.getElem_mem (show i < X.pr.ans.length by omega)) (by rw [y1] at e; exact e)
  have hv2 : AnV w2.drew tag tc A (anV A va vc) := ⟨⟨_, rfl, Ht.out.bl (HB2.out.drew) (fun _ _ e => e)⟩⟩
  have HX2 := hid ((HW2.out.bl ((Bl.refl w2).drew) (tag' := tag) (fun _ _ e => e)).ansP (l := l) hm2 tg hll (fun i z hi => by
    obtain ⟨x, y1, y2⟩ := hz i z hi
    exact ⟨x, y1, y2.only (Only.of_bl (S := fun _ => False) ((Bl.refl w2).drew)) (fun _ _ _ e => e.elim) (fun _ _ e => e)⟩) fr A _ hv2)
  have hput1 := putA_run w2 gm l hm2 fr (anV A va vc) hno
  have hput2 := putA_run w2.drew gm l hm2 fr (anV A va vc) hno
  have ho := setMap_only w2.drew gm (.map (entsA (l ++ [(fr, anV A va vc)])) (l.length + 1))
  have hgm : gm ≠ w.heap.size := fun e => by
    have := Hh.out.pr.ans.map (b := gm) rfl
    omega
  obtain ⟨W3, hW3⟩ : ∃ W3, setMap w2.drew gm (.map (entsA (l ++ [(fr, anV A va vc)])) (l.length + 1)) = W3 := ⟨_, rfl⟩
  rw [hW3] at HX2 ho hput2
  have lr3 : w.heap.size < W3.heap.size := Nat.lt_of_lt_of_le lr2 ho.size
  have t0 := (ho.cell (b := w.heap.size) (o := 0) lr2 (Ne.symm hgm)).trans s0
  have t1 := (ho.cell (b := w.heap.size) (o := 1) lr2 (Ne.symm hgm)).trans s1
  have t2 := (ho.cell (b := w.heap.size) (o := 2) lr2 (Ne.symm hgm)).trans s2
  have t3 := (ho.cell (b := w.heap.size) (o := 3) lr2 (Ne.symm hgm)).trans s3
  have t4 := (ho.cell (b := w.heap.size) (o := 4) lr2 (Ne.symm hgm)).trans s4
  have t5 := (ho.cell (b := w.heap.size) (o := 5) lr2 (Ne.symm hgm)).trans s5
  have t6 := (ho.cell (b := w.heap.size) (o := 6) lr2 (Ne.symm hgm)).trans s6
  have HO := hid ho
  have Htc : Hid (Tc tag tc w gm) := by
    obtain ⟨e1, e2, es, k, e3⟩ := Hh.out.pr.ans.map (b := gm) rfl
    exact ⟨e2, Mu.of_map e3⟩
  unfold anV at hput1 hput2 HF
  clear ho hW3 hm2 hz hno hv2
  go_region
  all_goals
    go_wp2_with (go_at_call 265; refine (HF.out _).mono ?_; rintro en w5 ⟨rfl, hb5⟩; have HB5 := hid hb5; clear hb5)
    go_end0
    refine ⟨rfl, ?_⟩
    have hfin := HX2.out.bl HB5.out (tag' := tagTo tag w.heap.size tc) (fun b _ e => by
      by_cases hlt : b < w.heap.size
      · rw [tagTo_old _ _ _ _ hlt]; exact e
      · rw [tagTo_new _ _ _ _ (by omega)])
    refine ⟨Cl.of hfin, ?_⟩
    have O1 : Only (fun b => b = gm) w w5 := ((Only.of_bl (S := fun b => b = gm) (BW.out.trans (HB2.out.drew))).trans HO.out).trans (Only.of_bl HB5.out)
    exact O1.mono fun b _ e => by rw [e]; exact Htc.out
set_option maxRecDepth 100000 in
set_option maxHeartbeats 4000000 in
/-- The answer is one to the call. -/
theorem replied_call (h : ClK w tag tc p q n m vo ce id X lv rv vv nv av bm born clk) (hl : X.pr.nodes.length ≤ 100) (fr nr : Int) (hw : X.pr.awaits nr fr = false) (hc : X.pend = some c) (hl2 : c.q.nodes.length ≤ 100) (hq : c.q.awaits nr fr = true) (ha : 0 ≤ X.asked) (hb : X.asked ≤ 1000000) (A : An) (h5 : A.wh ≠ 5) (hG : GoOk n m vo ce { c with q := { c.q with ans := c.q.ans ++ [(fr, A)] } } A) (va : Option Addr) (vc : Nat) (ht : Rd w tag tc 5 (.slice va A.ct.val.length vc) (A.ct.val.map B8)) :
    Calls Tryz.prog 211 #[.pointer (some ⟨p, 0, none⟩), .int .i64 fr, .int .i64 nr, anV A va vc] w fun en w' => en = .returned (.tuple #[]) ∧ CStep w tag tc p q n m vo ce id (X.goOn n m { c with q := { c.q with ans := c.q.ans ++ [(fr, A)] } } A) w' := by
  obtain ⟨W, hW⟩ : ∃ W, w.alloc (anO A va vc) = W := ⟨_, rfl⟩
  have bW := (Bl.refl w).alloc (anO A va vc)
  have hXX := heap_alloc_new w (anO A va vc)
  rw [hW] at bW hXX
  have hW1 := h.bl bW (tag' := tag) (fun _ _ e => e)
  obtain ⟨⟨r0, r1, r2, r3, r4, r5, r6⟩, _, lr⟩ := row7 hXX
  have HA := hid (asker_some hW1 hl fr nr hw hc hl2)
  have HW := hid hW
  have HW1 := hid hW1
  have Ht := hid (ht.bl bW (tag' := tag) (fun _ _ e => e))
  obtain ⟨_, hmem, hnot⟩ := awaits_mem hq
  have BW := hid bW
  have h5d : (A.wh == 5) = false := by simpa using h5
  have Hh := hid h
  have Hnot := hid hnot
  have Hmem := hid hmem
  clear h hW1 hW bW hXX ht hnot hmem
  unfold anV
  unfold anO at HW
  go_enter Tryz.func211, Tryz.ntmps211
  go_upto_region 1 with fail
  rw [HW.out]
  clear HW
  go_wp2_with fail
  refine HA.out.mono ?_
  rintro en w2 ⟨hb2, _, hyes⟩
  obtain ⟨g1, g2, rfl, lg1, lg2, hg1, hg2⟩ := hyes hq
  have hW2 := HW1.out.bl hb2 (tag' := tag) (fun _ _ e => e)
  obtain ⟨ov, cv, ev, v3, n3, a3, hk, hnum, k2, k3⟩ := hW2.call c hc
  obtain ⟨gm, l, ha3, tg, hm2, hll, hz⟩ : ∃ gm l, a3 = .map (some gm) ∧ tag gm = tc ∧ w2.heap[gm]? = some (.map (entsA l) l.length) ∧ l.length = c.q.ans.length ∧ ∀ (i : Nat) (z : Int × An), c.q.ans[i]? = some z → ∃ x, l[i]? = some (z.1, x) ∧ AnV w2 tag tc z.2 x := by
    rcases hk.q.ans with ⟨e, _⟩ | ⟨gm, l, e⟩
    · have := hk.q.nil e
      have hmm := Hmem.out
      rw [this] at hmm
      simp at hmm
    · exact ⟨gm, l, e⟩
  subst ha3
  have z26 := hk.cellAt 26 rfl
  have lq2 := hk.lt
  have s0 := (hb2.cell lr).trans r0
  have s1 := (hb2.cell lr).trans r1
  have s2 := (hb2.cell lr).trans r2
  have s3 := (hb2.cell lr).trans r3
  have s4 := (hb2.cell lr).trans r4
  have s5 := (hb2.cell lr).trans r5
  have s6 := (hb2.cell lr).trans r6
  have lr2 := Nat.lt_of_lt_of_le lr hb2.lt
  have HB2 := hid hb2
  have hno : ∀ z ∈ l, z.1 ≠ fr := fun z hz' e => by
    obtain ⟨i, hi, rfl⟩ := List.mem_iff_getElem.1 hz'
    obtain ⟨x, y1, _⟩ := hz i _ (List.getElem?_eq_getElem (show i < c.q.ans.length by omega))
    rw [List.getElem?_eq_getElem hi] at y1
    simp only [Option.some.injEq] at y1
    exact Hnot.out _ (List.getElem_mem (show i < c.q.ans.length by omega)) (by rw [y1] at e; exact e)
  have bd := (Bl.refl w2).drew
  have hv2 : AnV w2.drew tag tc A (anV A va vc) := ⟨⟨_, rfl, Ht.out.bl (HB2.out.drew) (fun _ _ e => e)⟩⟩
  have HX2 := (hW2.bl bd (tag' := tag) (fun _ _ e => e)).ansQ hc (hk.only (Only.of_bl (S := fun _ => False) bd) (fun _ _ _ e => e.elim) (fun e => e) (fun _ _ _ _ e => e) (fun _ _ e => e)) hnum k2 k3 (l := l) hm2 tg hll (fun i z hi => by
    obtain ⟨x, y1, y2⟩ := hz i z hi
    exact ⟨x, y1, y2.only (Only.of_bl (S := fun _ => False) bd) (fun _ _ _ e => e.elim) (fun _ _ e => e)⟩) fr A _ hv2
  have hput1 := putA_run w2 gm l hm2 fr (anV A va vc) hno
  have hput2 := putA_run w2.drew gm l hm2 fr (anV A va vc) hno
  have ho := setMap_only w2.drew gm (.map (entsA (l ++ [(fr, anV A va vc)])) (l.length + 1))
  have lgmw : gm < w.heap.size ∧ Tc tag tc w gm := by
    have hgm2 := hm2
    obtain ⟨ov', cv', ev', v3', n3', a3', hk', _⟩ := Hh.out.call c hc
    have heq : a3' = .map (some gm) := by
      have y := ((BW.out.trans HB2.out).cell hk'.lt).trans (hk'.cellAt 26 rfl)
      rw [z26] at y
      simpa using y.symm
    obtain ⟨e1, e2, es, kk, e3⟩ := hk'.q.ans.map heq
    exact ⟨e1, e2, Mu.of_map e3⟩
  have hgm : gm ≠ w.heap.size := fun e => by
    have := lgmw.1
    omega
  obtain ⟨W3, hW3⟩ : ∃ W3, setMap w2.drew gm (.map (entsA (l ++ [(fr, anV A va vc)])) (l.length + 1)) = W3 := ⟨_, rfl⟩
  rw [hW3] at HX2 ho hput2
  have lr3 : w.heap.size < W3.heap.size := Nat.lt_of_lt_of_le lr2 ho.size
  have t0 := (ho.cell (b := w.heap.size) (o := 0) lr2 (Ne.symm hgm)).trans s0
  have t1 := (ho.cell (b := w.heap.size) (o := 1) lr2 (Ne.symm hgm)).trans s1
  have t2 := (ho.cell (b := w.heap.size) (o := 2) lr2 (Ne.symm hgm)).trans s2
  have t3 := (ho.cell (b := w.heap.size) (o := 3) lr2 (Ne.symm hgm)).trans s3
  have t4 := (ho.cell (b := w.heap.size) (o := 4) lr2 (Ne.symm hgm)).trans s4
  have t5 := (ho.cell (b := w.heap.size) (o := 5) lr2 (Ne.symm hgm)).trans s5
  have t6 := (ho.cell (b := w.heap.size) (o := 6) lr2 (Ne.symm hgm)).trans s6
  have l1w2 := (Array.getElem?_eq_some_iff.1 hg1).1
  have l2w2 := (Array.getElem?_eq_some_iff.1 hg2).1
  have lWw := BW.out.lt
  have u1 : W3.cell? ⟨g1, 0, none⟩ = some (.pointer (some ⟨p, 0, none⟩)) := (ho.cell (b := g1) (o := 0) l1w2 (by have := lgmw.1; omega)).trans (cell_of_row w2 g1 0 _ 94 (0, 0) hg1)
  have u2 : W3.cell? ⟨g2, 0, none⟩ = some (.pointer (some ⟨q, 0, none⟩)) := (ho.cell (b := g2) (o := 0) l2w2 (by have := lgmw.1; omega)).trans (cell_of_row w2 g2 0 _ 159 (0, 0) hg2)
  have HF := hid (asker2_any HX2 (c := { c with q := { c.q with ans := c.q.ans ++ [(fr, A)] } }) rfl ha hb A hG va vc ((Ht.out.bl (HB2.out.drew) (tag' := tag) (fun _ _ e => e)).only ho (fun b _ _ e => by rw [e]; exact Mu.of_map hm2) (.inr (.inl rfl)) (fun _ _ e => e)) g1 g2 u1 u2 (Nat.lt_of_lt_of_le l1w2 ho.size) (Nat.lt_of_lt_of_le l2w2 ho.size))
  have HO := hid ho
  have Htc := hid lgmw.2
  have HX3 := hid HX2
  unfold anV at hput1 hput2 HF
  clear ho hW3 hm2 hz hno hv2 hb2 hW2 hk HA hyes HX2 r0 r1 r2 r3 r4 r5 r6 bd hg1 hg2 k2 k3
  go_upto_region 2 with fail
  go_region
  all_goals
    go_wp2_with (go_at_call 267; refine HF.out.mono ?_; rintro en w5 ⟨rfl, hs⟩; have HS := hid hs; clear hs)
    go_end0
    refine ⟨rfl, ?_⟩
    have O1 : Only (fun b => b = gm) w W3 := (Only.of_bl (S := fun b => b = gm) (BW.out.trans (HB2.out.drew))).trans HO.out
    have S1 : CStep w tag tc p q n m vo ce id { X with pend := some { c with q := { c.q with ans := c.q.ans ++ [(fr, A)] } } } W3 := ⟨Cl.of (HX3.out.bl (Bl.refl _) (tag' := tagTo tag w.heap.size tc) (fun b _ e => by
      by_cases hlt : b < w.heap.size
      · rw [tagTo_old _ _ _ _ hlt]; exact e
      · rw [tagTo_new _ _ _ _ (by omega)])), O1.mono fun b _ e => by rw [e]; exact Htc.out⟩
    exact S1.trans (HS.out.retag0 (tag' := tagTo tag w.heap.size tc) fun b e => by
      by_cases hlt : b < w.heap.size
      · rw [tagTo_old _ _ _ _ hlt]; exact e
      · rw [tagTo_new _ _ _ _ (by omega)])
set_option maxRecDepth 100000 in
set_option maxHeartbeats 4000000 in
/-- Nobody awaits the answer. -/
theorem replied_none (h : ClK w tag tc p q n m vo ce id X lv rv vv nv av bm born clk) (hl : X.pr.nodes.length ≤ 100) (fr nr : Int) (hw : X.pr.awaits nr fr = false) (hc : ∀ c, X.pend = some c → c.q.nodes.length ≤ 100 ∧ c.q.awaits nr fr = false) (A : An) (va : Option Addr) (vc : Nat) :
    Calls Tryz.prog 211 #[.pointer (some ⟨p, 0, none⟩), .int .i64 fr, .int .i64 nr, anV A va vc] w fun en w' => en = .returned (.tuple #[]) ∧ CStep w tag tc p q n m vo ce id X w' := by
  obtain ⟨W, hW⟩ : ∃ W, w.alloc (anO A va vc) = W := ⟨_, rfl⟩
  have bW := (Bl.refl w).alloc (anO A va vc)
  rw [hW] at bW
  have hW1 := h.bl bW (tag' := tag) (fun _ _ e => e)
  have HA : Hid (Calls Tryz.prog 244 #[.pointer (some ⟨p, 0, none⟩), .int .i64 fr, .int .i64 nr] W fun en w' => en = .returned (.tuple #[.pointer none, .nilFunc]) ∧ Bl W w') := by
    cases hp : X.pend with
    | none => exact asker_none0 hW1 hl fr nr hw hp
    | some c =>
      obtain ⟨h1, h2⟩ := hc c hp
      exact (asker_some hW1 hl fr nr hw hp h1).mono fun en w' ⟨e1, e2, _⟩ => ⟨e2 h2, e1⟩
  have HW := hid hW
  have BW := hid bW
  have Hh := hid (Cl.of h)
  clear h hW1 hW bW
  unfold anV
  unfold anO at HW
  go_enter Tryz.func211, Tryz.ntmps211
  go_upto_region 1 with fail
  rw [HW.out]
  clear HW
  go_wp2_with (go_at_call 244; refine HA.out.mono ?_; rintro en w2 ⟨rfl, hb2⟩; have HB2 := hid hb2; clear hb2)
  (try simp only [Exit.inBlock, Exit.then])
  refine bodyPost_ret (v := .tuple #[]) (by simp [results, Tryz.results211, go_sem]) rfl ⟨rfl, ?_⟩
  exact CStep.of_bl Hh.out (BW.out.trans HB2.out)
end
end Go.Proofs.YtnhjmiglegdamaaGreat

namespace Go.Proofs.YtnhjmiglegdamaaGreat
open Go.RowKit Go.Maps
open Go.ChangeMaps (setBlock)
attribute [local go_sem ↓] Go.wp_at_zero Go.wp_at_succ
def zmv : List Value := [.int .i64 0, .bool false, .map none, .int .i64 0, .slice none 0 0,
  .int .i64 0, .int .i64 0, .int .i64 0, .int .i64 0, .int .i64 0, .int .i64 0, .int .i64 0, .slice none 0 0, .slice none 0 0, .bool false, .map none,
  .int .i64 0, .int .i64 0, .int .i64 0, .int .i64 0, .int .i64 0, .int .i64 0, .int .i64 0, .slice none 0 0, .slice none 0 0, .bool false, .map none]
theorem len98s (w : World) (bm clk born : Nat) (k : Int) (v : Value) (hb : w.heap[bm]? = some (.map #[⟨.int .i64 k, v, born⟩] clk)) : (Builtin.len_ #[98] 3 #[.map (some bm)]).run Tryz.prog w = .ok (.int .i64 1) w := by
  simp [Builtin.len_, Sem.run_bind, run_underlying Tryz.underlying98, Result.andThen, MapKept.run_getObj_map hb]
  rfl
section
variable {w w0 w' : World} {tag tag' : Nat → Nat} {tc p q n m : Nat} {vo ce id : Int} {X X' : CX} {lv rv vv nv av pv vv' nv' av' ov cv ev ov' cv' ev' : Value} {bm born clk k gm : Nat} {c c' : PC}
theorem puts_is (p : Nat) : ∀ (vs : List Value) (o : Nat) (w : World), w.setCells p o vs = puts w p o vs
  | [], _, _ => rfl
  | _ :: vs, o, _ => puts_is p vs (o + 1) _
theorem zmv_put (n m : Nat) (vo ce id : Int) (lv rv : Value) (bm : Nat) (asked : Int) (q : PQ) (vv nv av : Value) : putL (((cliL n m vo ce id lv rv bm asked q vv nv av).set 51 (.bool false)).set 21 (.int .i64 0)) 23 zmv = cliL n m vo ce id lv rv bm asked q vv nv av := by kernel_rfl
/-- There is no move: none is laid. -/
theorem ClK.noMove (h : ClK w tag tc p q n m vo ce id X lv rv vv nv av bm born clk) : ClK (puts ((w.setCell ⟨p, 51, none⟩ (.bool false)).setCell ⟨p, 21, none⟩ (.int .i64 0)) p 23 zmv) tag tc p q n m vo ce id X lv rv vv nv av bm born clk :=
  h.reP (puts_only (S := fun b => b = p) (.inl rfl) _ 23 _ (((Only.refl (fun b => b = p) w).setCell ⟨p, 51, none⟩ (.inl rfl) _).setCell ⟨p, 21, none⟩ (.inl rfl) _)) (by
    have := puts_heap zmv 23 _ _ (set_heap 21 (.int .i64 0) _ _ (set_heap 51 (.bool false) w _ h.hp))
    rw [zmv_put] at this
    exact this) rfl rfl h.pr h.nb h.call
theorem CStep.mk1 (h : ClK w tag tc p q n m vo ce id X lv rv vv nv av bm born clk) (k : Cl w' tag tc p q n m vo ce id X') (ho : Only (fun b => b = p) w w') : CStep w tag tc p q n m vo ce id X' w' :=
  ⟨k.retag fun b _ e => by
    by_cases hlt : b < w.heap.size
    · rw [tagTo_old _ _ _ _ hlt]; exact e
    · rw [tagTo_new _ _ _ _ (by omega)], ho.mono fun b lb e => ⟨by rw [e]; exact h.tp, h.mu b lb (by rw [e]; exact h.tp) e⟩⟩
set_option maxHeartbeats 4000000 in
set_option maxRecDepth 100000 in
theorem cl_tick0 (h : ClK w tag tc p q n m vo ce id X lv rv vv nv av bm born clk) (hc : X.pend = none) :
    Calls Tryz.prog 96 #[.pointer (some ⟨p, 0, none⟩)] w fun en w' => en = .returned (.tuple #[]) ∧ CStep w tag tc p q n m vo ce id X w' := by
  have H1 := h.noMove
  have O1 : Only (fun b => b = p) w (puts ((w.setCell ⟨p, 51, none⟩ (.bool false)).setCell ⟨p, 21, none⟩ (.int .i64 0)) p 23 zmv) := puts_only (S := fun b => b = p) (.inl rfl) _ 23 _ (((Only.refl (fun b => b = p) w).setCell ⟨p, 51, none⟩ (.inl rfl) _).setCell ⟨p, 21, none⟩ (.inl rfl) _)
  obtain ⟨W1, hW1⟩ : ∃ W1, puts ((w.setCell ⟨p, 51, none⟩ (.bool false)).setCell ⟨p, 21, none⟩ (.int .i64 0)) p 23 zmv = W1 := ⟨_, rfl⟩
  rw [hW1] at H1 O1
  have S1 := hid (CStep.mk1 h (Cl.of H1) O1)
  have y50 := h.cellAt 50 rfl
  have y21 := h.cellAt 21 rfl
  have g21 := h.frz 21
  have y51 := h.cellAt 51 rfl
  have g51 := h.frz 51
  have hth : Hid (((w.setCell ⟨p, 51, none⟩ (.bool false)).setCell ⟨p, 21, none⟩ (.int .i64 0)).there p 23 27) := fun j hj => by
    have hh := set_heap 21 (.int .i64 0) _ _ (set_heap 51 (.bool false) w _ h.hp)
    refine ⟨?_, frozen_of_row _ p _ _ 114 hh⟩
    rw [cell_of_row _ p _ _ 114 (0, 0) hh]
    simp [cliL]
    omega
  have lp := h.lp
  have HW1 := hid hW1
  have HH1 := hid H1
  clear h hW1 H1 O1
  go_enter Tryz.func96, Tryz.ntmps96
  have hsz : (Tryz.prog.info? 108).map (·.size) = some zmv.toArray.size := by kernel_rfl
  have hone : zmv.toArray.all (·.oneCell') = true := by kernel_rfl
  have hth2 : Hid (((w.setCell ⟨p, 51, none⟩ (.bool false)).setCell ⟨p, 21, none⟩ (.int .i64 0)).there p 23 zmv.toArray.size) := hth.out
  go_upto_region 2 with ((show Go.wpList _ _ _ [{ dst := none, op := Op.store 108 _ _, type := _, pos := _, after := _, guard := _ }] _ _); refine wpList_store_mid rfl 108 (.tmp 19) (.tmp 15) rfl p 23 zmv.toArray rfl rfl hth2.out hsz hone ?_)
  have hE : ((w.setCell ⟨p, 51, none⟩ (.bool false)).setCell ⟨p, 21, none⟩ (.int .i64 0)).setCells p 23 zmv.toArray.toList = W1 := (puts_is p _ 23 _).trans HW1.out
  rw [hE]
  have d8 := HH1.out.cellAt 8 rfl
  have lp1 := HH1.out.lp
  have lb1 := HH1.out.lb
  have hm1 := HH1.out.mp
  rw [hc] at hm1
  have bI := (Bl.refl W1).alloc (.mapIter (some bm) clk #[] clk)
  have hK2 := HH1.out.bl bI (tag' := tag) (fun _ _ e => e)
  have e8 := hK2.cellAt 8 rfl
  have hlen := len98e (W1.alloc (.mapIter (some bm) clk #[] clk)) bm clk ((bI.heap lb1).trans hm1)
  have HWa := hid (cl_wants0 hK2 hc)
  have HCh : Hid (∀ W, Bl (W1.alloc (.mapIter (some bm) clk #[] clk)) W → _) := fun W hW => cl_hasChanges (hK2.bl hW (tag' := tag) (fun _ _ e => e)) (fun c e => by rw [hc] at e; simp at e)
  have BI := hid bI
  clear hK2 y21 g21 y51 g51 y50 hsz hone hth hth2 HW1 hE bI
  go_wp2_with (at_range; refine wpList_range_raw _ rfl _ 98 rfl 3 159 Tryz.underlying98 bm #[] clk rfl hm1 ?_)
  have hbm3 := (heap_alloc_old W1 (.mapIter (some bm) clk #[] clk) lb1).trans hm1
  have hit3 := heap_alloc_new W1 (.mapIter (some bm) clk #[] clk)
  have hne3 : W1.heap.size ≠ bm := by omega
  refine wp_loop_rounds 1 ?_; rw [rounds_succ]
  go_wp2_with (at_next; refine wpList_next_raw _ rfl _ rfl W1.heap.size bm clk #[] #[] clk rfl hit3 hbm3 hne3 (by simp) (Nat.le_refl _) (by simp) ?_ ?_)
  · intro _
    have lp2 : p < (W1.alloc (.mapIter (some bm) clk #[] clk)).heap.size := Nat.lt_of_lt_of_le lp1 BI.out.lt
    go_wp2_with (first | (go_at_call 51; refine HWa.out.mono ?_; rintro en w4 ⟨rfl, hb4⟩; have HB4 := hid hb4; clear hb4 HWa) | (go_at_call 90; refine (HCh.out _ HB4.out).mono ?_; rintro en w5 ⟨rfl, hb5⟩; have HB5 := hid hb5; clear hb5))
    go_end0
    exact ⟨rfl, S1.out.post (BI.out.trans (HB4.out.trans HB5.out))⟩
  · intro e W6 he
    have := (mem_left he).1
    simp at this
set_option maxHeartbeats 4000000 in
set_option maxRecDepth 100000 in
theorem cl_tick1 (h : ClK w tag tc p q n m vo ce id X lv rv vv nv av bm born clk) (hc : X.pend = some c) (hn : c.num ≤ 1000) (h5 : c.kind ≠ 5) (hf : fit n m vo ce = true) (ha : 0 ≤ X.asked) (hb : X.asked ≤ 1000000) (X' : CX) (hX' : X' = if c.wants then { X with pend := some { c with q := { c.q with due := true } } } else ({ X with pend := some { c with q := { c.q with due := true } } } : CX).probe n m) :
    Calls Tryz.prog 96 #[.pointer (some ⟨p, 0, none⟩)] w fun en w' => en = .returned (.tuple #[]) ∧ CStep w tag tc p q n m vo ce id X' w' := by
  have HX' := hid hX'
  clear hX'
  have H1 := h.noMove
  have O1 : Only (fun b => b = p) w (puts ((w.setCell ⟨p, 51, none⟩ (.bool false)).setCell ⟨p, 21, none⟩ (.int .i64 0)) p 23 zmv) := puts_only (S := fun b => b = p) (.inl rfl) _ 23 _ (((Only.refl (fun b => b = p) w).setCell ⟨p, 51, none⟩ (.inl rfl) _).setCell ⟨p, 21, none⟩ (.inl rfl) _)
  obtain ⟨W1, hW1⟩ : ∃ W1, puts ((w.setCell ⟨p, 51, none⟩ (.bool false)).setCell ⟨p, 21, none⟩ (.int .i64 0)) p 23 zmv = W1 := ⟨_, rfl⟩
  rw [hW1] at H1 O1
  have S1 := hid (CStep.mk1 h (Cl.of H1) O1)
  have y50 := h.cellAt 50 rfl
  have y21 := h.cellAt 21 rfl
  have g21 := h.frz 21
  have y51 := h.cellAt 51 rfl
  have g51 := h.frz 51
  have hth : Hid (((w.setCell ⟨p, 51, none⟩ (.bool false)).setCell ⟨p, 21, none⟩ (.int .i64 0)).there p 23 27) := fun j hj => by
    have hh := set_heap 21 (.int .i64 0) _ _ (set_heap 51 (.bool false) w _ h.hp)
    refine ⟨?_, frozen_of_row _ p _ _ 114 hh⟩
    rw [cell_of_row _ p _ _ 114 (0, 0) hh]
    simp [cliL]
    omega
  have lp := h.lp
  have HW1 := hid hW1
  have HH1 := hid H1
  clear h hW1 H1 O1
  go_enter Tryz.func96, Tryz.ntmps96
  have hsz : (Tryz.prog.info? 108).map (·.size) = some zmv.toArray.size := by kernel_rfl
  have hone : zmv.toArray.all (·.oneCell') = true := by kernel_rfl
  have hth2 : Hid (((w.setCell ⟨p, 51, none⟩ (.bool false)).setCell ⟨p, 21, none⟩ (.int .i64 0)).there p 23 zmv.toArray.size) := hth.out
  go_upto_region 2 with ((show Go.wpList _ _ _ [{ dst := none, op := Op.store 108 _ _, type := _, pos := _, after := _, guard := _ }] _ _); refine wpList_store_mid rfl 108 (.tmp 19) (.tmp 15) rfl p 23 zmv.toArray rfl rfl hth2.out hsz hone ?_)
  have hE : ((w.setCell ⟨p, 51, none⟩ (.bool false)).setCell ⟨p, 21, none⟩ (.int .i64 0)).setCells p 23 zmv.toArray.toList = W1 := (puts_is p _ 23 _).trans HW1.out
  rw [hE]
  have d8 := HH1.out.cellAt 8 rfl
  have lp1 := HH1.out.lp
  have lb1 := HH1.out.lb
  have hm1 := HH1.out.mp
  have hbc : born < clk := HH1.out.bc.resolve_right (by rw [hc]; simp)
  rw [hc] at hm1
  simp only [pendE] at hm1
  clear y21 g21 y51 g51 y50 hsz hone hth hth2 HW1 hE
  go_wp2_with (at_range; refine wpList_range_raw _ rfl _ 98 rfl 3 159 Tryz.underlying98 bm #[⟨.int .i64 c.num, .pointer (some ⟨q, 0, none⟩), born⟩] clk rfl hm1 ?_)
  have hbm3 := (heap_alloc_old W1 (.mapIter (some bm) clk #[] clk) lb1).trans hm1
  have hit3 := heap_alloc_new W1 (.mapIter (some bm) clk #[] clk)
  have hne3 : W1.heap.size ≠ bm := by omega
  refine wp_loop_rounds 2 ?_; rw [rounds_succ]
  go_wp2_with (at_next; refine wpList_next_raw _ rfl _ rfl W1.heap.size bm clk #[] #[⟨.int .i64 c.num, .pointer (some ⟨q, 0, none⟩), born⟩] clk rfl hit3 hbm3 hne3 (by simpa using hbc) (Nat.le_refl _) (by simp) ?_ ?_)
  · intro h0
    unfold NoneLeft leftOf at h0
    simp at h0
  · intro e W6 he hW6 hen
    have hee := (mem_left he).1
    simp at hee
    subst hee
    have HW6 : Only (fun k => k = W1.heap.size) (W1.alloc (.mapIter (some bm) clk #[] clk)) W6 := by
      obtain ⟨w1, e | e, rfl⟩ := hW6
      · subst e; exact setBlock_only' _ _ _
      · subst e; exact (Only.of_bl ((Bl.refl _).drew)).trans (setBlock_only' _ _ _)
    have hW6r : W6.heap[W1.heap.size]? = some (.mapIter (some bm) clk #[born] clk) := by
      obtain ⟨w1, e | e, rfl⟩ := hW6 <;> subst e <;> simp [setBlock]
    have hB6 : Bl W1 W6 := ((Bl.refl W1).alloc _).trans_only HW6 fun k e => by omega
    have hK6 := HH1.out.bl hB6 (tag' := tag) (fun _ _ e => e)
    have hD := hK6.dueQ hc true
    have S2 := S1.out.trans (CStep.retag0 (tag' := tagTo tag w.heap.size tc) (CStep.pre (q_only hK6 hc (Cl.of hD) ((Only.refl (fun b => b = q) W6).setCell ⟨q, 25, none⟩ (.inl rfl) _)) hB6) (fun b e => by
      by_cases hlt : b < w.heap.size
      · rw [tagTo_old _ _ _ _ hlt]; exact e
      · rw [tagTo_new _ _ _ _ (by omega)]))
    obtain ⟨ov, cv, ev, v3, n3, a3, hk, _⟩ := hK6.call c hc
    have e25 := hk.cellAt 25 rfl
    have g25 := hk.frz 25
    have lq6 := hk.lt
    have hqi : q ≠ W1.heap.size := fun e => by
      have := hk.hq
      rw [e, hW6r] at this
      simp at this
    obtain ⟨W7, hW7⟩ : ∃ W7, W6.setCell ⟨q, 25, none⟩ (.bool true) = W7 := ⟨_, rfl⟩
    have hit7 : W7.heap[W1.heap.size]? = some (.mapIter (some bm) clk #[born] clk) := by rw [← hW7, Below.heap_setCell _ _ _ _ (Ne.symm hqi)]; exact hW6r
    rw [hW7] at hD S2
    have hbm7 := hD.mp
    simp only [pendE] at hbm7
    have e8 := hD.cellAt 8 rfl
    have lp7 := hD.lp
    have hlen := len98s W7 bm clk born c.num _ hbm7
    have HE7 := hid hW7
    have HD7 := hid hD
    have HS2 := hid S2
    have HWa := hid (cl_wants1 hD (c := { c with q := { c.q with due := true } }) rfl)
    have hwa : Hid (({ c with q := { c.q with due := true } } : PC).wants = c.wants) := rfl
    rw [hwa.out] at HWa
    clear HW6 hW6 he hB6 hW6r hk hK6 hD S2 hW7 hbm3 hit3 hm1
    go_wp2
    rw [rounds_succ, HE7.out]
    clear HE7 e25 g25
    go_wp2_with (at_next; refine wpList_next_raw _ rfl _ rfl W1.heap.size bm clk #[born] #[⟨.int .i64 c.num, .pointer (some ⟨q, 0, none⟩), born⟩] clk rfl hit7 hbm7 hne3 (by simpa using hbc) (Nat.le_refl _) (by simp) ?_ ?_)
    · intro _
      go_wp2_with fail
      refine HWa.out.mono ?_
      rintro en w8 ⟨hb8, hno, hyes⟩
      have HB8 := hid hb8
      have hK8 := HD7.out.bl hb8 (tag' := tagTo tag w.heap.size tc) (fun b _ e => by
        by_cases hlt : b < w.heap.size
        · rw [tagTo_old _ _ _ _ hlt]; exact e
        · rw [tagTo_new _ _ _ _ (by omega)])
      cases hw : c.wants
      · obtain rfl := hno hw
        have HPr := hid (cl_startProbe hK8 hf ha hb)
        clear hno hyes HWa hK8 hb8
        go_wp2_with fail
        refine HPr.out.mono ?_
        rintro en w9 ⟨rfl, hs9⟩
        have HS9 := hid hs9
        have HCh : Hid (Calls Tryz.prog 90 #[.pointer (some ⟨p, 0, none⟩)] w9 fun en w' => en = .returned (.bool false) ∧ Bl w9 w') := by
          obtain ⟨lv', rv', vv', nv', av', bm', born', clk', hk9⟩ := hs9.1
          exact cl_hasChanges hk9 (fun c' e => by
            simp only [CX.probe, Option.some.injEq] at e
            subst e
            exact ⟨hn, h5⟩)
        clear hs9 HPr
        go_wp2_with (go_at_call 90; refine HCh.out.mono ?_; rintro en w10 ⟨rfl, hb10⟩; have HB10 := hid hb10; clear hb10)
        go_end0
        have hE := HX'.out
        rw [hw] at hE
        rw [hE]
        exact ⟨rfl, ((HS2.out.post HB8.out).trans HS9.out).post HB10.out⟩
      · obtain ⟨gw, capw, rfl, _, _⟩ := hyes hw
        have HCh := hid (cl_hasChanges hK8 (fun c' e => by
          simp only [Option.some.injEq] at e
          subst e
          exact ⟨hn, h5⟩))
        clear hno hyes HWa hK8 hb8
        go_wp2_with (go_at_call 90; refine HCh.out.mono ?_; rintro en w10 ⟨rfl, hb10⟩; have HB10 := hid hb10; clear hb10)
        go_end0
        have hE := HX'.out
        rw [hw] at hE
        rw [hE]
        exact ⟨rfl, (HS2.out.post HB8.out).post HB10.out⟩
    · intro e W8 he8
      obtain ⟨h1, h2⟩ := mem_left he8
      simp at h1
      subst h1
      simp at h2
end
end Go.Proofs.YtnhjmiglegdamaaGreat
