-- A call is done from its beginning; it goes along the chain.
-- A call begins.
-- A cell that is taken, or trimmed; what comes behind a write.
import Derived.Test.YtnhjmiglegdamaaGreatSWnDMapSEndSShelfSLayQ
import Derived.Test.YtnhjmiglegdamaaGreatSProbeShelfSKeysSCallsQ
namespace Go.Proofs.YtnhjmiglegdamaaGreat
open Go.RowKit Go.Maps
attribute [local go_sem ↓] Go.wp_at_zero Go.wp_at_succ
section
variable {w w0 w' : World} {tag tag' : Nat → Nat} {tc p q n m : Nat} {vo ce id : Int} {X X' : CX} {lv rv vv nv av pv vv' nv' av' ov cv ev ov' cv' ev' : Value} {bm born clk k gm : Nat} {c c' : PC}
set_option maxHeartbeats 1000000 in
/-- What is written along the chain. -/
theorem ClK.setC (h : ClK w tag tc p q n m vo ce id X lv rv vv nv av bm born clk) (hc : X.pend = some c) (t : Ct) (tv : Value) (ht : Rd w tag tc 5 tv (t.val.map B8)) : ClK (puts w q 8 [.int .i64 t.kd, .int .i64 t.cl, .int .i64 t.ca, tv]) tag tc p q n m vo ce id { X with pend := some { c with cont := t } } lv rv vv nv av bm born clk := by
  obtain ⟨ov, cv, ev, v3, n3, a3, hk, hl, k2, k3⟩ := h.call c hc
  have ho : Only (fun b => b = q) w (puts w q 8 [.int .i64 t.kd, .int .i64 t.cl, .int .i64 t.ca, tv]) := puts_only (S := fun b => b = q) (.inl rfl) _ 8 w (Only.refl _ w)
  exact h.reQ hc hk ho (hk.re (c' := { c with cont := t }) ho (puts_heap _ 8 w _ hk.hq) hk.own ht hk.e hk.q) hl rfl k2 k3
set_option maxHeartbeats 1000000 in
/-- How many units of the chain have it. -/
theorem ClK.setP (h : ClK w tag tc p q n m vo ce id X lv rv vv nv av bm born clk) (hc : X.pend = some c) (k : Nat) : ClK (w.setCell ⟨q, 12, none⟩ (.int .i64 k)) tag tc p q n m vo ce id { X with pend := some { c with place := k } } lv rv vv nv av bm born clk := by
  obtain ⟨ov, cv, ev, v3, n3, a3, hk, hl, k2, k3⟩ := h.call c hc
  have ho : Only (fun b => b = q) w (w.setCell ⟨q, 12, none⟩ (.int .i64 k)) := (Only.refl (fun b => b = q) w).setCell ⟨q, 12, none⟩ (.inl rfl) _
  exact h.reQ hc hk ho (hk.re (c' := { c with place := k }) ho (set_heap 12 _ w _ hk.hq) hk.own hk.cont hk.e hk.q) hl rfl k2 k3
set_option maxHeartbeats 1000000 in
/-- The call asks nothing. -/
theorem ClK.setZ (h : ClK w tag tc p q n m vo ce id X lv rv vv nv av bm born clk) (hc : X.pend = some c) : ClK (puts w q 16 [.int .i64 0, .int .i64 0, .int .i64 0, .int .i64 0, .int .i64 0, .int .i64 0, .int .i64 0, .slice none 0 0, .slice none 0 0, .bool false, .map none]) tag tc p q n m vo ce id { X with pend := some { c with q := PQ.zero } } lv rv vv nv av bm born clk := by
  obtain ⟨ov, cv, ev, v3, n3, a3, hk, hl, k2, k3⟩ := h.call c hc
  have ho : Only (fun b => b = q) w (puts w q 16 [.int .i64 0, .int .i64 0, .int .i64 0, .int .i64 0, .int .i64 0, .int .i64 0, .int .i64 0, .slice none 0 0, .slice none 0 0, .bool false, .map none]) := puts_only (S := fun b => b = q) (.inl rfl) _ 16 w (Only.refl _ w)
  exact h.reQ hc hk ho (hk.re (c' := { c with q := PQ.zero }) ho (puts_heap _ 16 w _ hk.hq) hk.own hk.cont hk.e ⟨Rd.nil, Rd.nil, .inl ⟨rfl, rfl⟩, fun _ => rfl⟩) hl rfl (fun b hb => by simp at hb) (fun b hb => by simp at hb)
theorem q_only (h : ClK w tag tc p q n m vo ce id X lv rv vv nv av bm born clk) (hc : X.pend = some c) (k : Cl w' tag tc p q n m vo ce id X') (ho : Only (fun b => b = q) w w') : CStep w tag tc p q n m vo ce id X' w' := by
  obtain ⟨ov, cv, ev, v3, n3, a3, hk, _⟩ := h.call c hc
  exact ⟨k.retag fun b _ e => by
    by_cases hlt : b < w.heap.size
    · rw [tagTo_old _ _ _ _ hlt]; exact e
    · rw [tagTo_new _ _ _ _ (by omega)], pq_tc h hk (ho.mono fun _ _ e => .inr e)⟩
set_option maxRecDepth 100000 in
set_option maxHeartbeats 4000000 in
theorem cl_doW (h : ClK w tag tc p q n m vo ce id X lv rv vv nv av bm born clk) (hc : X.pend = some c) (hA : AdOk n m vo ce c.addr) (hk1 : c.kind = 1 ∨ c.kind = 3) (ha : 0 ≤ X.asked) (hb : X.asked ≤ 1000000) :
    Calls Tryz.prog 88 #[.pointer (some ⟨p, 0, none⟩), .pointer (some ⟨q, 0, none⟩)] w fun en w' => en = .returned (.tuple #[]) ∧ CStep w tag tc p q n m vo ce id (X.writeNext n m { c with cont := c.own, place := 0 }) w' := by
  obtain ⟨ov, cv, ev, v3, n3, a3, hk, hl, k2, k3⟩ := h.call c hc
  obtain ⟨oa, oc, rfl⟩ := hk.own.shape
  rw [List.length_map] at hk
  have H1 := (h.setC hc c.own _ hk.own).setP (c := { c with cont := c.own }) rfl 0
  obtain ⟨W1, hW1⟩ : ∃ W1, (puts w q 8 [.int .i64 c.own.kd, .int .i64 c.own.cl, .int .i64 c.own.ca, .slice oa c.own.val.length oc]).setCell ⟨q, 12, none⟩ (.int .i64 (0 : Nat)) = W1 := ⟨_, rfl⟩
  have O1 : Only (fun b => b = q) w ((puts w q 8 [.int .i64 c.own.kd, .int .i64 c.own.cl, .int .i64 c.own.ca, .slice oa c.own.val.length oc]).setCell ⟨q, 12, none⟩ (.int .i64 (0 : Nat))) := (puts_only (S := fun b => b = q) (.inl rfl) _ 8 w (Only.refl _ w)).setCell ⟨q, 12, none⟩ (.inl rfl) _
  rw [hW1] at H1 O1
  have S1 := hid (q_only h hc (Cl.of H1) O1)
  have HN : Hid (Calls Tryz.prog 147 #[.pointer (some ⟨p, 0, none⟩), .pointer (some ⟨q, 0, none⟩)] W1 fun en w' => en = .returned (.tuple #[]) ∧ CStep w tag tc p q n m vo ce id (X.writeNext n m { c with cont := c.own, place := 0 }) w') :=
    (cl_writeNext (H1.bl (Bl.refl _) (tag' := tagTo tag w.heap.size tc) (fun b _ e => by
      by_cases hlt : b < w.heap.size
      · rw [tagTo_old _ _ _ _ hlt]; exact e
      · rw [tagTo_new _ _ _ _ (by omega)])) (c := { c with cont := c.own, place := 0 }) rfl hA hA.bd.2.2.1 ha hb).mono fun en w' ⟨e1, e2⟩ => ⟨e1, S1.out.trans e2⟩
  have e0 := hk.cellAt 0 rfl
  have e4 := hk.cellAt 4 rfl
  have e5 := hk.cellAt 5 rfl
  have e6 := hk.cellAt 6 rfl
  have e7 := hk.cellAt 7 rfl
  have e8 := hk.cellAt 8 rfl
  have e9 := hk.cellAt 9 rfl
  have e10 := hk.cellAt 10 rfl
  have e11 := hk.cellAt 11 rfl
  have e12 := hk.cellAt 12 rfl
  have g8 := hk.frz 8
  have g9 := hk.frz 9
  have g10 := hk.frz 10
  have g11 := hk.frz 11
  have g12 := hk.frz 12
  have lq := hk.lt
  have HE : Hid (((((w.setCell ⟨q, 8, none⟩ (.int .i64 c.own.kd)).setCell ⟨q, 9, none⟩ (.int .i64 c.own.cl)).setCell ⟨q, 10, none⟩ (.int .i64 c.own.ca)).setCell ⟨q, 11, none⟩ (.slice oa c.own.val.length oc)).setCell ⟨q, 12, none⟩ (.int .i64 0) = W1) := hW1
  clear h hk H1 O1 hW1
  rcases hk1 with hk1 | hk1
  all_goals
    rw [hk1] at e0
    go_enter Tryz.func88, Tryz.ntmps88
    go_upto_region 4 with fail
    rw [HE.out]
    go_wp2_with (go_at_call 147; refine HN.out.mono ?_; rintro en w3 ⟨rfl, hs⟩; have HS := hid hs; clear hs)
    go_end0
    exact ⟨rfl, HS.out⟩
set_option maxRecDepth 100000 in
set_option maxHeartbeats 4000000 in
theorem cl_doR (h : ClK w tag tc p q n m vo ce id X lv rv vv nv av bm born clk) (hc : X.pend = some c) (hA : AdOk n m vo ce c.addr) (hk1 : c.kind = 2) (ha : 0 ≤ X.asked) (hb : X.asked ≤ 1000000) :
    Calls Tryz.prog 88 #[.pointer (some ⟨p, 0, none⟩), .pointer (some ⟨q, 0, none⟩)] w fun en w' => en = .returned (.tuple #[]) ∧ CStep w tag tc p q n m vo ce id (X.look n m c) w' := by
  obtain ⟨ov, cv, ev, v3, n3, a3, hk, hl, k2, k3⟩ := h.call c hc
  have HN := hid (cl_look h hc hA ha hb)
  have e0 := hk.cellAt 0 rfl
  have lq := hk.lt
  rw [hk1] at e0
  clear h hk
  go_enter Tryz.func88, Tryz.ntmps88
  go_wp2_with (go_at_call 148; refine HN.out.mono ?_; rintro en w3 ⟨rfl, hs⟩; have HS := hid hs; clear hs)
  go_end0
  exact ⟨rfl, HS.out⟩
set_option maxRecDepth 100000 in
set_option maxHeartbeats 4000000 in
theorem cl_doT (h : ClK w tag tc p q n m vo ce id X lv rv vv nv av bm born clk) (hc : X.pend = some c) (hf : fit n m vo ce = true) (hk1 : c.kind = 4) (ha : 0 ≤ X.asked) (hb : X.asked ≤ 1000000) :
    Calls Tryz.prog 88 #[.pointer (some ⟨p, 0, none⟩), .pointer (some ⟨q, 0, none⟩)] w fun en w' => en = .returned (.tuple #[]) ∧ CStep w tag tc p q n m vo ce id (X.lay n m c c.addr ⟨1, 0, []⟩) w' := by
  obtain ⟨ov, cv, ev, v3, n3, a3, hk, hl, k2, k3⟩ := h.call c hc
  have HN := hid (cl_lay h hc hf ha hb c.addr 1 0)
  have e0 := hk.cellAt 0 rfl
  have e2 := hk.cellAt 2 rfl
  have lq := hk.lt
  rw [hk1] at e0
  clear h hk
  go_enter Tryz.func88, Tryz.ntmps88
  go_wp2_with (go_at_call 149; refine HN.out.mono ?_; rintro en w3 ⟨rfl, hs⟩; have HS := hid hs; clear hs)
  go_end0
  exact ⟨rfl, HS.out⟩
set_option maxRecDepth 100000 in
set_option maxHeartbeats 2000000 in
theorem told_any (kd cl ca : Int) (va : Option Addr) (vn vc : Nat) (w : World) :
    Calls Tryz.prog 303 #[.agg #[.int .i64 kd, .int .i64 cl, .int .i64 ca, .slice va vn vc]] w fun en w' => en = .returned (.agg #[.int .i64 kd, .int .i64 0, .slice va vn vc]) ∧ Bl w w' := by
  go_enter Tryz.func303, Tryz.ntmps303
  go_wp2
  refine bodyPost_ret (v := .agg #[.int .i64 kd, .int .i64 0, .slice va vn vc]) (by simp [results, Tryz.results303, go_sem]) rfl ⟨rfl, ?_⟩
  exact ((Bl.refl w).alloc _).alloc _
set_option maxRecDepth 100000 in
set_option maxHeartbeats 4000000 in
theorem cl_goAlong (h : ClK w tag tc p q n m vo ce id X lv rv vv nv av bm born clk) (hc : X.pend = some c) (hA : AdOk n m vo ce c.addr) (hpl : c.place < m) (ha : 0 ≤ X.asked) (hb : X.asked ≤ 1000000) :
    Calls Tryz.prog 304 #[.pointer (some ⟨p, 0, none⟩), .pointer (some ⟨q, 0, none⟩)] w fun en w' => en = .returned (.tuple #[]) ∧ CStep w tag tc p q n m vo ce id (X.goAlong n m c) w' := by
  obtain ⟨ov, cv, ev, v3, n3, a3, hk, hl, k2, k3⟩ := h.call c hc
  have H1 := h.setP hc (c.place + 1)
  have O1 : Only (fun b => b = q) w (w.setCell ⟨q, 12, none⟩ (.int .i64 (c.place + 1 : Nat))) := (Only.refl (fun b => b = q) w).setCell ⟨q, 12, none⟩ (.inl rfl) _
  obtain ⟨W1, hW1⟩ : ∃ W1, w.setCell ⟨q, 12, none⟩ (.int .i64 (c.place + 1 : Nat)) = W1 := ⟨_, rfl⟩
  rw [hW1] at H1 O1
  have S1 := hid (q_only h hc (Cl.of H1) O1)
  have T1 : Hid (∀ W, Bl W1 W → ClK W (tagTo tag w.heap.size tc) tc p q n m vo ce id { X with pend := some { c with place := c.place + 1 } } lv rv vv nv av bm born clk) := fun W hW => H1.bl hW fun b _ e => by
    by_cases hlt : b < w.heap.size
    · rw [tagTo_old _ _ _ _ hlt]; exact e
    · rw [tagTo_new _ _ _ _ (by omega)]
  have HC : Hid (∀ W, Bl W1 W → _) := fun W hW => cl_chain2 (T1.out W hW) (c := { c with place := c.place + 1 }) rfl hA
  have e12 := hk.cellAt 12 rfl
  have g12 := hk.frz 12
  have lq := hk.lt
  obtain ⟨ov2, cv2, ev2, v32, n32, a32, hk2, _⟩ := H1.call _ rfl
  obtain ⟨va2, vc2, rfl⟩ := hk2.cont.shape
  rw [List.length_map] at hk2
  have d12 : W1.cell? ⟨q, 12, none⟩ = some (.int .i64 ((c.place : Int) + 1)) := hk2.cellAt 12 rfl
  have d0 := hk2.cellAt 0 rfl
  have d2 := hk2.cellAt 2 rfl
  have d8 := hk2.cellAt 8 rfl
  have d9 := hk2.cellAt 9 rfl
  have d10 := hk2.cellAt 10 rfl
  have d11 := hk2.cellAt 11 rfl
  have lq1 := hk2.lt
  have HE : Hid (w.setCell ⟨q, 12, none⟩ (.int .i64 (c.place + 1)) = W1) := hW1
  have hp2 : (c.place : Int) < 3 := by have := hA.bd; omega
  have HR2 := hid (hk2.cont.bl (Bl.refl _) (tag' := tagTo tag w.heap.size tc) fun b _ e => by
    by_cases hlt : b < w.heap.size
    · rw [tagTo_old _ _ _ _ hlt]; exact e
    · rw [tagTo_new _ _ _ _ (by omega)])
  clear h hk H1 O1 hW1 hk2
  go_enter Tryz.func304, Tryz.ntmps304
  go_upto_region 2 with fail
  rw [HE.out]
  clear HE
  go_cut [19] (fun y wx => y = .bool (decide ((c.place : Int) + 1 < (m : Int))) ∧ Hid (Bl W1 wx))
  case first =>
    go_region_held3 (fun W => W.cell? ⟨q, 12, none⟩ = some (.int .i64 (c.place + 1))) (go_keep) (first | (go_at_call 186; refine (HC.out _ ?hb).mono ?_; (case hb => first | exact Bl.refl _ | exact (Bl.refl _).drew | exact (Bl.refl _).drewN _); rintro en w2 ⟨b2, o2, nc2, rfl, hb2, lb2, hr2⟩; have hB : Bl W1 w2 := Bl.trans (by first | exact Bl.refl _ | exact (Bl.refl _).drew | exact (Bl.refl _).drewN _) hb2; have z4 := (hB.cell lq1).trans d12; have HB2 := hid hB; clear hb2 hB hr2))
    all_goals (go_wp2_with fail; go_meet)
    all_goals exact ⟨rfl, HB2.out⟩
  case rest =>
    obtain ⟨rfl, HB⟩ := hcut
    have bd0 := (HB.out.cell lq1).trans d0
    have bd2 := (HB.out.cell lq1).trans d2
    have bd8 := (HB.out.cell lq1).trans d8
    have bd9 := (HB.out.cell lq1).trans d9
    have bd10 := (HB.out.cell lq1).trans d10
    have bd11 := (HB.out.cell lq1).trans d11
    have lqc := Nat.lt_of_lt_of_le lq1 HB.out.lt
    clear d0 d2 d8 d9 d10 d11 d12 e12 g12 HC
    by_cases hlt : c.place + 1 < m
    · have hd : decide ((c.place : Int) + 1 < (m : Int)) = true := by simp; omega
      rw [hd]
      have HN := hid (cl_writeNext (T1.out wc HB.out) (c := { c with place := c.place + 1 }) rfl hA hlt ha hb)
      have hX : Hid (X.goAlong n m c = ({ X with pend := some { c with place := c.place + 1 } } : CX).writeNext n m { c with place := c.place + 1 }) := by unfold Hid CX.goAlong; rw [if_pos hlt]; rfl
      go_wp2_with (go_at_call 147; refine HN.out.mono ?_; rintro en w3 ⟨rfl, hs⟩; have HS := hid hs; clear hs)
      go_end0
      exact ⟨rfl, by rw [hX.out]; exact (S1.out.post HB.out).trans HS.out⟩
    · have hd : decide ((c.place : Int) + 1 < (m : Int)) = false := by simp; omega
      rw [hd]
      by_cases hk1 : c.kind = 1
      · have HN := hid (cl_end (T1.out wc HB.out) (c := { c with place := c.place + 1 }) rfl ⟨1, c.addr, []⟩ none 0 Rd.nil)
        have hX : Hid (X.goAlong n m c = ({ X with pend := some { c with place := c.place + 1 } } : CX).end' { c with place := c.place + 1 } ⟨1, c.addr, []⟩) := by unfold Hid CX.goAlong; rw [if_neg hlt, if_pos hk1]; rfl
        simp only [List.length_nil] at HN
        rw [hk1] at bd0
        go_wp2_with (go_at_call 95; refine HN.out.mono ?_; rintro en w3 ⟨rfl, hs⟩; have HS := hid hs; clear hs)
        go_end0
        exact ⟨rfl, by rw [hX.out]; exact (S1.out.post HB.out).trans HS.out⟩
      · have hkd : (c.kind == 1) = false := by simpa using hk1
        have HN : Hid (∀ W, Bl wc W → _) := fun W hW => cl_end (T1.out W (HB.out.trans hW)) (c := { c with place := c.place + 1 }) rfl (told c.cont) va2 vc2 (HR2.out.bl (HB.out.trans hW) (fun _ _ e => e))
        have hX : Hid (X.goAlong n m c = ({ X with pend := some { c with place := c.place + 1 } } : CX).end' { c with place := c.place + 1 } (told c.cont)) := by unfold Hid CX.goAlong; rw [if_neg hlt, if_neg hk1]; rfl
        have HT := hid (told_any c.cont.kd c.cont.cl c.cont.ca va2 c.cont.val.length vc2)
        unfold told at HN
        dsimp only at HN
        go_wp2_with (first | (go_at_call 303; refine (HT.out _).mono ?_; rintro en w2 ⟨rfl, hb2⟩; have HB2 := hid hb2; clear hb2) | (go_at_call 95; refine (HN.out _ HB2.out).mono ?_; rintro en w3 ⟨rfl, hs⟩; have HS := hid hs; clear hs))
        go_end0
        exact ⟨rfl, by rw [hX.out]; exact (S1.out.post (HB.out.trans HB2.out)).trans HS.out⟩
end
end Go.Proofs.YtnhjmiglegdamaaGreat

namespace Go.Proofs.YtnhjmiglegdamaaGreat
open Go.RowKit Go.Maps
attribute [local go_sem ↓] Go.wp_at_zero Go.wp_at_succ
theorem Tryz.info43 : (Tryz.prog.info? 43).map (fun i => (i.zero, i.size, i.bytes)) = some (some (.agg #[.int .i64 0, .int .i64 0, .slice none 0 0]), 3, 40) := by kernel_rfl
theorem len98e (w : World) (bm clk : Nat) (hb : w.heap[bm]? = some (.map #[] clk)) : (Builtin.len_ #[98] 3 #[.map (some bm)]).run Tryz.prog w = .ok (.int .i64 0) w := by
  simp [Builtin.len_, Sem.run_bind, run_underlying Tryz.underlying98, Result.andThen, MapKept.run_getObj_map hb]
  rfl
theorem put98 (w : World) (bm clk : Nat) (hb : w.heap[bm]? = some (.map #[] clk)) (k : Int) (v : Value) :
    (Instr.mapUpdate 98 (.map (some bm)) (.int .i64 k) v).run Tryz.prog w = .ok () (setMap w bm (.map #[⟨.int .i64 k, v, clk⟩] (clk + 1))) := by
  have h0 : Instr.findNow (.int .i64) (.int .i64 k) (#[] : Array MapEntry).toList 0 = some none := rfl
  have h1 := MapKept.run_findKey (P := Tryz.prog) (w := w) Tryz.underlying3 h0
  have h2 := MapKept.run_checkKey (P := Tryz.prog) (w := w) (k := .int .i64 k) Tryz.underlying3 (by simp [MapKept.IsKey]) false 9999
  simp only [Instr.mapUpdate, Sem.run_bind, run_underlying Tryz.underlying98, Result.andThen, MapKept.run_getObj_map hb, h2, h1]
  rw [MapKept.run_setObj_map _ hb]
  rfl
/-- A call that has just begun. -/
def PC.new (kind : Int) (k : Nat) (id : Int) : PC := ⟨kind, k, 0, ⟨0, id, k, []⟩, no, 0, ⟨0, 0, []⟩, PQ.zero⟩
def CX.begin (X : CX) (kind id : Int) : CX := { X with res := X.res ++ [⟨0, 0, []⟩], pend := some (PC.new kind X.res.length id) }
section
variable {w w0 w' : World} {tag tag' : Nat → Nat} {tc p q n m : Nat} {vo ce id : Int} {X X' : CX} {lv rv vv nv av pv vv' nv' av' ov cv ev ov' cv' ev' : Value} {bm born clk k gm : Nat} {c c' : PC}
theorem ResOk.push {w2 : World} {rs : List Rz} {xs : List Value} {v v' : Value} (h1 : w.ownsRow 0 43 3 v rs.length xs) (h3 : ∀ i r, rs[i]? = some r → xs[3 * i]? = some (.int .i64 r.wh) ∧ xs[3 * i + 1]? = some (.int .i64 r.ad) ∧ ∃ s, xs[3 * i + 2]? = some s ∧ Rd w tag tc 5 s (r.val.map B8)) (hown : w2.ownsRow 0 43 3 v' (rs.length + 1) (xs ++ [.int .i64 0, .int .i64 0, .slice none 0 0])) (ho : Only (fun b => v.ownBlock = some b) w w2) (ht : ∀ b, v'.ownBlock = some b → tag' b = tc) (hto : ∀ b, b < w.heap.size → tag b = tc → tag' b = tc) : ResOk w2 tag' tc v' (rs ++ [⟨0, 0, []⟩]) := by
  have hxl : xs.length = 3 * rs.length := by have := h1.1; omega
  have hT : ∀ b, b < w.heap.size → tag b = tc → v.ownBlock = some b → Mu w b := fun b _ _ e => by
    obtain ⟨ca, hca⟩ := own_type h1 b e
    exact Mu.of_ne hca (by decide)
  refine ⟨_, by rw [List.length_append]; exact hown, ht, fun i r hr => ?_⟩
  by_cases hlt : i < rs.length
  · rw [List.getElem?_append_left hlt] at hr
    obtain ⟨k1, k2, s, k3, k4⟩ := h3 i r hr
    exact ⟨by rw [List.getElem?_append_left (by omega)]; exact k1, by rw [List.getElem?_append_left (by omega)]; exact k2, s, by rw [List.getElem?_append_left (by omega)]; exact k3, k4.only ho hT (.inr (.inl rfl)) hto⟩
  · have hi : i = rs.length := by
      have := (List.getElem?_eq_some_iff.1 hr).1
      simp at this
      omega
    subst hi
    rw [List.getElem?_append_right (Nat.le_refl _)] at hr
    simp at hr
    subst hr
    refine ⟨?_, ?_, .slice none 0 0, ?_, Rd.nil⟩
    · rw [List.getElem?_append_right (by omega), show 3 * rs.length - xs.length = 0 by omega]; rfl
    · rw [List.getElem?_append_right (by omega), show 3 * rs.length + 1 - xs.length = 1 by omega]; rfl
    · rw [List.getElem?_append_right (by omega), show 3 * rs.length + 2 - xs.length = 2 by omega]; rfl
theorem ClK.begun (h : ClK w tag tc p q n m vo ce id X lv rv vv nv av bm born clk) (kind : Int) {W w1 : World} {v' : Value} {g cap : Nat} (hv' : v' = .slice (some ⟨g, 0, none⟩) (X.res.length + 1) cap) {xs : List Value} (hB : Bl w W) (hq : W.heap[w.heap.size]? = some (.cells (callL (PC.new kind X.res.length id) (.slice none 0 0) (.slice none 0 0) (.slice none 0 0) (.slice none 0 0) (.slice none 0 0) (.map none)).toArray 164 (0, 0))) (h1 : w.ownsRow 0 43 3 rv X.res.length xs) (h2 : ∀ b, rv.ownBlock = some b → tag b = tc) (h3 : ∀ i r, X.res[i]? = some r → xs[3 * i]? = some (.int .i64 r.wh) ∧ xs[3 * i + 1]? = some (.int .i64 r.ad) ∧ ∃ s, xs[3 * i + 2]? = some s ∧ Rd w tag tc 5 s (r.val.map B8)) (hown : w1.ownsRow 0 43 3 v' (X.res.length + 1) (xs ++ [.int .i64 0, .int .i64 0, .slice none 0 0])) (hgrow : W.grownBy w1 rv.ownBlock) (hat : rv.ownBlock = some g ∨ w.heap.size ≤ g) :
    ClK (setMap (w1.setCell ⟨p, 7, none⟩ v') bm (.map #[⟨.int .i64 X.res.length, .pointer (some ⟨w.heap.size, 0, none⟩), clk⟩] (clk + 1))) (tagTo tag w.heap.size tc) tc p w.heap.size n m vo ce id (X.begin kind id) lv v' vv nv av bm clk (clk + 1) ∧ Only (Tc tag tc w) w (setMap (w1.setCell ⟨p, 7, none⟩ v') bm (.map #[⟨.int .i64 X.res.length, .pointer (some ⟨w.heap.size, 0, none⟩), clk⟩] (clk + 1))) := by
  have O1 : Only (fun b => rv.ownBlock = some b) w w1 := (Only.of_bl hB).trans ((Only.of_grown hgrow).mono fun b _ e => e.symm)
  have np : rv.ownBlock ≠ some p := own_ne_block h1 h.hp (by decide)
  have nb : rv.ownBlock ≠ some bm := own_not_map ⟨_, _, h.mp⟩ h1
  have hpb : bm ≠ p := map_ne ⟨_, _, h.mp⟩ h.hp
  have hp1 : w1.heap[p]? = some (.cells (cliL n m vo ce id lv rv bm X.asked X.pr vv nv av).toArray 114 (0, 0)) := (O1.block p h.lp np).trans h.hp
  have O2 : Only (fun b => rv.ownBlock = some b ∨ b = p) w (w1.setCell ⟨p, 7, none⟩ v') := (O1.mono fun _ _ e => .inl e).setCell ⟨p, 7, none⟩ (.inl (.inr rfl)) _
  have hs1 := O2.size
  have lb2 : bm < (w1.setCell ⟨p, 7, none⟩ v').heap.size := Nat.lt_of_lt_of_le h.lb hs1
  have O3 : Only (fun b => rv.ownBlock = some b ∨ b = p ∨ b = bm) w (setMap (w1.setCell ⟨p, 7, none⟩ v') bm (.map #[⟨.int .i64 X.res.length, .pointer (some ⟨w.heap.size, 0, none⟩), clk⟩] (clk + 1))) := (O2.mono fun _ _ e => e.elim .inl fun e => .inr (.inl e)).trans ((setMap_only _ bm _).mono fun _ _ e => .inr (.inr e))
  have hT : ∀ b, b < w.heap.size → tag b = tc → (rv.ownBlock = some b ∨ b = p ∨ b = bm) → Mu w b := fun b _ _ e => by
    rcases e with e | e | e
    · obtain ⟨ca, hca⟩ := own_type h1 b e
      exact Mu.of_ne hca (by decide)
    · rw [e]; exact Mu.of_ne h.hp (by decide)
    · rw [e]; exact Mu.of_map h.mp
  have ht : ∀ b, b < w.heap.size → tag b = tc → tagTo tag w.heap.size tc b = tc := fun b hb e => by rw [tagTo_old _ _ _ _ hb]; exact e
  have lqW := (Array.getElem?_eq_some_iff.1 hq).1
  have nqr : rv.ownBlock ≠ some w.heap.size := fun e => by have := (h1.lt _ e).2; omega
  have hq1 : w1.heap[w.heap.size]? = _ := (hgrow.block w.heap.size lqW (fun e => nqr e.symm)).trans hq
  have lq1 := (Array.getElem?_eq_some_iff.1 hq1).1
  have hlp := h.lp
  have hlb := h.lb
  have hgp : g ≠ p := fun e => by
    rcases hat with e' | e'
    · exact np (by rw [e', e])
    · omega
  have hgb : g ≠ bm := fun e => by
    rcases hat with e' | e'
    · exact nb (by rw [e', e])
    · omega
  refine ⟨⟨?_, by rw [tagTo_old _ _ _ _ hlp]; exact h.tp, h.lay.only O3 hT ht, ?_, by rw [tagTo_old _ _ _ _ hlb]; exact h.tb, setMap_at lb2 _, .inl (Nat.lt_succ_self _), h.pr.only O3 hT (fun b hb _ _ e => ?_) ht, h.nb, fun c hc' => ?_⟩, O3.mono fun b lb e => ?_⟩
  · rw [(setMap_only _ bm _).block p (Nat.lt_of_lt_of_le hlp hs1) (fun e => hpb e.symm)]
    exact set_heap 7 v' w1 _ hp1
  · have hR : ResOk w1 (tagTo tag w.heap.size tc) tc v' (X.res ++ [⟨0, 0, []⟩]) := ResOk.push h1 h3 hown O1 (fun b hb => by
      have hbg : b = g := by
        rw [hv'] at hb
        simpa [Value.ownBlock] using hb.symm
      rw [hbg]
      rcases hat with e' | e'
      · rw [tagTo_old _ _ _ _ (h1.lt g e').2]; exact h2 g e'
      · exact tagTo_new _ _ _ _ e') ht
    have O4 : Only (fun b => b = p ∨ b = bm) w1 (setMap (w1.setCell ⟨p, 7, none⟩ v') bm (.map #[⟨.int .i64 X.res.length, .pointer (some ⟨w.heap.size, 0, none⟩), clk⟩] (clk + 1))) := ((Only.refl _ w1).setCell ⟨p, 7, none⟩ (.inl (.inl rfl)) _).trans ((setMap_only _ bm _).mono fun _ _ e => .inr e)
    refine hR.only O4 (fun b _ _ e => ?_) (fun b hb _ _ e => ?_) (fun _ _ e => e)
    · rcases e with e | e
      · rw [e]; exact Mu.of_ne hp1 (by decide)
      · rw [e]; exact Mu.of_map ((O1.block bm hlb nb).trans h.mp)
    · have hbg : b = g := by
        rw [hv'] at hb
        simpa [Value.ownBlock] using hb.symm
      rcases e with e | e
      · exact hgp (hbg.symm.trans e)
      · exact hgb (hbg.symm.trans e)
  · rcases e with e | e | e
    · exact own_not_map (h.pr.ans.map hb).2.2 h1 e
    · exact map_ne (h.pr.ans.map hb).2.2 h.hp e
    · exact h.nb b hb (by rw [e])
  · simp only [CX.begin, Option.some.injEq] at hc'
    subst hc'
    refine ⟨.slice none 0 0, .slice none 0 0, .slice none 0 0, .slice none 0 0, .slice none 0 0, .map none, ⟨?_, tagTo_new _ _ _ _ (Nat.le_refl _), Rd.nil, Rd.nil, Rd.nil, ⟨Rd.nil, Rd.nil, .inl ⟨rfl, rfl⟩, fun _ => rfl⟩⟩, by simp [CX.begin, PC.new], fun b hb => by simp at hb, fun b hb => by simp at hb⟩
    rw [(setMap_only _ bm _).block w.heap.size (by simpa [World.setCell] using lq1) (by omega), Below.heap_setCell _ _ _ _ (by show w.heap.size ≠ p; omega)]
    exact hq1
  · rcases e with e | e | e
    · exact ⟨h2 b e, hT b lb (h2 b e) (.inl e)⟩
    · exact ⟨by rw [e]; exact h.tp, hT b lb (by rw [e]; exact h.tp) (.inr (.inl e))⟩
    · exact ⟨by rw [e]; exact h.tb, hT b lb (by rw [e]; exact h.tb) (.inr (.inr e))⟩
set_option maxRecDepth 100000 in
set_option maxHeartbeats 4000000 in
theorem cl_begin (h : ClK w tag tc p q n m vo ce id X lv rv vv nv av bm born clk) (hc : X.pend = none) (hl : X.res.length ≤ 1000) (kind : Int) :
    Calls Tryz.prog 85 #[.pointer (some ⟨p, 0, none⟩), .int .i64 kind] w fun en w' => en = .returned (.tuple #[.pointer (some ⟨w.heap.size, 0, none⟩), .int .i64 0]) ∧ (∃ v', ClK w' (tagTo tag w.heap.size tc) tc p w.heap.size n m vo ce id (X.begin kind id) lv v' vv nv av bm clk (clk + 1)) ∧ Only (Tc tag tc w) w w' := by
  obtain ⟨i43, hi, hz0, hz1, hz2⟩ := info_parts Tryz.info43
  have hm := h.mp
  rw [hc] at hm
  have hm' : w.heap[bm]? = some (.map #[] clk) := hm
  have c4 := h.cellAt 4 rfl
  have c7 := h.cellAt 7 rfl
  have c8 := h.cellAt 8 rfl
  have f7 := h.frz 7
  have lp := h.lp
  have lb := h.lb
  have hlen := len98e w bm clk hm'
  obtain ⟨xs, h1, h2, h3⟩ := h.res
  obtain ⟨ra, rc, hrv⟩ : ∃ a c', rv = .slice a X.res.length c' := by
    rcases h1.2 with ⟨e, e'⟩ | ⟨g, cap, cur, e, _⟩
    · exact ⟨none, 0, by rw [e, e']⟩
    · exact ⟨_, _, e⟩
  subst hrv
  have hml : Hid (X.res.length + 1 ≤ maxLen) := by unfold Hid maxLen; omega
  have hby : Hid ((X.res.length + 1) * 40 ≤ 140737488355328) := by unfold Hid; omega
  have H := hid h
  have H1 := hid h1
  have H2 := hid h2
  have H3 := hid h3
  have np : (Value.slice ra X.res.length rc).ownBlock ≠ some p := own_ne_block h1 h.hp (by decide)
  have nbm : (Value.slice ra X.res.length rc).ownBlock ≠ some bm := own_not_map ⟨_, _, h.mp⟩ h1
  have hpb : bm ≠ p := map_ne ⟨_, _, h.mp⟩ h.hp
  have Hm := hid hm'
  clear h h1 h2 h3 hm hm'
  go_enter Tryz.func85, Tryz.ntmps85
  go_wp2_with (at_builtin; refine wpList_append_lies _ rfl _ _ 97 rfl 0 43 i43 _ 3 40 Tryz.underlying97 hi hz0 hz1 hz2 rfl (by decide) _ X.res.length _ rfl ((H1.out.alloc _).alloc _) ⟨w.heap.size + 1, 0, none⟩ 1 1 [.int .i64 0, .int .i64 0, .slice none 0 0] rfl rfl (World.news_of_block (cs := #[.int .i64 0, .int .i64 0, .slice none 0 0]) (t := 43) (fr := (0, 0)) (by have := heap_alloc_new (w.alloc (.cells #[.int .i64 kind, .int .i64 X.res.length, .int .i64 0, .int .i64 0, .int .i64 0, .int .i64 id, .int .i64 X.res.length, .slice none 0 0, .int .i64 0, .int .i64 0, .int .i64 0, .slice none 0 0, .int .i64 0, .int .i64 0, .int .i64 0, .slice none 0 0, .int .i64 0, .int .i64 0, .int .i64 0, .int .i64 0, .int .i64 0, .int .i64 0, .int .i64 0, .slice none 0 0, .slice none 0 0, .bool false, .map none] 164)) (.cells #[.int .i64 0, .int .i64 0, .slice none 0 0] 43); simpa using this)) (by simp [Value.oneCell']) (by decide) hml.out hby.out (by simp) (w.heap.size + 2) (by simp) ?_)
  intro g cap w1 hown hgrow hat hlt
  have hB2 := ((Bl.refl w).alloc (.cells #[.int .i64 kind, .int .i64 X.res.length, .int .i64 0, .int .i64 0, .int .i64 0, .int .i64 id, .int .i64 X.res.length, .slice none 0 0, .int .i64 0, .int .i64 0, .int .i64 0, .slice none 0 0, .int .i64 0, .int .i64 0, .int .i64 0, .slice none 0 0, .int .i64 0, .int .i64 0, .int .i64 0, .int .i64 0, .int .i64 0, .int .i64 0, .int .i64 0, .slice none 0 0, .slice none 0 0, .bool false, .map none] 164)).alloc (.cells #[.int .i64 0, .int .i64 0, .slice none 0 0] 43)
  have hqq := (heap_alloc_old (w.alloc (.cells #[.int .i64 kind, .int .i64 X.res.length, .int .i64 0, .int .i64 0, .int .i64 0, .int .i64 id, .int .i64 X.res.length, .slice none 0 0, .int .i64 0, .int .i64 0, .int .i64 0, .slice none 0 0, .int .i64 0, .int .i64 0, .int .i64 0, .slice none 0 0, .int .i64 0, .int .i64 0, .int .i64 0, .int .i64 0, .int .i64 0, .int .i64 0, .int .i64 0, .slice none 0 0, .slice none 0 0, .bool false, .map none] 164)) (.cells #[.int .i64 0, .int .i64 0, .slice none 0 0] 43) (r := w.heap.size) (by simp)).trans (heap_alloc_new w _)
  have HF := hid (H.out.begun kind (v' := .slice (some ⟨g, 0, none⟩) (X.res.length + 1) cap) rfl hB2 hqq H1.out H2.out H3.out hown hgrow (hat.imp (fun e => e) (fun e => by omega)))
  have k7 := (far hB2 hgrow (o := 7) lp np).1.trans c7
  have k7f := (far hB2 hgrow (o := 7) lp np).2.trans f7
  have k8 := (far hB2 hgrow (o := 8) lp np).1.trans c8
  have lp1 : p < w1.heap.size := by have := hgrow.size; simp at this; omega
  have hbm1 : w1.heap[bm]? = some (.map #[] clk) := by
    rw [hgrow.block bm (Nat.lt_of_lt_of_le lb hB2.lt) (fun e => nbm e.symm), hB2.heap lb]
    exact Hm.out
  have hput := put98 (w1.setCell ⟨p, 7, none⟩ (.slice (some ⟨g, 0, none⟩) (X.res.length + 1) cap)) bm clk (by rw [Below.heap_setCell _ _ _ _ (by exact hpb)]; exact hbm1) X.res.length (.pointer (some ⟨w.heap.size, 0, none⟩))
  clear hown hgrow hat hB2 hqq hbm1 c7 c8 f7
  go_wp2
  go_ret2
  exact ⟨rfl, ⟨_, HF.out.1⟩, HF.out.2⟩
end
end Go.Proofs.YtnhjmiglegdamaaGreat

namespace Go.Proofs.YtnhjmiglegdamaaGreat
open Go.RowKit Go.Maps
attribute [local go_sem ↓] Go.wp_at_zero Go.wp_at_succ
section
variable {w w0 w' : World} {tag tag' : Nat → Nat} {tc p q n m : Nat} {vo ce id : Int} {X X' : CX} {lv rv vv nv av pv vv' nv' av' ov cv ev ov' cv' ev' : Value} {bm born clk k gm : Nat} {c c' : PC}
set_option maxRecDepth 100000 in
set_option maxHeartbeats 4000000 in
theorem cl_owns (hk : CallOk w tag tc q c ov cv ev vv nv av) (kd cl ca : Int) (va : Option Addr) (vn vc : Nat) :
    Calls Tryz.prog 310 #[.pointer (some ⟨q, 0, none⟩), .agg #[.int .i64 kd, .int .i64 cl, .int .i64 ca, .slice va vn vc]] w fun en w' => en = .returned (.bool (cl == c.own.cl && ca == c.own.ca)) ∧ Bl w w' := by
  obtain ⟨W, hW⟩ : ∃ W, w.alloc (.cells #[.int .i64 kd, .int .i64 cl, .int .i64 ca, .slice va vn vc] 91) = W := ⟨_, rfl⟩
  have bW := (Bl.refl w).alloc (.cells #[.int .i64 kd, .int .i64 cl, .int .i64 ca, .slice va vn vc] 91)
  have hX := heap_alloc_new w (.cells #[.int .i64 kd, .int .i64 cl, .int .i64 ca, .slice va vn vc] 91)
  rw [hW] at bW hX
  obtain ⟨r0, r1, r2, r3, lr⟩ := row4 hX
  have e5 := (bW.cell hk.lt).trans (hk.cellAt 5 rfl)
  have e6 := (bW.cell hk.lt).trans (hk.cellAt 6 rfl)
  have lq := Nat.lt_of_lt_of_le hk.lt bW.lt
  have HW := hid hW
  have BW := hid bW
  clear hk hW bW hX
  go_enter Tryz.func310, Tryz.ntmps310
  go_upto_region 1 with fail
  rw [HW.out]
  by_cases h1 : cl = c.own.cl
  · by_cases h2 : ca = c.own.ca
    · have hb1 : (cl == c.own.cl) = true := by simpa using h1
      have hb2 : (ca == c.own.ca) = true := by simpa using h2
      go_quiet (fail)
      go_wp2
      go_ret
      exact ⟨by simp [hb1, hb2], by first | exact BW.out | exact BW.out.drew | exact BW.out.drewN _⟩
    · have hb1 : (cl == c.own.cl) = true := by simpa using h1
      have hb2 : (ca == c.own.ca) = false := by simpa using h2
      go_quiet (fail)
      go_wp2
      go_ret
      exact ⟨by simp [hb1, hb2], by first | exact BW.out | exact BW.out.drew | exact BW.out.drewN _⟩
  · have hb1 : (cl == c.own.cl) = false := by simpa using h1
    go_quiet (fail)
    go_wp2
    go_ret
    exact ⟨by simp [hb1], by first | exact BW.out | exact BW.out.drew | exact BW.out.drewN _⟩
set_option maxRecDepth 100000 in
set_option maxHeartbeats 4000000 in
theorem cl_taken1 (h : ClK w tag tc p q n m vo ce id X lv rv vv nv av bm born clk) (hc : X.pend = some c) (hk1 : c.kind = 1) (t : Ct) (hno : owns c t = false) (va : Option Addr) (vc : Nat) :
    Calls Tryz.prog 305 #[.pointer (some ⟨p, 0, none⟩), .pointer (some ⟨q, 0, none⟩), .agg #[.int .i64 t.kd, .int .i64 t.cl, .int .i64 t.ca, .slice va t.val.length vc]] w fun en w' => en = .returned (.tuple #[]) ∧ CStep w tag tc p q n m vo ce id (X.taken n m c t) w' := by
  have hX' : Hid (X.taken n m c t = { X with pend := some { c with q := PQ.zero } }) := by unfold Hid CX.taken; rw [if_pos hk1]
  obtain ⟨W, hW⟩ : ∃ W, w.alloc (.cells #[.int .i64 t.kd, .int .i64 t.cl, .int .i64 t.ca, .slice va t.val.length vc] 91) = W := ⟨_, rfl⟩
  have bW := (Bl.refl w).alloc (.cells #[.int .i64 t.kd, .int .i64 t.cl, .int .i64 t.ca, .slice va t.val.length vc] 91)
  have hX := heap_alloc_new w (.cells #[.int .i64 t.kd, .int .i64 t.cl, .int .i64 t.ca, .slice va t.val.length vc] 91)
  rw [hW] at bW hX
  obtain ⟨r0, r1, r2, r3, lr⟩ := row4 hX
  have hW1 := h.bl bW (tag' := tag) (fun _ _ e => e)
  obtain ⟨ov, cv, ev, v3, n3, a3, hk, hl, k2, k3⟩ := hW1.call c hc
  have HO := hid (cl_owns hk t.kd t.cl t.ca va t.val.length vc)
  have hno' : (t.cl == c.own.cl && t.ca == c.own.ca) = false := hno
  rw [hno'] at HO
  have e0 := hk.cellAt 0 rfl
  rw [hk1] at e0
  have lq := hk.lt
  have HS0 := hid (CStep.of_bl (Cl.of h) bW)
  have HW1 := hid hW1
  have HW := hid hW
  have BW := hid bW
  have Hh := hid h
  clear h hk hW bW hX hW1 hno hno'
  go_enter Tryz.func305, Tryz.ntmps305
  go_upto_region 1 with fail
  rw [HW.out]
  clear HW
  go_wp2_with (go_at_call 310; refine HO.out.mono ?_; rintro en w2 ⟨rfl, hb2⟩; have hW2 := HW1.out.bl hb2 (tag' := tag) (fun _ _ e => e); obtain ⟨ov4, cv4, ev4, v4, n4, a4, k4, _, _, _⟩ := hW2.call c hc; have l3 := k4.lt; have y16 := k4.cellAt 16 rfl; have y17 := k4.cellAt 17 rfl; have y18 := k4.cellAt 18 rfl; have y19 := k4.cellAt 19 rfl; have y20 := k4.cellAt 20 rfl; have y21 := k4.cellAt 21 rfl; have y22 := k4.cellAt 22 rfl; have y23 := k4.cellAt 23 rfl; have y24 := k4.cellAt 24 rfl; have y25 := k4.cellAt 25 rfl; have y26 := k4.cellAt 26 rfl; have g16 := k4.frz 16; have g17 := k4.frz 17; have g18 := k4.frz 18; have g19 := k4.frz 19; have g20 := k4.frz 20; have g21 := k4.frz 21; have g22 := k4.frz 22; have g23 := k4.frz 23; have g24 := k4.frz 24; have g25 := k4.frz 25; have g26 := k4.frz 26; have HW2 := hid hW2; have HB2 := hid hb2; clear hb2 hW2 k4 HO)
  (try simp only [Exit.inBlock, Exit.then])
  refine bodyPost_ret (v := .tuple #[]) (by simp [results, Tryz.results305, go_sem]) rfl ⟨rfl, ?_⟩
  rw [hX'.out]
  exact (q_only HW2.out hc (Cl.of (HW2.out.setZ hc)) (puts_only (S := fun b => b = q) (.inl rfl) _ 16 w2 (Only.refl _ w2))).pre (BW.out.trans HB2.out)
set_option maxRecDepth 100000 in
set_option maxHeartbeats 4000000 in
theorem cl_taken3 (h : ClK w tag tc p q n m vo ce id X lv rv vv nv av bm born clk) (hc : X.pend = some c) (hk1 : c.kind ≠ 1) (hA : AdOk n m vo ce c.addr) (hpl : c.place < m) (ha : 0 ≤ X.asked) (hb : X.asked ≤ 1000000) (t : Ct) (va : Option Addr) (vc : Nat) (ht : Rd w tag tc 5 (.slice va t.val.length vc) (t.val.map B8)) :
    Calls Tryz.prog 305 #[.pointer (some ⟨p, 0, none⟩), .pointer (some ⟨q, 0, none⟩), .agg #[.int .i64 t.kd, .int .i64 t.cl, .int .i64 t.ca, .slice va t.val.length vc]] w fun en w' => en = .returned (.tuple #[]) ∧ CStep w tag tc p q n m vo ce id (X.taken n m c t) w' := by
  have hX' : Hid (X.taken n m c t = ({ X with pend := some { c with cont := t } } : CX).goAlong n m { c with cont := t }) := by unfold Hid CX.taken; rw [if_neg hk1]; rfl
  obtain ⟨W, hW⟩ : ∃ W, w.alloc (.cells #[.int .i64 t.kd, .int .i64 t.cl, .int .i64 t.ca, .slice va t.val.length vc] 91) = W := ⟨_, rfl⟩
  have bW := (Bl.refl w).alloc (.cells #[.int .i64 t.kd, .int .i64 t.cl, .int .i64 t.ca, .slice va t.val.length vc] 91)
  have hX := heap_alloc_new w (.cells #[.int .i64 t.kd, .int .i64 t.cl, .int .i64 t.ca, .slice va t.val.length vc] 91)
  rw [hW] at bW hX
  obtain ⟨r0, r1, r2, r3, lr⟩ := row4 hX
  have hW1 := h.bl bW (tag' := tag) (fun _ _ e => e)
  obtain ⟨ov, cv, ev, v3, n3, a3, hk, hl, k2, k3⟩ := hW1.call c hc
  have H1 := hW1.setC hc t _ (ht.bl bW (fun _ _ e => e))
  have O1 : Only (fun b => b = q) W (puts W q 8 [.int .i64 t.kd, .int .i64 t.cl, .int .i64 t.ca, .slice va t.val.length vc]) := puts_only (S := fun b => b = q) (.inl rfl) _ 8 W (Only.refl _ W)
  have S1 := (q_only hW1 hc (Cl.of H1) O1)
  obtain ⟨W1, hW1e⟩ : ∃ W1, puts W q 8 [.int .i64 t.kd, .int .i64 t.cl, .int .i64 t.ca, .slice va t.val.length vc] = W1 := ⟨_, rfl⟩
  rw [hW1e] at H1 O1 S1
  have HN : Hid (Calls Tryz.prog 304 #[.pointer (some ⟨p, 0, none⟩), .pointer (some ⟨q, 0, none⟩)] W1 fun en w' => en = .returned (.tuple #[]) ∧ CStep w tag tc p q n m vo ce id (X.taken n m c t) w') :=
    (cl_goAlong (H1.bl (Bl.refl _) (tag' := tagTo tag W.heap.size tc) (fun b _ e => by
      by_cases hlt : b < W.heap.size
      · rw [tagTo_old _ _ _ _ hlt]; exact e
      · rw [tagTo_new _ _ _ _ (by omega)])) (c := { c with cont := t }) rfl hA hpl ha hb).mono fun en w' ⟨e1, e2⟩ => ⟨e1, by rw [hX'.out]; exact (S1.trans e2).pre bW⟩
  have e0 := hk.cellAt 0 rfl
  have e8 := hk.cellAt 8 rfl
  have e9 := hk.cellAt 9 rfl
  have e10 := hk.cellAt 10 rfl
  have e11 := hk.cellAt 11 rfl
  have g8 := hk.frz 8
  have g9 := hk.frz 9
  have g10 := hk.frz 10
  have g11 := hk.frz 11
  have lq := hk.lt
  have hkd : (c.kind == 1) = false := by simpa using hk1
  have HW := hid hW
  have HE : Hid ((((W.setCell ⟨q, 8, none⟩ (.int .i64 t.kd)).setCell ⟨q, 9, none⟩ (.int .i64 t.cl)).setCell ⟨q, 10, none⟩ (.int .i64 t.ca)).setCell ⟨q, 11, none⟩ (.slice va t.val.length vc) = W1) := hW1e
  clear h hk hW bW hX hW1 hW1e H1 O1 S1 ht
  go_enter Tryz.func305, Tryz.ntmps305
  go_upto_region 1 with fail
  rw [HW.out]
  clear HW
  go_upto_region 4 with fail
  rw [HE.out]
  go_wp2_with (go_at_call 304; refine HN.out.mono ?_; rintro en w3 ⟨rfl, hs⟩; have HS := hid hs; clear hs)
  go_end0
  exact ⟨rfl, HS.out⟩
set_option maxRecDepth 100000 in
set_option maxHeartbeats 4000000 in
theorem cl_trimmed (h : ClK w tag tc p q n m vo ce id X lv rv vv nv av bm born clk) (hc : X.pend = some c) (hf : fit n m vo ce = true) (hpl : c.place = 0) (ha : 0 ≤ X.asked) (hb : X.asked ≤ 1000000) (A : An) (hno : owns c A.ct = false) (va : Option Addr) (vc : Nat) :
    Calls Tryz.prog 306 #[.pointer (some ⟨p, 0, none⟩), .pointer (some ⟨q, 0, none⟩), .agg #[.int .i64 A.wh, .int .i64 A.ep, .int .i64 A.mark, .int .i64 A.ct.kd, .int .i64 A.ct.cl, .int .i64 A.ct.ca, .slice va A.ct.val.length vc]] w fun en w' => en = .returned (.tuple #[]) ∧ CStep w tag tc p q n m vo ce id (X.trimmed n m c A.mark) w' := by
  obtain ⟨W, hW⟩ : ∃ W, w.alloc (.cells #[.int .i64 A.wh, .int .i64 A.ep, .int .i64 A.mark, .int .i64 A.ct.kd, .int .i64 A.ct.cl, .int .i64 A.ct.ca, .slice va A.ct.val.length vc] 210) = W := ⟨_, rfl⟩
  have bW := (Bl.refl w).alloc (.cells #[.int .i64 A.wh, .int .i64 A.ep, .int .i64 A.mark, .int .i64 A.ct.kd, .int .i64 A.ct.cl, .int .i64 A.ct.ca, .slice va A.ct.val.length vc] 210)
  have hX := heap_alloc_new w (.cells #[.int .i64 A.wh, .int .i64 A.ep, .int .i64 A.mark, .int .i64 A.ct.kd, .int .i64 A.ct.cl, .int .i64 A.ct.ca, .slice va A.ct.val.length vc] 210)
  rw [hW] at bW hX
  obtain ⟨⟨r0, r1, r2, r3, r4, r5, r6⟩, _, lr⟩ := row7 hX
  have hW1 := h.bl bW (tag' := tag) (fun _ _ e => e)
  obtain ⟨ov, cv, ev, v3, n3, a3, hk, hl, k2, k3⟩ := hW1.call c hc
  have HO := hid (cl_owns hk A.ct.kd A.ct.cl A.ct.ca va A.ct.val.length vc)
  have hno' : (A.ct.cl == c.own.cl && A.ct.ca == c.own.ca) = false := hno
  rw [hno'] at HO
  have HW1 := hid hW1
  have HW := hid hW
  have BW := hid bW
  clear h hk hW bW hX hW1 hno hno'
  by_cases hk1 : c.kind = 1
  · have hX' : Hid (X.trimmed n m c A.mark = { X with pend := some { c with q := PQ.zero } }) := by unfold Hid CX.trimmed; rw [if_pos hk1]
    go_enter Tryz.func306, Tryz.ntmps306
    go_upto_region 1 with fail
    rw [HW.out]
    clear HW
    go_wp2_with (go_at_call 310; refine HO.out.mono ?_; rintro en w2 ⟨rfl, hb2⟩; have hW2 := HW1.out.bl hb2 (tag' := tag) (fun _ _ e => e); obtain ⟨ov4, cv4, ev4, v4, n4, a4, k4, _, _, _⟩ := hW2.call c hc; have l3 := k4.lt; have y0 := k4.cellAt 0 rfl; rw [hk1] at y0; have y12 := k4.cellAt 12 rfl; rw [hpl] at y12; have y16 := k4.cellAt 16 rfl; have y17 := k4.cellAt 17 rfl; have y18 := k4.cellAt 18 rfl; have y19 := k4.cellAt 19 rfl; have y20 := k4.cellAt 20 rfl; have y21 := k4.cellAt 21 rfl; have y22 := k4.cellAt 22 rfl; have y23 := k4.cellAt 23 rfl; have y24 := k4.cellAt 24 rfl; have y25 := k4.cellAt 25 rfl; have y26 := k4.cellAt 26 rfl; have g16 := k4.frz 16; have g17 := k4.frz 17; have g18 := k4.frz 18; have g19 := k4.frz 19; have g20 := k4.frz 20; have g21 := k4.frz 21; have g22 := k4.frz 22; have g23 := k4.frz 23; have g24 := k4.frz 24; have g25 := k4.frz 25; have g26 := k4.frz 26; have HW2 := hid hW2; have HB2 := hid hb2; clear hb2 hW2 k4 HO)
    first
      | go_end0
      | ((try simp only [Exit.inBlock, Exit.then]); refine bodyPost_ret (v := .tuple #[]) (by simp [results, Tryz.results306, go_sem]) rfl ?_)
    refine ⟨rfl, ?_⟩
    rw [hX'.out]
    exact (q_only HW2.out hc (Cl.of (HW2.out.setZ hc)) (puts_only (S := fun b => b = q) (.inl rfl) _ 16 w2 (Only.refl _ w2))).pre (BW.out.trans HB2.out)
  · have hX' : Hid (X.trimmed n m c A.mark = X.lay n m c A.mark ⟨4, 0, []⟩) := by unfold Hid CX.trimmed; rw [if_neg hk1]
    have hkd : (c.kind == 1) = false := by simpa using hk1
    have HL : Hid (∀ W2, Bl W W2 → _) := fun W2 hb2 => cl_lay (HW1.out.bl hb2 (tag' := tag) (fun _ _ e => e)) hc hf ha hb A.mark 4 0
    go_enter Tryz.func306, Tryz.ntmps306
    go_upto_region 1 with fail
    rw [HW.out]
    clear HW
    go_wp2_with (first | (go_at_call 310; refine HO.out.mono ?_; rintro en w2 ⟨rfl, hb2⟩; have hW2 := HW1.out.bl hb2 (tag' := tag) (fun _ _ e => e); obtain ⟨ov4, cv4, ev4, v4, n4, a4, k4, _, _, _⟩ := hW2.call c hc; have l3 := k4.lt; have y0 := k4.cellAt 0 rfl; have y12 := k4.cellAt 12 rfl; rw [hpl] at y12; have z2 := (hb2.cell lr).trans r2; have lr2 := Nat.lt_of_lt_of_le lr hb2.lt; have HB2 := hid hb2; clear hb2 hW2 k4 HO) | (go_at_call 149; refine (HL.out _ HB2.out).mono ?_; rintro en w3 ⟨rfl, hs⟩; have HS := hid hs; clear hs))
    first
      | go_end0
      | ((try simp only [Exit.inBlock, Exit.then]); refine bodyPost_ret (v := .tuple #[]) (by simp [results, Tryz.results306, go_sem]) rfl ?_)
    refine ⟨rfl, ?_⟩
    rw [hX'.out]
    exact HS.out.pre (BW.out.trans HB2.out)
end
end Go.Proofs.YtnhjmiglegdamaaGreat
