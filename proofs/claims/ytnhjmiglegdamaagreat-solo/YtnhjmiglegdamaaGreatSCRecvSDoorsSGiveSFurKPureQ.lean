-- A client takes a packet.
-- The calls of a client.
-- An append is given a token.
-- Calls of a client at package furrow: Wants, Tick.
-- The world of furrowkeep, without a program: one client, units, messages, calls.
import Derived.Test.YtnhjmiglegdamaaGreatSReplSTickQ
import Derived.Test.YtnhjmiglegdamaaGreatSDoSBeginSTakenQ
import Derived.Test.YtnhjmiglegdamaaGreatSCountSWantsSAwQ
namespace Go.Proofs.YtnhjmiglegdamaaGreat
open Go.RowKit Go.Maps
attribute [local go_sem ↓] Go.wp_at_zero Go.wp_at_succ
section
variable {w w0 w' : World} {tag tag' : Nat → Nat} {tc p q n m : Nat} {vo ce id : Int} {X X' : CX} {lv rv vv nv av pv vv' nv' av' ov cv ev ov' cv' ev' : Value} {bm born clk k gm : Nat} {c c' : PC}
/-- What an answer that comes may be. -/
structure RecvOk (n m : Nat) (vo ce : Int) (X : CX) (fr nr : Int) (A : An) : Prop where
  l1 : X.pr.nodes.length ≤ 100
  l2 : ∀ c, X.pend = some c → c.q.nodes.length ≤ 100
  h5 : A.wh ≠ 5
  a0 : 0 ≤ X.asked
  a1 : X.asked ≤ 1000000
  go : ∀ c, X.pend = some c → X.pr.awaits nr fr = false → c.q.awaits nr fr = true → GoOk n m vo ce { c with q := { c.q with ans := c.q.ans ++ [(fr, A)] } } A
theorem cl_replied (h : ClK w tag tc p q n m vo ce id X lv rv vv nv av bm born clk) (fr nr : Int) (A : An) (hR : RecvOk n m vo ce X fr nr A) (va : Option Addr) (vc : Nat) (ht : Rd w tag tc 5 (.slice va A.ct.val.length vc) (A.ct.val.map B8)) :
    Calls Tryz.prog 211 #[.pointer (some ⟨p, 0, none⟩), .int .i64 fr, .int .i64 nr, anV A va vc] w fun en w' => en = .returned (.tuple #[]) ∧ CStep w tag tc p q n m vo ce id (X.recv n m fr nr A) w' := by
  unfold CX.recv
  cases hw : X.pr.awaits nr fr
  · rw [if_neg (by simp)]
    cases hp : X.pend with
    | none => exact replied_none h hR.l1 fr nr hw (fun c hc => by rw [hp] at hc; simp at hc) A va vc
    | some c =>
      simp only
      cases hq : c.q.awaits nr fr
      · rw [if_neg (by simp)]
        exact replied_none h hR.l1 fr nr hw (fun c' hc => by
          rw [hp] at hc
          simp only [Option.some.injEq] at hc
          subst hc
          exact ⟨hR.l2 c hp, hq⟩) A va vc
      · rw [if_pos rfl]
        exact replied_call h hR.l1 fr nr hw hp (hR.l2 c hp) hq hR.a0 hR.a1 A hR.h5 (hR.go c hp hw hq) va vc ht
  · rw [if_pos rfl]
    exact replied_probe h hR.l1 fr nr hw A hR.h5 va vc ht
theorem Pkt.only {v : Value} {ds : List Int} (h : Pkt w v ds) {T : Nat → Prop} (ho : Only T w w') (hT : ∀ b, v.ownBlock = some b → ¬ T b) : Pkt w' v ds := by
  obtain ⟨b, o, c, rfl, h1, h2, h3, h4⟩ := h
  exact ⟨b, o, c, rfl, Nat.lt_of_lt_of_le h1 ho.size, h2, h3, fun j d hd => (ho.cell h1 (hT b rfl)).trans (h4 j d hd)⟩
theorem Pkt.shape {v : Value} {ds : List Int} (h : Pkt w v ds) : ∃ a c, v = .slice a ds.length c := by
  obtain ⟨b, o, c, rfl, _⟩ := h
  exact ⟨_, _, rfl⟩
theorem recB_range {kd : Int} {ns val : List Int} (h0 : 0 ≤ kd) (h1 : kd ≤ 255) (h2 : ns.length ≤ 255) (h3 : val.length ≤ 255) (h4 : ∀ d ∈ val, 0 ≤ d ∧ d ≤ 255) : ∀ d ∈ recB kd ns val, 0 ≤ d ∧ d ≤ 255 := by
  intro d hd
  unfold recB at hd
  simp only [List.mem_append, List.mem_cons, List.mem_flatMap, List.not_mem_nil, or_false] at hd
  rcases hd with (rfl | rfl | rfl) | ⟨x, _, hx⟩ | hd
  · exact ⟨h0, h1⟩
  · omega
  · omega
  · unfold enc8 at hx
    obtain ⟨j, _, rfl⟩ := List.mem_map.1 hx
    exact byteAt_range x j
  · exact h4 d hd
set_option maxRecDepth 100000 in
set_option maxHeartbeats 4000000 in
theorem cl_receive (h : ClK w tag tc p q n m vo ce id X lv rv vv nv av bm born clk) (fr nr : Int) (A : An) (hR : RecvOk n m vo ce X fr nr A) (v : Value) (hv : Pkt w v (recB 101 [nr, A.wh, A.ep, A.mark, A.ct.kd, A.ct.cl, A.ct.ca] A.ct.val)) (ok : Rc.Ok repShs ⟨101, [nr, A.wh, A.ep, A.mark, A.ct.kd, A.ct.cl, A.ct.ca], A.ct.val⟩) (hvt : ∀ b, v.ownBlock = some b → tag b ≠ tc) :
    Calls Tryz.prog 160 #[.pointer (some ⟨p, 0, none⟩), .int .i64 fr, v] w fun en w' => en = .returned (.tuple #[]) ∧ CStep w tag tc p q n m vo ce id (X.recv n m fr nr A) w' := by
  have HR := hid (readReply_yes v nr A.wh A.ep A.mark A.ct.kd A.ct.cl A.ct.ca A.ct.val w hv ok)
  have hby : ∀ d ∈ recB 101 [nr, A.wh, A.ep, A.mark, A.ct.kd, A.ct.cl, A.ct.ca] A.ct.val, 0 ≤ d ∧ d ≤ 255 := recB_range (by decide) (by decide) (by simp) ok.v1 ok.by8
  have hlen : (recB 101 [nr, A.wh, A.ep, A.mark, A.ct.kd, A.ct.cl, A.ct.ca] A.ct.val).length ≤ 40000000 := by
    exact Nat.le_trans (ok_len ok) (by decide)
  have HV : Hid (∀ W, Pkt W v (recB 101 [nr, A.wh, A.ep, A.mark, A.ct.kd, A.ct.cl, A.ct.ca] A.ct.val) → _) := fun W hW => readVote_no v _ W hW (by simp [recB]) hlen hby (by simp [recB])
  have Hh := hid h
  have Hp := hid hv
  have Hvt := hid hvt
  have HRR := hid hR
  obtain ⟨vb, vcap, hvs⟩ := hv.shape
  subst hvs
  clear h hv ok hvt hby hR hlen
  generalize (recB 101 [nr, A.wh, A.ep, A.mark, A.ct.kd, A.ct.cl, A.ct.ca] A.ct.val) = ds at *
  go_enter Tryz.func160, Tryz.ntmps160
  go_wp2_with fail
  refine HR.out.mono ?_
  rintro en w1 ⟨va, vc, rfl, hb1, ho1⟩
  have bX := (Bl.refl w1).alloc (anO A va vc)
  have S0 := hid (CStep.of_bl (Cl.of Hh.out) (hb1.trans bX))
  have hK2 := Hh.out.bl (hb1.trans bX) (tag' := tagTo tag w.heap.size tc) (fun b hb e => by rw [tagTo_old _ _ _ _ hb]; exact e)
  have HP := hid (cl_replied hK2 fr nr A HRR.out va vc ((Rd.of_own (tag := tagTo tag w.heap.size tc) (tc := tc) ho1 (fun b hb => tagTo_new _ _ _ _ (ho1.lt b hb).1)).bl bX (fun _ _ e => e)))
  have HB1 := hid (hb1.trans bX)
  unfold anV at HP
  unfold anO at HP bX HB1 S0
  clear HR hb1 ho1 hK2 bX
  go_wp2_with (go_at_call 211; refine HP.out.mono ?_; rintro en w2 ⟨rfl, hs⟩; have HS := hid hs; clear hs HP)
  have hP2 : Pkt w2 (.slice vb ds.length vcap) ds := (Hp.out.bl HB1.out).only HS.out.2 (fun b hb e => by
    obtain ⟨b', o', c', e1, e2, _⟩ := Hp.out
    have hbb : b < w.heap.size := by
      have : b' = b := by
        simp only [Value.slice.injEq] at e1
        rw [e1.1] at hb
        simpa [Value.ownBlock] using hb
      omega
    have := e.1
    rw [tagTo_old _ _ _ _ hbb] at this
    exact Hvt.out b hb this)
  have HV2 := hid (HV.out w2 hP2)
  clear hP2 HV
  refine HV2.out.mono ?_
  rintro en w3 ⟨rfl, hb3⟩
  have HB3 := hid hb3
  clear HV2 hb3
  go_wp2
  go_end0
  exact ⟨rfl, (S0.out.trans HS.out).post (HB3.out.alloc _)⟩
set_option maxRecDepth 100000 in
set_option maxHeartbeats 2000000 in
theorem fcl_receive (fr : Int) (v : Value) (Q : World → Prop) (h : Calls Tryz.prog 160 #[.pointer (some ⟨p, 0, none⟩), .int .i64 fr, v] w fun en w' => en = .returned (.tuple #[]) ∧ Q w') :
    Calls Tryz.prog 101 #[.pointer (some ⟨p, 0, none⟩), .int .i64 fr, v] w fun en w' => en = .returned (.tuple #[]) ∧ Q w' := by
  have H := hid h
  clear h
  go_enter Tryz.func101, Tryz.ntmps101
  go_wp2_with fail
  refine H.out.mono ?_
  rintro en w' ⟨rfl, hq⟩
  have HQ := hid hq
  clear H hq
  go_wp2
  go_end0
  exact ⟨rfl, HQ.out⟩
end
end Go.Proofs.YtnhjmiglegdamaaGreat

namespace Go.Proofs.YtnhjmiglegdamaaGreat
open Go.RowKit Go.Maps
attribute [local go_sem ↓] Go.wp_at_zero Go.wp_at_succ
section
variable {w w0 w' : World} {tag tag' : Nat → Nat} {tc p q n m : Nat} {vo ce id : Int} {X X' : CX} {lv rv vv nv av pv vv' nv' av' ov cv ev ov' cv' ev' : Value} {bm born clk k gm : Nat} {c c' : PC}
set_option maxHeartbeats 1000000 in
/-- The call's address. -/
theorem ClK.setA (h : ClK w tag tc p q n m vo ce id X lv rv vv nv av bm born clk) (hc : X.pend = some c) (a : Int) : ClK (w.setCell ⟨q, 2, none⟩ (.int .i64 a)) tag tc p q n m vo ce id { X with pend := some { c with addr := a } } lv rv vv nv av bm born clk := by
  obtain ⟨ov, cv, ev, v3, n3, a3, hk, hl, k2, k3⟩ := h.call c hc
  have ho : Only (fun b => b = q) w (w.setCell ⟨q, 2, none⟩ (.int .i64 a)) := (Only.refl (fun b => b = q) w).setCell ⟨q, 2, none⟩ (.inl rfl) _
  exact h.reQ hc hk ho (hk.re (c' := { c with addr := a }) ho (set_heap 2 _ w _ hk.hq) hk.own hk.cont hk.e hk.q) hl rfl k2 k3
set_option maxHeartbeats 1000000 in
/-- The kind of what the call itself would write. -/
theorem ClK.setK (h : ClK w tag tc p q n m vo ce id X lv rv vv nv av bm born clk) (hc : X.pend = some c) (a : Int) : ClK (w.setCell ⟨q, 4, none⟩ (.int .i64 a)) tag tc p q n m vo ce id { X with pend := some { c with own := { c.own with kd := a } } } lv rv vv nv av bm born clk := by
  obtain ⟨ov, cv, ev, v3, n3, a3, hk, hl, k2, k3⟩ := h.call c hc
  have ho : Only (fun b => b = q) w (w.setCell ⟨q, 4, none⟩ (.int .i64 a)) := (Only.refl (fun b => b = q) w).setCell ⟨q, 4, none⟩ (.inl rfl) _
  exact h.reQ hc hk ho (hk.re (c' := { c with own := { c.own with kd := a } }) ho (set_heap 4 _ w _ hk.hq) hk.own hk.cont hk.e hk.q) hl rfl k2 k3
set_option maxHeartbeats 1000000 in
/-- The value of what the call itself would write. -/
theorem ClK.setV (h : ClK w tag tc p q n m vo ce id X lv rv vv nv av bm born clk) (hc : X.pend = some c) (val : List Int) (v : Value) (hv : Rd w tag tc 5 v (val.map B8)) : ClK (w.setCell ⟨q, 7, none⟩ v) tag tc p q n m vo ce id { X with pend := some { c with own := { c.own with val := val } } } lv rv vv nv av bm born clk := by
  obtain ⟨ov, cv, ev, v3, n3, a3, hk, hl, k2, k3⟩ := h.call c hc
  have ho : Only (fun b => b = q) w (w.setCell ⟨q, 7, none⟩ v) := (Only.refl (fun b => b = q) w).setCell ⟨q, 7, none⟩ (.inl rfl) _
  exact h.reQ hc hk ho (hk.re (c' := { c with own := { c.own with val := val } }) ho (set_heap 7 _ w _ hk.hq) hv hk.cont hk.e hk.q) hl rfl k2 k3
theorem Cl.q1 (h : Cl w tag tc p q n m vo ce id X) (hc : X.pend = some c) : w.cell? ⟨q, 1, none⟩ = some (.int .i64 c.num) ∧ q < w.heap.size := by
  obtain ⟨lv, rv, vv, nv, av, bm, born, clk, h⟩ := h
  obtain ⟨ov, cv, ev, v3, n3, a3, hk, _⟩ := h.call c hc
  exact ⟨hk.cellAt 1 rfl, hk.lt⟩
theorem tag_same (W : World) (tag : Nat → Nat) (tc : Nat) : ∀ b, b < W.heap.size → tag b = tc → tagTo tag W.heap.size tc b = tc := fun b hb e => by rw [tagTo_old _ _ _ _ hb]; exact e
theorem tag_any (N : Nat) (tag : Nat → Nat) (tc : Nat) (W : World) : ∀ b, b < W.heap.size → tag b = tc → tagTo tag N tc b = tc := fun b _ e => by
  by_cases hlt : b < N
  · rw [tagTo_old _ _ _ _ hlt]; exact e
  · rw [tagTo_new _ _ _ _ (by omega)]
def newC (X : CX) (kind id a : Int) : PC := { PC.new kind X.res.length id with addr := a }
set_option maxRecDepth 100000 in
set_option maxHeartbeats 4000000 in
theorem cl_read (h : ClK w tag tc p q n m vo ce id X lv rv vv nv av bm born clk) (hc : X.pend = none) (hl : X.res.length ≤ 1000) (a : Int) (hA : AdOk n m vo ce a) (ha : 0 ≤ X.asked) (hb : X.asked ≤ 1000000) :
    Calls Tryz.prog 46 #[.pointer (some ⟨p, 0, none⟩), .int .i64 a] w fun en w' => en = .returned (.tuple #[.int .i64 X.res.length, .int .i64 0]) ∧ ∃ q', CStep w tag tc p q' n m vo ce id ((X.begin 2 id).look n m (newC X 2 id a)) w' := by
  have HL := hid (fun w => locate_any n m vo ce a w)
  rw [hA.loc] at HL
  unfold tup at HL
  have c0 := h.cellAt 0 rfl
  have c1 := h.cellAt 1 rfl
  have c2 := h.cellAt 2 rfl
  have c3 := h.cellAt 3 rfl
  have lp := h.lp
  have HB : Hid (∀ W, Bl w W → _) := fun W hW => cl_begin (h.bl hW (tag' := tag) (fun _ _ e => e)) hc hl 2
  clear h
  go_enter Tryz.func46, Tryz.ntmps46
  go_wp2_with fail
  refine (HL.out _).mono ?_
  rintro en w1 ⟨rfl, hb1⟩
  have HB1 := hid hb1
  have lp1 := Nat.lt_of_lt_of_le lp hb1.lt
  have HG := hid (HB.out w1 hb1)
  clear hb1 c0 c1 c2 c3 HL HB
  go_wp2_with fail
  refine HG.out.mono ?_
  rintro en w2 ⟨rfl, ⟨v', hk2⟩, ho2⟩
  have S2 : CStep w1 tag tc p w1.heap.size n m vo ce id (X.begin 2 id) w2 := ⟨Cl.of hk2, ho2⟩
  have hA2 := hk2.setA (c := PC.new 2 X.res.length id) rfl a
  have S3 := S2.trans (q_only hk2 (c := PC.new 2 X.res.length id) rfl (Cl.of hA2) ((Only.refl (fun b => b = w1.heap.size) w2).setCell ⟨w1.heap.size, 2, none⟩ (.inl rfl) _))
  obtain ⟨ov, cv, ev, v3, n3, a3, hkc, _⟩ := hk2.call _ rfl
  have e2 := hkc.cellAt 2 rfl
  have g2 := hkc.frz 2
  have lq := hkc.lt
  have HD := hid (cl_doR hA2 (c := newC X 2 id a) rfl hA rfl ha hb)
  have HS3 := hid S3
  clear hk2 ho2 S2 S3 hA2 hkc HG
  go_wp2_with fail
  refine HD.out.mono ?_
  rintro en w4 ⟨rfl, hs4⟩
  obtain ⟨z1, lz⟩ := Cl.q1 hs4.1 (c := { (newC X 2 id a) with q := _ }) rfl
  have HS4 := hid hs4
  clear hs4 HD
  go_wp2
  go_ret2
  exact ⟨rfl, w1.heap.size, (HS3.out.trans HS4.out).pre HB1.out⟩
set_option maxRecDepth 100000 in
set_option maxHeartbeats 4000000 in
theorem cl_fill (h : ClK w tag tc p q n m vo ce id X lv rv vv nv av bm born clk) (hc : X.pend = none) (hl : X.res.length ≤ 1000) (a : Int) (hA : AdOk n m vo ce a) (ha : 0 ≤ X.asked) (hb : X.asked ≤ 1000000) :
    Calls Tryz.prog 47 #[.pointer (some ⟨p, 0, none⟩), .int .i64 a] w fun en w' => en = .returned (.tuple #[.int .i64 X.res.length, .int .i64 0]) ∧ ∃ q', CStep w tag tc p q' n m vo ce id ((X.begin 3 id).writeNext n m { newC X 3 id a with own := ⟨9, id, X.res.length, []⟩, cont := ⟨9, id, X.res.length, []⟩, place := 0 }) w' := by
  have HL := hid (fun w => locate_any n m vo ce a w)
  rw [hA.loc] at HL
  unfold tup at HL
  have c0 := h.cellAt 0 rfl
  have c1 := h.cellAt 1 rfl
  have c2 := h.cellAt 2 rfl
  have c3 := h.cellAt 3 rfl
  have lp := h.lp
  have HB : Hid (∀ W, Bl w W → _) := fun W hW => cl_begin (h.bl hW (tag' := tag) (fun _ _ e => e)) hc hl 3
  clear h
  go_enter Tryz.func47, Tryz.ntmps47
  go_wp2_with fail
  refine (HL.out _).mono ?_
  rintro en w1 ⟨rfl, hb1⟩
  have HB1 := hid hb1
  have lp1 := Nat.lt_of_lt_of_le lp hb1.lt
  have HG := hid (HB.out w1 hb1)
  clear hb1 c0 c1 c2 c3 HL HB
  go_wp2_with fail
  refine HG.out.mono ?_
  rintro en w2 ⟨rfl, ⟨v', hk2⟩, ho2⟩
  have S2 : CStep w1 tag tc p w1.heap.size n m vo ce id (X.begin 3 id) w2 := ⟨Cl.of hk2, ho2⟩
  have hA1 := hk2.setK (c := PC.new 3 X.res.length id) rfl 9
  have hA2 := hA1.setA (c := { PC.new 3 X.res.length id with own := ⟨9, id, X.res.length, []⟩ }) rfl a
  have S3 := S2.trans (q_only hk2 (c := PC.new 3 X.res.length id) rfl (Cl.of hA2) (((Only.refl (fun b => b = w1.heap.size) w2).setCell ⟨w1.heap.size, 4, none⟩ (.inl rfl) _).setCell ⟨w1.heap.size, 2, none⟩ (.inl rfl) _))
  obtain ⟨ov, cv, ev, v3, n3, a3, hkc, _⟩ := hk2.call _ rfl
  have e2 := hkc.cellAt 2 rfl
  have g2 := hkc.frz 2
  have e4 := hkc.cellAt 4 rfl
  have g4 := hkc.frz 4
  have lq := hkc.lt
  have HD := hid (cl_doW hA2 (c := { newC X 3 id a with own := ⟨9, id, X.res.length, []⟩ }) rfl hA (.inr rfl) ha hb)
  have HS3 := hid S3
  clear hk2 ho2 S2 S3 hA2 hA1 hkc HG
  go_wp2_with fail
  refine HD.out.mono ?_
  rintro en w4 ⟨rfl, hs4⟩
  obtain ⟨z1, lz⟩ := Cl.q1 hs4.1 (c := { newC X 3 id a with own := ⟨9, id, X.res.length, []⟩, cont := ⟨9, id, X.res.length, []⟩, place := 0, q := _ }) rfl
  have HS4 := hid hs4
  clear hs4 HD
  go_wp2
  go_ret2
  exact ⟨rfl, w1.heap.size, (HS3.out.trans HS4.out).pre HB1.out⟩
set_option maxRecDepth 100000 in
set_option maxHeartbeats 4000000 in
theorem cl_trim (h : ClK w tag tc p q n m vo ce id X lv rv vv nv av bm born clk) (hc : X.pend = none) (hl : X.res.length ≤ 1000) (a : Int) (hf : fit n m vo ce = true) (h0 : 0 ≤ a) (h1 : a ≤ n * ce) (ha : 0 ≤ X.asked) (hb : X.asked ≤ 1000000) :
    Calls Tryz.prog 48 #[.pointer (some ⟨p, 0, none⟩), .int .i64 a] w fun en w' => en = .returned (.tuple #[.int .i64 X.res.length, .int .i64 0]) ∧ ∃ q', CStep w tag tc p q' n m vo ce id ((X.begin 4 id).lay n m (newC X 4 id a) a ⟨1, 0, []⟩) w' := by
  obtain ⟨f1, f2, f3, f4⟩ := fit_bd hf
  have hmul := mul_bd f1 f2 f3 f4
  have c0 := h.cellAt 0 rfl
  have c3 := h.cellAt 3 rfl
  have lp := h.lp
  have HB : Hid (∀ W, Bl w W → _) := fun W hW => cl_begin (h.bl hW (tag' := tag) (fun _ _ e => e)) hc hl 4
  have hlt : ¬ a < 0 := by omega
  have hgt : ¬ (n : Int) * ce < a := by omega
  have Hgt := hid hgt
  clear h hgt
  go_enter Tryz.func48, Tryz.ntmps48
  go_upto_region 1 with fail
  go_cut [24] (fun y wx => y = .bool false ∧ Hid (Bl w wx))
  case first =>
    go_quiet (fail)
    all_goals (go_wp2_with fail; go_meet)
    exact ⟨by simp; have := Hgt.out; omega, (Bl.refl w).drewN _⟩
  case rest =>
    obtain ⟨rfl, HB1⟩ := hcut
    obtain ⟨w1, rfl⟩ : ∃ w1, w1 = wc := ⟨_, rfl⟩
    have HG := hid (HB.out w1 HB1.out)
    have lp1 := Nat.lt_of_lt_of_le lp HB1.out.lt
    clear c0 c3 HB
    go_wp2_with fail
    refine HG.out.mono ?_
    rintro en w2 ⟨rfl, ⟨v', hk2⟩, ho2⟩
    have S2 : CStep w1 tag tc p w1.heap.size n m vo ce id (X.begin 4 id) w2 := ⟨Cl.of hk2, ho2⟩
    have hA2 := hk2.setA (c := PC.new 4 X.res.length id) rfl a
    have S3 := S2.trans (q_only hk2 (c := PC.new 4 X.res.length id) rfl (Cl.of hA2) ((Only.refl (fun b => b = w1.heap.size) w2).setCell ⟨w1.heap.size, 2, none⟩ (.inl rfl) _))
    obtain ⟨ov, cv, ev, v3, n3, a3, hkc, _⟩ := hk2.call _ rfl
    have e2 := hkc.cellAt 2 rfl
    have g2 := hkc.frz 2
    have lq := hkc.lt
    have HD := hid (cl_doT hA2 (c := newC X 4 id a) rfl hf rfl ha hb)
    have HS3 := hid S3
    clear hk2 ho2 S2 S3 hA2 hkc HG
    go_wp2_with fail
    refine HD.out.mono ?_
    rintro en w4 ⟨rfl, hs4⟩
    obtain ⟨z1, lz⟩ := Cl.q1 hs4.1 (c := { (newC X 4 id a) with e := ⟨1, 0, []⟩, q := _ }) rfl
    have HS4 := hid hs4
    clear hs4 HD
    go_wp2
    go_ret2
    exact ⟨rfl, w1.heap.size, (HS3.out.trans HS4.out).pre HB1.out⟩
set_option maxRecDepth 100000 in
set_option maxHeartbeats 4000000 in
theorem cl_append (h : ClK w tag tc p q n m vo ce id X lv rv vv nv av bm born clk) (hc : X.pend = none) (hl : X.res.length ≤ 1000) (v : Value) (val : List Int) (h0 : 1 ≤ val.length) (h8 : val.length ≤ 8) (hv : Pkt w v val) (hvt : ∀ b, v.ownBlock = some b → tag b ≠ tc) :
    Calls Tryz.prog 45 #[.pointer (some ⟨p, 0, none⟩), v] w fun en w' => en = .returned (.tuple #[.int .i64 X.res.length, .int .i64 0]) ∧ ∃ q', CStep w tag tc p q' n m vo ce id { (X.begin 1 id) with pend := some { PC.new 1 X.res.length id with own := ⟨8, id, X.res.length, val⟩ } } w' := by
  have HB := hid (cl_begin h hc hl 1)
  have lp := h.lp
  have i1 : ¬ (val.length : Int) < 1 := by omega
  have i8 : ¬ (8 : Int) < (val.length : Int) := by omega
  have Hv := hid hv
  have Hvt := hid hvt
  obtain ⟨va, vc, hvs⟩ := hv.shape
  subst hvs
  clear h hv hvt
  go_enter Tryz.func45, Tryz.ntmps45
  go_wp2_with fail
  refine HB.out.mono ?_
  rintro en w2 ⟨rfl, ⟨v', hk2⟩, ho2⟩
  have S2 : CStep w tag tc p w.heap.size n m vo ce id (X.begin 1 id) w2 := ⟨Cl.of hk2, ho2⟩
  obtain ⟨b, o, c', e, hb1, hb2, hb3, hcell⟩ := Hv.out.only ho2 (fun b hb e => Hvt.out b hb e.1)
  have hbs : Bs w2 (.slice va val.length vc) (val.map B8) := .inr ⟨⟨b, o, none⟩, c', by rw [List.length_map]; exact e, fun j u hj => by
    rw [List.getElem?_map] at hj
    obtain ⟨d, hd, rfl⟩ := Option.map_eq_some_iff.1 hj
    rw [add_eq]; exact hcell j d hd⟩
  have HC := hid (clone_any _ val w2 hbs (by omega))
  have HK2 := hid hk2
  have HS2 := hid S2
  have lw2 := ho2.size
  clear hk2 S2 ho2 hbs hcell HB
  go_wp2_with fail
  refine HC.out.mono ?_
  rintro en w3 ⟨v3, rfl, hb3', ho3⟩
  obtain ⟨g3, c3, rfl⟩ := own_shape ho3 (by omega)
  have hk3 := HK2.out.bl hb3' (tag' := tagTo tag w.heap.size tc) (fun _ _ e => e)
  have hA1 := hk3.setK (c := PC.new 1 X.res.length id) rfl 8
  have hRd := Rd.of_own (tag := tagTo tag w.heap.size tc) (tc := tc) ho3 (fun b hb => tagTo_new _ _ _ _ (by have := (ho3.lt b hb).1; omega))
  obtain ⟨ov, cv, ev, v4, n4, a4, hkc, _⟩ := hk3.call _ rfl
  have hA2 := hA1.setV (c := { PC.new 1 X.res.length id with own := ⟨8, id, X.res.length, []⟩ }) rfl val _ (hRd.only ((Only.refl (fun b => b = w.heap.size) w3).setCell ⟨w.heap.size, 4, none⟩ (.inl rfl) (.int .i64 8)) hkc.mu (.inr (.inl rfl)) (fun _ _ e => e))
  have S3 := (HS2.out.post hb3').trans (q_only hk3 (c := PC.new 1 X.res.length id) rfl (Cl.of hA2) (((Only.refl (fun b => b = w.heap.size) w3).setCell ⟨w.heap.size, 4, none⟩ (.inl rfl) _).setCell ⟨w.heap.size, 7, none⟩ (.inl rfl) _))
  have e1 := hkc.cellAt 1 rfl
  have e4 := hkc.cellAt 4 rfl
  have g4 := hkc.frz 4
  have e7 := hkc.cellAt 7 rfl
  have g7 := hkc.frz 7
  have lq := hkc.lt
  have HS3 := hid S3
  clear hk3 hA1 hA2 S3 hkc hRd ho3 hb3' HC
  go_wp2
  go_ret2
  exact ⟨rfl, w.heap.size, HS3.out⟩
end
end Go.Proofs.YtnhjmiglegdamaaGreat

namespace Go.Proofs.YtnhjmiglegdamaaGreat
open Go.RowKit Go.Maps
attribute [local go_sem ↓] Go.wp_at_zero Go.wp_at_succ
section
variable {w w0 w' : World} {tag tag' : Nat → Nat} {tc p q n m : Nat} {vo ce id : Int} {X X' : CX} {lv rv vv nv av pv vv' nv' av' ov cv ev ov' cv' ev' : Value} {bm born clk k gm : Nat} {c c' : PC}
set_option maxRecDepth 100000 in
set_option maxHeartbeats 4000000 in
theorem cl_give (h : ClK w tag tc p q n m vo ce id X lv rv vv nv av bm born clk) (hc : X.pend = some c) (hw : c.wants = true) (t : Int) (hA : AdOk n m vo ce t) (ha : 0 ≤ X.asked) (hb : X.asked ≤ 1000000) :
    Calls Tryz.prog 52 #[.pointer (some ⟨p, 0, none⟩), .int .i64 c.num, .int .i64 t] w fun en w' => en = .returned (.int .i64 0) ∧ CStep w tag tc p q n m vo ce id (X.writeNext n m { c with addr := t, cont := c.own, place := 0 }) w' := by
  have hkind : c.kind = 1 := by unfold PC.wants at hw; simp at hw; exact hw.1
  have HL := hid (fun w => locate_any n m vo ce t w)
  rw [hA.loc] at HL
  unfold tup at HL
  obtain ⟨ov, cv, ev, v3, n3, a3, hk, _⟩ := h.call c hc
  have HW := hid (cl_wantsC hk)
  rw [hw] at HW
  have hm := h.mp
  rw [hc] at hm
  simp only [pendE] at hm
  have hlk := look98t w bm clk born c.num _ hm
  have c0 := h.cellAt 0 rfl
  have c1 := h.cellAt 1 rfl
  have c2 := h.cellAt 2 rfl
  have c3 := h.cellAt 3 rfl
  have c8 := h.cellAt 8 rfl
  have lp := h.lp
  have lq := hk.lt
  have H := hid h
  clear h hk hm
  go_enter Tryz.func52, Tryz.ntmps52
  go_wp2_with (first | (go_at_call 93; refine HW.out.mono ?_; rintro en w1 ⟨rfl, rfl⟩))
  refine (HL.out _).mono ?_
  rintro en w2 ⟨rfl, hb2⟩
  have hk2 := H.out.bl hb2 (tag' := tag) (fun _ _ e => e)
  have hA2 := hk2.setA hc t
  have S3 := (q_only hk2 hc (Cl.of hA2) ((Only.refl (fun b => b = q) w2).setCell ⟨q, 2, none⟩ (.inl rfl) _)).pre hb2
  obtain ⟨ov2, cv2, ev2, v32, n32, a32, hkc, _⟩ := hk2.call c hc
  have e2 := hkc.cellAt 2 rfl
  have g2 := hkc.frz 2
  have lq2 := hkc.lt
  have HD := hid (cl_doW (hA2.bl (Bl.refl _) (tag_any w1.heap.size tag tc _)) (c := { c with addr := t }) rfl hA (.inl hkind) ha hb)
  have HS3 := hid S3
  clear hk2 hA2 S3 hkc hb2 c0 c1 c2 c3 c8 hlk HW HL
  go_wp2_with (go_at_call 88; refine HD.out.mono ?_; rintro en w4 ⟨rfl, hs4⟩; have HS4 := hid hs4; clear hs4)
  go_ret
  exact ⟨rfl, HS3.out.trans HS4.out⟩
set_option maxRecDepth 100000 in
set_option maxHeartbeats 4000000 in
theorem cl_giveFull (h : ClK w tag tc p q n m vo ce id X lv rv vv nv av bm born clk) (hc : X.pend = some c) (hw : c.wants = true) (t : Int) (hf : fit n m vo ce = true) (ht : t < 0 ∨ n * ce ≤ t) :
    Calls Tryz.prog 52 #[.pointer (some ⟨p, 0, none⟩), .int .i64 c.num, .int .i64 t] w fun en w' => en = .returned (.int .i64 0) ∧ CStep w tag tc p q n m vo ce id (X.end' c ⟨7, 0, []⟩) w' := by
  have hloc : loc n m vo ce t = (0, 0, 2) := by unfold loc; rw [if_pos hf, if_pos ht]
  have HL := hid (fun w => locate_any n m vo ce t w)
  rw [hloc] at HL
  unfold tup at HL
  obtain ⟨ov, cv, ev, v3, n3, a3, hk, _⟩ := h.call c hc
  have HW := hid (cl_wantsC hk)
  rw [hw] at HW
  have hm := h.mp
  rw [hc] at hm
  simp only [pendE] at hm
  have hlk := look98t w bm clk born c.num _ hm
  have c0 := h.cellAt 0 rfl
  have c1 := h.cellAt 1 rfl
  have c2 := h.cellAt 2 rfl
  have c3 := h.cellAt 3 rfl
  have c8 := h.cellAt 8 rfl
  have lp := h.lp
  have lq := hk.lt
  have H := hid h
  clear h hk hm
  go_enter Tryz.func52, Tryz.ntmps52
  go_wp2_with (first | (go_at_call 93; refine HW.out.mono ?_; rintro en w1 ⟨rfl, rfl⟩))
  refine (HL.out _).mono ?_
  rintro en w2 ⟨rfl, hb2⟩
  have HD := hid (cl_end (H.out.bl hb2 (tag' := tag) (fun _ _ e => e)) hc ⟨7, 0, []⟩ none 0 Rd.nil)
  simp only [List.length_nil] at HD
  have HB2 := hid hb2
  clear hb2 c0 c1 c2 c3 c8 hlk HW HL
  go_wp2_with (go_at_call 95; refine HD.out.mono ?_; rintro en w4 ⟨rfl, hs4⟩; have HS4 := hid hs4; clear hs4)
  go_ret
  exact ⟨rfl, HS4.out.pre HB2.out⟩
set_option maxRecDepth 100000 in
/-- A call at package furrow that gives one number goes through as it is. -/
theorem fcl_give (k t : Int) (r : Int) (Q : World → Prop) (h : Calls Tryz.prog 52 #[.pointer (some ⟨p, 0, none⟩), .int .i64 k, .int .i64 t] w fun en w' => en = .returned (.int .i64 r) ∧ Q w') :
    Calls Tryz.prog 25 #[.pointer (some ⟨p, 0, none⟩), .int .i64 k, .int .i64 t] w fun en w' => en = .returned (.int .i64 r) ∧ Q w' := by
  have H := hid h
  clear h
  go_enter Tryz.func25, Tryz.ntmps25
  go_wp2_with (go_at_call 52; refine H.out.mono ?_; rintro en w' ⟨rfl, hq⟩; have HQ := hid hq; clear hq)
  go_ret
  exact ⟨rfl, HQ.out⟩
set_option maxRecDepth 100000 in
theorem fcl_two19 (a r : Int) (Q : World → Prop) (h : Calls Tryz.prog 46 #[.pointer (some ⟨p, 0, none⟩), .int .i64 a] w fun en w' => en = .returned (.tuple #[.int .i64 r, .int .i64 0]) ∧ Q w') :
    Calls Tryz.prog 19 #[.pointer (some ⟨p, 0, none⟩), .int .i64 a] w fun en w' => en = .returned (.tuple #[.int .i64 r, .int .i64 0]) ∧ Q w' := by
  have H := hid h
  clear h
  go_enter Tryz.func19, Tryz.ntmps19
  go_wp2_with (go_at_call 46; refine H.out.mono ?_; rintro en w' ⟨rfl, hq⟩; have HQ := hid hq; clear hq)
  go_ret2
  exact ⟨rfl, HQ.out⟩
set_option maxRecDepth 100000 in
theorem fcl_two20 (a r : Int) (Q : World → Prop) (h : Calls Tryz.prog 47 #[.pointer (some ⟨p, 0, none⟩), .int .i64 a] w fun en w' => en = .returned (.tuple #[.int .i64 r, .int .i64 0]) ∧ Q w') :
    Calls Tryz.prog 20 #[.pointer (some ⟨p, 0, none⟩), .int .i64 a] w fun en w' => en = .returned (.tuple #[.int .i64 r, .int .i64 0]) ∧ Q w' := by
  have H := hid h
  clear h
  go_enter Tryz.func20, Tryz.ntmps20
  go_wp2_with (go_at_call 47; refine H.out.mono ?_; rintro en w' ⟨rfl, hq⟩; have HQ := hid hq; clear hq)
  go_ret2
  exact ⟨rfl, HQ.out⟩
set_option maxRecDepth 100000 in
theorem fcl_two21 (a r : Int) (Q : World → Prop) (h : Calls Tryz.prog 48 #[.pointer (some ⟨p, 0, none⟩), .int .i64 a] w fun en w' => en = .returned (.tuple #[.int .i64 r, .int .i64 0]) ∧ Q w') :
    Calls Tryz.prog 21 #[.pointer (some ⟨p, 0, none⟩), .int .i64 a] w fun en w' => en = .returned (.tuple #[.int .i64 r, .int .i64 0]) ∧ Q w' := by
  have H := hid h
  clear h
  go_enter Tryz.func21, Tryz.ntmps21
  go_wp2_with (go_at_call 48; refine H.out.mono ?_; rintro en w' ⟨rfl, hq⟩; have HQ := hid hq; clear hq)
  go_ret2
  exact ⟨rfl, HQ.out⟩
set_option maxRecDepth 100000 in
theorem fcl_append (v : Value) (r : Int) (Q : World → Prop) (hv : ∃ a l c, v = .slice a l c) (h : Calls Tryz.prog 45 #[.pointer (some ⟨p, 0, none⟩), v] w fun en w' => en = .returned (.tuple #[.int .i64 r, .int .i64 0]) ∧ Q w') :
    Calls Tryz.prog 18 #[.pointer (some ⟨p, 0, none⟩), v] w fun en w' => en = .returned (.tuple #[.int .i64 r, .int .i64 0]) ∧ Q w' := by
  obtain ⟨a, l, c, rfl⟩ := hv
  have H := hid h
  clear h
  go_enter Tryz.func18, Tryz.ntmps18
  go_wp2_with (go_at_call 45; refine H.out.mono ?_; rintro en w' ⟨rfl, hq⟩; have HQ := hid hq; clear hq)
  go_ret2
  exact ⟨rfl, HQ.out⟩
end
end Go.Proofs.YtnhjmiglegdamaaGreat

namespace Go.Proofs.YtnhjmiglegdamaaGreat
open Go.RowKit Go.Maps
attribute [local go_sem ↓] Go.wp_at_zero Go.wp_at_succ
section
variable {w w0 w' : World} {tag tag' : Nat → Nat} {tc p q n m : Nat} {vo ce id : Int} {X X' : CX} {lv rv vv nv av : Value} {bm born clk : Nat} {c c' : PC}
set_option maxRecDepth 100000 in
theorem fcl_tick (Q : World → Prop) (h : Calls Tryz.prog 96 #[.pointer (some ⟨p, 0, none⟩)] w fun en w' => en = .returned (.tuple #[]) ∧ Q w') :
    Calls Tryz.prog 57 #[.pointer (some ⟨p, 0, none⟩)] w fun en w' => en = .returned (.tuple #[]) ∧ Q w' := by
  have H := hid h
  clear h
  go_enter Tryz.func57, Tryz.ntmps57
  go_wp2_with (go_at_call 96; refine H.out.mono ?_; rintro en w' ⟨rfl, hq⟩; have HQ := hid hq; clear hq)
  go_end0
  exact ⟨rfl, HQ.out⟩
set_option maxRecDepth 100000 in
theorem fcl_wants (l : Nat) (Q : Option Addr → Nat → World → Prop) (h : Calls Tryz.prog 51 #[.pointer (some ⟨p, 0, none⟩)] w fun en w' => ∃ a c, en = .returned (.slice a l c) ∧ Q a c w') :
    Calls Tryz.prog 24 #[.pointer (some ⟨p, 0, none⟩)] w fun en w' => ∃ a c, en = .returned (.slice a l c) ∧ Q a c w' := by
  have H := hid h
  clear h
  go_enter Tryz.func24, Tryz.ntmps24
  go_wp2_with (go_at_call 51; refine H.out.mono ?_; rintro en w' ⟨a, c, rfl, hq⟩; have HQ := hid hq; clear hq)
  go_ret
  exact ⟨a, c, rfl, HQ.out⟩
/-- What stands in Wants. -/
def CX.wantsL (X : CX) : List Nat := match X.pend with
  | none => []
  | some c => if c.wants then [c.num] else []
theorem cl_wantsF (h : ClK w tag tc p q n m vo ce id X lv rv vv nv av bm born clk) :
    Calls Tryz.prog 24 #[.pointer (some ⟨p, 0, none⟩)] w fun en w' => ∃ a c, en = .returned (.slice a X.wantsL.length c) ∧ Bl w w' ∧ ∀ k, X.wantsL = [k] → ∃ g, a = some ⟨g, 0, none⟩ ∧ g < w'.heap.size ∧ w'.cell? ⟨g, 0, none⟩ = some (.int .i64 k) := by
  refine fcl_wants X.wantsL.length _ ?_
  cases hc : X.pend with
  | none =>
    have e : X.wantsL = [] := by unfold CX.wantsL; rw [hc]
    rw [e]
    exact (cl_wants0 h hc).mono fun en w' ⟨e1, e2⟩ => ⟨none, 0, e1, e2, fun k hk => by simp at hk⟩
  | some c =>
    refine (cl_wants1 h hc).mono ?_
    rintro en w' ⟨hb, hno, hyes⟩
    cases hw : c.wants
    · have e : X.wantsL = [] := by unfold CX.wantsL; rw [hc]; simp [hw]
      rw [e]
      exact ⟨none, 0, hno hw, hb, fun k hk => by simp at hk⟩
    · have e : X.wantsL = [c.num] := by unfold CX.wantsL; rw [hc]; simp [hw]
      rw [e]
      obtain ⟨g, cap, e1, lg, hg⟩ := hyes hw
      exact ⟨_, _, e1, hb, fun k hk => by
        simp at hk
        subst hk
        exact ⟨g, rfl, lg, hg⟩⟩
end
end Go.Proofs.YtnhjmiglegdamaaGreat

namespace Go.Proofs.YtnhjmiglegdamaaGreat
open Go.RowKit Go.Maps

/-- A message: a request to a unit, or a unit's answer. -/
inductive Ms
  | req (u kd nr pl : Int) (ct : Ct)
  | rep (u : Nat) (nr : Int) (A : An)
def Ms.fr : Ms → Int
  | .req .. => 1000
  | .rep u _ _ => u
def Ms.to : Ms → Int
  | .req u .. => u
  | .rep .. => 1000
def repB (nr : Int) (A : An) : List Int := recB 101 [nr, A.wh, A.ep, A.mark, A.ct.kd, A.ct.cl, A.ct.ca] A.ct.val
def Ms.data : Ms → List Int
  | .req _ kd nr pl ct => recB kd [nr, 0, pl, ct.kd, ct.cl, ct.ca] ct.val
  | .rep _ nr A => repB nr A
/-- A unit: its state, and the answers that wait. -/
structure UQ where
  s : St
  q : List (Int × An)
def rawQ (z : Int × An) : Int × List Int := (1000, repB z.1 z.2)
/-- A call, as it is noted. -/
structure PK where
  kind : Int
  pos : Int
  value : List Int
  tokens : List Int
  beg : Int
  fin : Int
  r : Rz
/-- The whole world. -/
structure KW where
  us : List UQ
  X : CX
  pool : List Ms
  calls : List PK
  now : Int
  had : Nat
def PK.see (t : Int) (c : PK) (r : Rz) : PK := if c.fin = 0 ∧ r.wh ≠ 0 then { c with fin := t, r := r } else c
def KW.watch (K : KW) : KW := { K with now := K.now + 1, calls := List.zipWith (PK.see (K.now + 1)) K.calls K.X.res }
/-- What a unit answers. -/
def uAns (n m v : Nat) (ce : Int) (u : Nat) (s : St) (kd pl : Int) (ct : Ct) : An × St := ansA n m v ce (u / m : Nat) s kd 0 pl ct.kd ct.cl ct.ca ct.val
def KW.recv (n m v : Nat) (ce : Int) (K : KW) : Ms → KW
  | .req u kd nr pl ct => match K.us[u.toNat]? with
    | none => K
    | some U => { K with us := K.us.set u.toNat ⟨(uAns n m v ce u.toNat U.s kd pl ct).2, U.q ++ [(nr, (uAns n m v ce u.toNat U.s kd pl ct).1)]⟩ }
  | .rep u nr A => { K with X := K.X.recv n m u nr A }
def KW.hand (n m v : Nat) (ce : Int) (K : KW) (l : Ms) : KW := ({ K.recv n m v ce l with now := K.now + 1 } : KW).watch
def PQ.outM (q : PQ) : List Ms := if q.due then q.nodes.map fun u => .req u q.kd q.nr q.pl q.ct else []
def CX.outM (X : CX) : List Ms := ((X.pend.map fun c => c.q.outM).getD []) ++ X.pr.outM
theorem outM_raw (q : PQ) : q.outM.map (fun x => (x.to, x.data)) = q.outP := by
  unfold PQ.outM PQ.outP PQ.pkts PQ.bytes
  split <;> simp [Ms.to, Ms.data]
theorem CX.outM_raw (X : CX) : X.outM.map (fun x => (x.to, x.data)) = X.outP := by
  unfold CX.outM CX.outP
  rw [List.map_append, Go.Proofs.YtnhjmiglegdamaaGreat.outM_raw]
  cases X.pend with
  | none => rfl
  | some c => simp [Go.Proofs.YtnhjmiglegdamaaGreat.outM_raw]
/-- Unit i gives out. -/
def KW.outU (K : KW) (i : Nat) : KW := match K.us[i]? with
  | none => K
  | some U => { K with us := K.us.set i ⟨U.s, []⟩, pool := K.pool ++ U.q.map fun z => .rep i z.1 z.2 }
def KW.outC (K : KW) : KW := { K with X := K.X.outX, pool := K.pool ++ K.X.outM }
def KW.outAt (n m v : Nat) (K : KW) (k : Nat) : KW := if k < n * m then K.outU k else if k < n * m + v then K else K.outC
def KW.outsTo (n m v : Nat) (K : KW) (k : Nat) : KW := (List.range k).foldl (KW.outAt n m v) K
theorem KW.outsTo_succ (n m v : Nat) (K : KW) (k : Nat) : K.outsTo n m v (k + 1) = (K.outsTo n m v k).outAt n m v k := by
  unfold KW.outsTo
  rw [List.range_succ, List.foldl_append]
  rfl
/-- All have given out: what is on its way, and the world. -/
def KW.outs (n m v : Nat) (K : KW) : KW := ({ K with pool := [] } : KW).outsTo n m v (n * m + v + 1)
/-- A step. -/
def KW.step (n m v : Nat) (ce : Int) (K : KW) : KW := (K.outs n m v).pool.foldl (KW.hand n m v ce) { K.outs n m v with pool := K.pool }
end Go.Proofs.YtnhjmiglegdamaaGreat
