-- A node that is a unit takes a packet.
-- A node's calls at package furrow: a packet is taken, its image.
-- The answers that wait are copied.
-- The answers that wait are cleared.
-- The answers that wait are taken out of the queue.
-- A node gives its answers out.
import Derived.Test.YtnhjmiglegdamaaGreatSKtSNodeQ
import Derived.Test.YtnhjmiglegdamaaGreatSAnsQ
import Derived.Lib.SliceRun
import Derived.Deep.RegionLaw
namespace Go.Proofs.YtnhjmiglegdamaaGreat
open Go.RowKit Go.Maps
attribute [local go_sem ↓] Go.wp_at_zero Go.wp_at_succ
theorem Tryz.info174 : (Tryz.prog.info? 174).map (fun i => (i.zero, i.size, i.bytes)) = some (some (.agg #[.int .i64 0, .slice none 0 0]), 2, 32) := by kernel_rfl

theorem Kt.retag {w : World} {tag tag' : Nat → Nat} {tg p : Nat} {a b c d ch : Int} {rs : List Rc} {S : Nat → St} (h : Kt w tag tg p a b c d ch rs S) (ht : ∀ g, g < w.heap.size → tag g = tg → tag' g = tg) : Kt w tag' tg p a b c d ch rs S := by
  obtain ⟨K, hk, hw, hp, hg⟩ := h
  exact ⟨K, hk, hw, ht p hk.at'.lt hp, fun g hF => ht g (hk.foot hF).2 (hg g hF)⟩
theorem meth_answer (w : World) (p : Nat) : (method 498 228 (Value.agg #[Value.pointer (some { block := p, off := 0 })]) "furrow/nodes.answer").run Tryz.prog w = .ok (328, Value.agg #[Value.pointer (some { block := p, off := 0 })]) w := by kernel_rfl
/-- The answers that wait. -/
def OqX (w : World) (tag : Nat → Nat) (tg tb : Nat) (ov : Value) (q : List (Int × List Int)) (xs : List Value) : Prop :=
  w.ownsRow 0 174 2 ov q.length xs ∧ (∀ b, ov.ownBlock = some b → tag b = tg) ∧ ∀ i (h : i < q.length), xs[2 * i]? = some (.int .i64 q[i].1) ∧ ∃ v, xs[2 * i + 1]? = some v ∧ w.ownsRow 0 5 1 v q[i].2.length (q[i].2.map B8) ∧ ∀ b, v.ownBlock = some b → tag b = tb
/-- The bytes of two answers lie in two blocks. -/
def Apt (xs : List Value) : Prop := ∀ i j u v b, i < j → xs[2 * i + 1]? = some u → xs[2 * j + 1]? = some v → u.ownBlock = some b → v.ownBlock ≠ some b
def Oq (w : World) (tag : Nat → Nat) (tg tb : Nat) (ov : Value) (q : List (Int × List Int)) : Prop := ∃ xs, OqX w tag tg tb ov q xs ∧ Apt xs
theorem OqX.only {T : Nat → Prop} {w w' : World} {tag tag' : Nat → Nat} {tg tb : Nat} {ov : Value} {q : List (Int × List Int)} {xs : List Value} (h : OqX w tag tg tb ov q xs) (ho : Only T w w') (hs : ∀ b, b < w.heap.size → T b → tag b ≠ tg ∧ tag b ≠ tb) (ht : ∀ b, b < w.heap.size → tag' b = tag b) : OqX w' tag' tg tb ov q xs := by
  obtain ⟨h1, h2, h3⟩ := h
  refine ⟨ho.owns h1 (fun b hb e => (hs b (h1.lt b hb).2 e).1 (h2 b hb)), fun b hb => by rw [ht b (h1.lt b hb).2]; exact h2 b hb, fun i hi => ?_⟩
  obtain ⟨k1, v, k2, k3, k4⟩ := h3 i hi
  exact ⟨k1, v, k2, ho.owns k3 (fun b hb e => (hs b (k3.lt b hb).2 e).2 (k4 b hb)), fun b hb => by rw [ht b (k3.lt b hb).2]; exact k4 b hb⟩
theorem OqX.low {w : World} {tag : Nat → Nat} {tg tb : Nat} {ov : Value} {q : List (Int × List Int)} {xs : List Value} (h : OqX w tag tg tb ov q xs) : (∀ b, ov.ownBlock = some b → b < w.heap.size) ∧ ∀ i (_ : i < q.length) (v : Value), xs[2 * i + 1]? = some v → ∀ b, v.ownBlock = some b → b < w.heap.size := by
  obtain ⟨h1, h2, h3⟩ := h
  refine ⟨fun b hb => (h1.lt b hb).2, fun i hi v hv b hb => ?_⟩
  obtain ⟨_, v', k2, k3, _⟩ := h3 i hi
  rw [hv] at k2
  simp only [Option.some.injEq] at k2
  subst k2
  exact (k3.lt b hb).2
/-- A node that is a unit, in block g. -/
structure Nd (w : World) (tag : Nat → Nat) (tg tn tb g : Nat) (a b c d ch : Int) (rs : List Rc) (S : Nat → St) (q : List (Int × List Int)) : Prop where
  ex : ∃ p ov, w.heap[g]? = some (.cells #[.iface 228 (.agg #[.pointer (some ⟨p, 0, none⟩)]), ov] 124 (0, 0)) ∧ tag g = tn ∧ Kt w tag tg p a b c d ch rs S ∧ Oq w tag tn tb ov q

theorem recv_end {w W wc w5 : World} {tag tag' : Nat → Nat} {tg tn tb g p : Nat} {a b c d ch fr : Int} {rs rs' : List Rc} {S S' : Nat → St} {q : List (Int × List Int)} {s2 : St} {oa ba : Option Addr} {oc bc gg cap : Nat} {xs : List Value} {ds : List Int} (hne : tn ≠ tg) (htg : 10 ≤ tg) (lg0 : g < w.heap.size) (tgg : tag g = tn) (bW : Bl w W) (ho : wc.ownsRow W.heap.size 5 1 (.slice ba ds.length bc) ds.length (ds.map B8)) (ht4 : ∀ b, (Value.slice ba ds.length bc).ownBlock = some b → tag' b = 4) (hold : ∀ b, b < W.heap.size → tag' b = tagTo tag w.heap.size 5 b) (hM : MoreK rs S rs' S') (hE : S' rs'.length = s2) (hsz : (flat rs').length ≤ (flat rs).length + 60) (hk : Kt wc tag' tg p a b c d ch rs' S') (O : Only (fun b => tagTo tag w.heap.size 5 b = tg) W wc)
    (hg : wc.heap[g]? = some (.cells #[.iface 228 (.agg #[.pointer (some ⟨p, 0, none⟩)]), .slice oa q.length oc] 124 (0, 0))) (x1 : wc.ownsRow 0 174 2 (.slice oa q.length oc) q.length xs) (x2 : ∀ b, (Value.slice oa q.length oc).ownBlock = some b → tag' b = tn) (x3 : ∀ i (h : i < q.length), xs[2 * i]? = some (.int .i64 q[i].1) ∧ ∃ v, xs[2 * i + 1]? = some v ∧ wc.ownsRow 0 5 1 v q[i].2.length (q[i].2.map B8) ∧ ∀ b, v.ownBlock = some b → tag' b = tb)
    (xap : Apt xs) (x0 : ∀ b, (Value.slice oa q.length oc).ownBlock = some b → b < w.heap.size) (x4 : ∀ i (_ : i < q.length) (v : Value), xs[2 * i + 1]? = some v → ∀ b, v.ownBlock = some b → b < w.heap.size)
    (hown : w5.ownsRow 0 174 2 (.slice (some ⟨gg, 0, none⟩) (q.length + 1) cap) (q.length + 1) (xs ++ [.int .i64 fr, .slice ba ds.length bc])) (hgrow : (wc.alloc (.cells #[.int .i64 fr, .slice ba ds.length bc] 174)).grownBy w5 (Value.slice oa q.length oc).ownBlock) (hat : (Value.slice oa q.length oc).ownBlock = some gg ∨ gg = wc.heap.size + 1) :
    ∃ tag2, (∀ b, b < w.heap.size → tag2 b = tag b) ∧ MoreK rs S rs' S' ∧ S' rs'.length = s2 ∧ (flat rs').length ≤ (flat rs).length + 60 ∧ Nd (w5.setCell ⟨g, 1, none⟩ (.slice (some ⟨gg, 0, none⟩) (q.length + 1) cap)) tag2 tg tn tb g a b c d ch rs' S' (q ++ [(fr, ds)]) ∧ Only (fun b => tag b = tg ∨ tag b = tn) w (w5.setCell ⟨g, 1, none⟩ (.slice (some ⟨gg, 0, none⟩) (q.length + 1) cap)) := by
  have lW := bW.lt
  have lc := O.size
  have lgc := (Array.getElem?_eq_some_iff.1 hg).1
  obtain ⟨tag2, ht2⟩ : ∃ tag2, tag2 = fun b => if b < w.heap.size then tag b else if (Value.slice ba ds.length bc).ownBlock = some b then tb else if b = gg then tn else tg := ⟨_, rfl⟩
  have old2 : ∀ b, b < w.heap.size → tag2 b = tag b := fun b hb => by rw [ht2]; simp [hb]
  have oldt : ∀ b, b < w.heap.size → tag' b = tag b := fun b hb => by rw [hold b (by omega)]; exact tagTo_old _ _ _ _ hb
  have np : (Value.slice oa q.length oc).ownBlock ≠ some g := own_ne_block x1 hg (by decide)
  have OG : Only (fun b => b = g ∨ (Value.slice oa q.length oc).ownBlock = some b) wc (w5.setCell ⟨g, 1, none⟩ (.slice (some ⟨gg, 0, none⟩) (q.length + 1) cap)) := ((Only.of_bl ((Bl.refl wc).alloc _)).trans ((Only.of_grown hgrow).mono fun k _ e => .inr e.symm)).setCell ⟨g, 1, none⟩ (.inl (.inl rfl)) _
  have hT : ∀ b, (b = g ∨ (Value.slice oa q.length oc).ownBlock = some b) → tag' b = tn := fun b e => by
    rcases e with rfl | e
    · rw [oldt _ lg0]; exact tgg
    · exact x2 b e
  have hg5 : w5.heap[g]? = some (.cells #[.iface 228 (.agg #[.pointer (some ⟨p, 0, none⟩)]), .slice oa q.length oc] 124 (0, 0)) := by
    rw [hgrow.block g (by simp; omega) (fun e => np e.symm), ((Bl.refl wc).alloc _).heap lgc]; exact hg
  refine ⟨tag2, old2, hM, hE, hsz, ⟨p, _, heap_setCell_same w5 g 1 _ 124 _ hg5, by rw [old2 g lg0]; exact tgg, ?_, ?_⟩, ?_⟩
  · have hk2 : Kt wc tag2 tg p a b c d ch rs' S' := hk.retag fun b hb e => by
      by_cases hlt : b < w.heap.size
      · rw [old2 b hlt, ← oldt b hlt]; exact e
      · rw [ht2]
        simp only
        rw [if_neg hlt, if_neg (fun h1 => by rw [ht4 b h1] at e; omega), if_neg]
        intro h1
        subst h1
        rcases hat with h2 | h2
        · exact hlt (x0 _ h2)
        · omega
    refine hk2.only OG (fun b _ e => ?_) (fun _ _ => rfl)
    have hb : b < w.heap.size := by
      rcases e with rfl | e
      · exact lg0
      · exact x0 b e
    rw [old2 b hb, ← oldt b hb, hT b e]; exact hne
  · have hs5 := OG.size
    have hgg : tag2 gg = tn := by
      rcases hat with h2 | h2
      · rw [old2 gg (x0 _ h2), ← oldt gg (x0 _ h2)]; exact x2 _ h2
      · rw [ht2]; dsimp only; rw [if_neg (by omega), if_neg (fun e => by have := (ho.lt gg e).2; omega), if_pos rfl]
    have hds : ∀ b, (Value.slice ba ds.length bc).ownBlock = some b → tag2 b = tb := fun b hb => by
      have h1 := (ho.lt b hb).1
      rw [ht2]; dsimp only; rw [if_neg (by omega), if_pos hb]
    have hkeep : ∀ {n : Nat} {v : Value} {ys : List Value}, wc.ownsRow 0 5 1 v n ys → (w5.setCell ⟨g, 1, none⟩ (.slice (some ⟨gg, 0, none⟩) (q.length + 1) cap)).ownsRow 0 5 1 v n ys := fun hv => OG.owns hv fun b hb e => by
      rcases e with rfl | e
      · exact own_ne_block hv hg (by decide) hb
      · exact ownsRow_type hv x1 (by decide) b hb e
    have hxl : xs.length = 2 * q.length := by have := x1.1; omega
    refine ⟨xs ++ [.int .i64 fr, .slice ba ds.length bc], ⟨?_, fun b hb => ?_, fun i hi => ?_⟩, fun i j u v b hij hu hv hub => ?_⟩
    · rw [List.length_append]
      exact ownsRow_of hown fun b hb' => Below.heap_setCell _ _ _ _ (fun e => own_ne_block hown hg5 (by decide) (by rw [hb', e]))
    · have hb' : gg = b := by simpa [Value.ownBlock] using hb
      rw [← hb']; exact hgg
    · by_cases hlt : i < q.length
      · obtain ⟨k1, v, k2, k3, k4⟩ := x3 i hlt
        simp only [List.getElem_append_left hlt]
        refine ⟨by rw [List.getElem?_append_left (by omega)]; exact k1, v, by rw [List.getElem?_append_left (by omega)]; exact k2, hkeep k3, fun b hb => ?_⟩
        have hlw := x4 i hlt v k2 b hb
        rw [old2 b hlw, ← oldt b hlw]; exact k4 b hb
      · have hi' : i = q.length := by rw [List.length_append] at hi; simp at hi; omega
        subst hi'
        rw [List.getElem_append_right (Nat.le_refl _)]
        simp only [Nat.sub_self, List.getElem_cons_zero]
        refine ⟨by rw [List.getElem?_append_right (by omega), hxl]; simp, _, by rw [List.getElem?_append_right (by omega), hxl]; simp, hkeep (ownsRow_base ho fun _ _ => Nat.zero_le _), hds⟩
    · have hjl : 2 * j + 1 < (xs ++ [Value.int .i64 fr, Value.slice ba ds.length bc]).length := (List.getElem?_eq_some_iff.1 hv).1
      simp [hxl] at hjl
      have hil : i < q.length := by omega
      rw [List.getElem?_append_left (by omega)] at hu
      by_cases hlt : j < q.length
      · rw [List.getElem?_append_left (by omega)] at hv
        exact xap i j u v b hij hu hv hub
      · have hj : j = q.length := by omega
        subst hj
        rw [List.getElem?_append_right (by omega), hxl] at hv
        simp at hv
        subst hv
        intro e
        have h1 := x4 i hil u hu b hub
        have h2 := (ho.lt b e).1
        omega
  · have s5 := OG.size
    refine ⟨OG.os.trans (O.os.trans bW.os), OG.tape.trans (O.tape.trans bW.tape), OG.output.trans (O.output.trans bW.output), by omega, fun i hi hn => ?_⟩
    rw [OG.block i (by omega) fun e => hn (.inr (by rw [← oldt i hi]; exact hT i e)), O.block i (by omega) fun e => hn (.inl (by rw [tagTo_old _ _ _ _ hi] at e; exact e)), bW.heap hi]
set_option maxRecDepth 100000 in
set_option maxHeartbeats 4000000 in
theorem receive_any (w : World) (tag : Nat → Nat) (tg tn tb g : Nat) (a b c d ch : Int) (rs : List Rc) (S : Nat → St) (q : List (Int × List Int)) (hN : Nd w tag tg tn tb g a b c d ch rs S q) (htg : 10 ≤ tg) (hne : tn ≠ tg) (hne2 : tb ≠ tg) (hql : q.length ≤ 1000) (v : Value) (fr kd nr e x ck cl ca : Int) (val : List Int) (h0 : 1000 ≤ fr) (h1 : fr ≤ 1099) (hv : Pkt w v (recB kd [nr, e, x, ck, cl, ca] val)) (ok : Rc.Ok reqShs ⟨kd, [nr, e, x, ck, cl, ca], val⟩)
    (hkd : kd = 1 ∨ kd = 2 ∨ kd = 3 ∨ kd = 4) (hys : Byt val) (hc : kd = 2 → isC ck val.length = true) (hl : (flat rs).length ≤ 30000000) (R : An × St) (hR : R = ansA a b c d ch (S rs.length) kd e x ck cl ca val) (hRl : R.1.ct.val.length ≤ 255) :
    Calls Tryz.prog 159 #[.pointer (some ⟨g, 0, none⟩), .int .i64 fr, v] w fun en w' => en = .returned (.tuple #[]) ∧ ∃ rs' S' tag', (∀ b, b < w.heap.size → tag' b = tag b) ∧ MoreK rs S rs' S' ∧ S' rs'.length = R.2 ∧ (flat rs').length ≤ (flat rs).length + 60 ∧ Nd w' tag' tg tn tb g a b c d ch rs' S' (q ++ [(fr, recB 101 [nr, R.1.wh, R.1.ep, R.1.mark, R.1.ct.kd, R.1.ct.cl, R.1.ct.ca] R.1.ct.val)]) ∧ Only (fun b => tag b = tg ∨ tag b = tn) w w' := by
  obtain ⟨p, ov, hg, tgg, hkt, hoq⟩ := hN
  have wf := ok.wf
  have HR := hid (readRequest_yes v kd nr e x ck cl ca val w hv ok)
  have HG := hid hg
  have Hk := hid hkt
  have Hq := hid hoq
  have Hys := hid hys
  have Hc := hid hc
  have HRR := hid hR
  have Hwf := hid wf
  clear hv ok hg hkt hoq hys hc hR wf
  go_enter Tryz.func159, Tryz.ntmps159
  go_wp2_with fail
  refine HR.out.mono ?_
  rintro en w1 ⟨va, vc, rfl, hb1, ho1⟩
  have hg1 := (hb1.heap (Array.getElem?_eq_some_iff.1 HG.out).1).trans HG.out
  obtain ⟨W, hW⟩ : ∃ W, w1.alloc (.cells #[.int .i64 kd, .int .i64 nr, .int .i64 e, .int .i64 x, .int .i64 ck, .int .i64 cl, .int .i64 ca, .slice va val.length vc] 100) = W := ⟨_, rfl⟩
  have bX := (Bl.refl w1).alloc (.cells #[.int .i64 kd, .int .i64 nr, .int .i64 e, .int .i64 x, .int .i64 ck, .int .i64 cl, .int .i64 ca, .slice va val.length vc] 100)
  have hg2 := (bX.heap (Array.getElem?_eq_some_iff.1 hg1).1).trans hg1
  have hq2 := heap_alloc_new w1 (.cells #[.int .i64 kd, .int .i64 nr, .int .i64 e, .int .i64 x, .int .i64 ck, .int .i64 cl, .int .i64 ca, .slice va val.length vc] 100)
  rw [hW] at bX hg2 hq2
  have bW := hb1.trans bX
  have c0 : W.cell? ⟨g, 0, none⟩ = some (.iface 228 (.agg #[.pointer (some ⟨p, 0, none⟩)])) := cell_of_row W g 0 _ 124 (0, 0) hg2
  obtain ⟨⟨q0, q1, q2, q3, q4, q5, q6, q7⟩, _, lq⟩ := row8 hq2
  have lg := (Array.getElem?_eq_some_iff.1 hg2).1
  have HV := hid (ownsRow_base (base' := w.heap.size) ((Only.of_bl (S := fun _ => False) bX).owns ho1 fun _ _ e => e) fun b hb => (ho1.lt b hb).1)
  have HA : Hid (∀ W', Bl W W' → _) := fun W' hW' => answer_any (w := W') (tag := tagTo tag w.heap.size 5) (tg := tg) (p := p) (Hk.out.only (Only.of_bl (S := fun _ => False) (bW.trans hW')) (fun _ _ e => e.elim) (fun g hg => tagTo_old _ _ _ _ hg)) (by omega) kd nr e x ck cl ca hkd va vc val (Hwf.out e (by simp)) (Hwf.out x (by simp)) (Hwf.out ck (by simp)) (Hwf.out cl (by simp)) (Hwf.out ca (by simp)) ((own_bs HV.out).bl hW') (fun b hb => ⟨Nat.lt_of_lt_of_le (HV.out.lt b hb).2 hW'.lt, by rw [tagTo_new _ _ _ _ (HV.out.lt b hb).1]; omega⟩) Hys.out Hc.out hl R HRR.out hRl
  have HWW := hid hW
  have HG2 := hid hg2
  have HQ2 := hid hq2
  have HBW := hid bW
  have lw1 : w.heap.size ≤ w1.heap.size := hb1.lt
  have lg0 : g < w.heap.size := (Array.getElem?_eq_some_iff.1 HG.out).1
  clear HR hW hq2 hg2 hg1 hb1 ho1 bX bW HRR Hys Hc Hwf
  go_upto_region 2 with fail
  rw [HWW.out]
  clear HWW
  generalize w1.heap.size = gq at *
  have hmeth := fun W => meth_answer W p
  go_cut [8, 9] from 25 to 33 (fun y z wx => ∃ ba bc rs' S' tag', y = .slice ba (recB 101 [nr, R.1.wh, R.1.ep, R.1.mark, R.1.ct.kd, R.1.ct.cl, R.1.ct.ca] R.1.ct.val).length bc ∧ z = .bool true ∧ Hid (wx.ownsRow W.heap.size 5 1 (.slice ba (recB 101 [nr, R.1.wh, R.1.ep, R.1.mark, R.1.ct.kd, R.1.ct.cl, R.1.ct.ca] R.1.ct.val).length bc) (recB 101 [nr, R.1.wh, R.1.ep, R.1.mark, R.1.ct.kd, R.1.ct.cl, R.1.ct.ca] R.1.ct.val).length ((recB 101 [nr, R.1.wh, R.1.ep, R.1.mark, R.1.ct.kd, R.1.ct.cl, R.1.ct.ca] R.1.ct.val).map B8)) ∧ Hid (∀ b, (Value.slice ba (recB 101 [nr, R.1.wh, R.1.ep, R.1.mark, R.1.ct.kd, R.1.ct.cl, R.1.ct.ca] R.1.ct.val).length bc).ownBlock = some b → tag' b = 4) ∧ Hid (∀ b, b < W.heap.size → tag' b = tagTo tag w.heap.size 5 b) ∧ Hid (MoreK rs S rs' S' ∧ S' rs'.length = R.2 ∧ (flat rs').length ≤ (flat rs).length + 60) ∧ Hid (Kt wx tag' tg p a b c d ch rs' S') ∧ Hid (Only (fun b => tagTo tag w.heap.size 5 b = tg) W wx))
  case first =>
    go_region_held3 (fun W => W.cell? ⟨g, 0, none⟩ = some (.iface 228 (.agg #[.pointer (some ⟨p, 0, none⟩)])) ∧ W.cell? ⟨gq, 0, none⟩ = some (.int .i64 kd) ∧ W.cell? ⟨gq, 1, none⟩ = some (.int .i64 nr) ∧ W.cell? ⟨gq, 2, none⟩ = some (.int .i64 e) ∧ W.cell? ⟨gq, 3, none⟩ = some (.int .i64 x) ∧ W.cell? ⟨gq, 4, none⟩ = some (.int .i64 ck) ∧ W.cell? ⟨gq, 5, none⟩ = some (.int .i64 cl) ∧ W.cell? ⟨gq, 6, none⟩ = some (.int .i64 ca) ∧ W.cell? ⟨gq, 7, none⟩ = some (.slice va val.length vc)) (go_keep)
      (first | (go_at_call 328; refine (HA.out _ ?hb).mono ?_; (case hb => first | exact (Bl.refl _).drewN _ | exact (Bl.refl _).drew | exact Bl.refl _); rintro en w2 ⟨ba, bc, rs', S', tag', rfl, ho, ht4, hold, hM, hE, hsz, hkt, O⟩; have e1 := (O.block g lg (by rw [tagTo_old _ _ _ _ lg0, tgg]; exact hne)).trans HG2.out; have e2 := (O.block gq lq (by rw [tagTo_new _ _ _ _ lw1]; omega)).trans HQ2.out; have zg := (cell_of_row w2 _ 0 _ 124 (0, 0) e1); simp at zg; have z0 := (cell_of_row w2 _ 0 _ 100 (0, 0) e2); simp at z0; have z1 := (cell_of_row w2 _ 1 _ 100 (0, 0) e2); simp at z1; have z2 := (cell_of_row w2 _ 2 _ 100 (0, 0) e2); simp at z2; have z3 := (cell_of_row w2 _ 3 _ 100 (0, 0) e2); simp at z3; have z4 := (cell_of_row w2 _ 4 _ 100 (0, 0) e2); simp at z4; have z5 := (cell_of_row w2 _ 5 _ 100 (0, 0) e2); simp at z5; have z6 := (cell_of_row w2 _ 6 _ 100 (0, 0) e2); simp at z6; have z7 := (cell_of_row w2 _ 7 _ 100 (0, 0) e2); simp at z7; have lg2 := (Array.getElem?_eq_some_iff.1 e1).1; have lq2 := (Array.getElem?_eq_some_iff.1 e2).1; have HP := hid (And.intro ho (And.intro ht4 (And.intro hold (And.intro hM (And.intro hE (And.intro hsz (And.intro hkt O))))))); clear ho ht4 hold hM hE hsz hkt O e1 e2))
    all_goals (go_wp2_with fail; go_meet)
    all_goals exact ⟨ba, bc, rs', S', tag', rfl, rfl, HP.out.1, HP.out.2.1, HP.out.2.2.1, ⟨HP.out.2.2.2.1, HP.out.2.2.2.2.1, HP.out.2.2.2.2.2.1⟩, HP.out.2.2.2.2.2.2.1, by first | exact HP.out.2.2.2.2.2.2.2 | exact (Only.of_bl ((Bl.refl _).drew)).trans HP.out.2.2.2.2.2.2.2 | exact (Only.of_bl ((Bl.refl _).drewN _)).trans HP.out.2.2.2.2.2.2.2⟩
  case rest =>
    obtain ⟨ba, bc, rs', S', tag', rfl, rfl, Ho, Ht4, Hold, HM, Hk', HO⟩ := hcut
    obtain ⟨i174, j174, t0, t1, t2⟩ := info_parts Tryz.info174
    have hg3 := (HO.out.block g lg (by rw [tagTo_old _ _ _ _ lg0, tgg]; exact hne)).trans HG2.out
    have lW := HBW.out.lt
    obtain ⟨xs, hxq, hxap⟩ := Hq.out
    have HXA := hid hxap
    clear hxap
    have HX0 := hid hxq.low
    have hoq3 : OqX wc tag' tn tb ov q xs := (hxq.only (tag' := tagTo tag w.heap.size 5) (Only.of_bl (S := fun _ => False) HBW.out) (fun _ _ e => e.elim) (fun b hb => tagTo_old _ _ _ _ hb)).only HO.out (fun b _ e => by rw [e]; exact ⟨Ne.symm hne, Ne.symm hne2⟩) Hold.out
    obtain ⟨x1, x2, x3⟩ := hoq3
    clear hxq
    obtain ⟨oa, oc, hov⟩ : ∃ oa oc, ov = .slice oa q.length oc := by
      rcases x1.2 with ⟨e, e'⟩ | ⟨g, cap, cur, e, _⟩
      · exact ⟨_, _, by rw [e, e']⟩
      · exact ⟨_, _, e⟩
    subst hov
    have c1 : wc.cell? ⟨g, 1, none⟩ = some (.slice oa q.length oc) := cell_of_row wc g 1 _ 124 (0, 0) hg3
    have f1 := frozen_of_row wc g 1 _ 124 hg3
    have lg3 := (Array.getElem?_eq_some_iff.1 hg3).1
    have ng : Hid ((Value.slice oa q.length oc).ownBlock ≠ some g) := own_ne_block x1 hg3 (by decide)
    have X1 := hid x1
    have X23 := hid (And.intro x2 x3)
    have HG3 := hid hg3
    have hmx : Hid (q.length + 1 ≤ maxLen) := by unfold Hid maxLen; omega
    have hby : Hid ((q.length + 1) * 32 ≤ 140737488355328) := by unfold Hid; omega
    clear x1 x2 x3 hg3 HA c0 q0 q1 q2 q3 q4 q5 q6 q7 HQ2 HG2 HV Hq
    go_wp2_with (at_builtin; refine wpList_append_lies _ rfl _ _ 120 rfl 0 174 i174 _ 2 32 Tryz.underlying120 j174 t0 t1 t2 rfl (by decide) _ q.length _ rfl (X1.out.alloc _) ⟨wc.heap.size, 0, none⟩ 1 1 [.int .i64 fr, .slice ba (recB 101 [nr, R.1.wh, R.1.ep, R.1.mark, R.1.ct.kd, R.1.ct.cl, R.1.ct.ca] R.1.ct.val).length bc] rfl rfl (World.news_of_block (cs := #[.int .i64 fr, .slice ba (recB 101 [nr, R.1.wh, R.1.ep, R.1.mark, R.1.ct.kd, R.1.ct.cl, R.1.ct.ca] R.1.ct.val).length bc]) (t := 174) (fr := (0, 0)) (heap_alloc_new wc _)) (by simp [Value.oneCell']) (by decide) hmx.out hby.out (by simp) (wc.heap.size + 1) (by simp) ?_)
    intro gg cap w5 hown5 hgrow5 hat5 hlt5
    have k1 := (far ((Bl.refl wc).alloc _) hgrow5 (o := 1) lg3 ng.out).1.trans c1
    have kf := (far ((Bl.refl wc).alloc _) hgrow5 (o := 1) lg3 ng.out).2.trans f1
    have lg5 : g < w5.heap.size := by have := hgrow5.size; simp at this; omega
    have HX := hid (And.intro hown5 (And.intro hgrow5 (And.intro hat5 hlt5)))
    clear hown5 hgrow5 hat5 hlt5 c1 f1
    go_wp2
    go_end0
    obtain ⟨hown5, hgrow5, hat5, hlt5⟩ := HX.out
    refine ⟨rfl, rs', S', ?_⟩
    exact recv_end hne htg lg0 tgg HBW.out Ho.out Ht4.out Hold.out HM.out.1 HM.out.2.1 HM.out.2.2 Hk'.out HO.out HG3.out X1.out X23.out.1 X23.out.2 HXA.out HX0.out.1 HX0.out.2 hown5 hgrow5 hat5
end Go.Proofs.YtnhjmiglegdamaaGreat

namespace Go.Proofs.YtnhjmiglegdamaaGreat
open Go.RowKit Go.Maps
attribute [local go_sem ↓] Go.wp_at_zero Go.wp_at_succ

theorem meth_image (w : World) (p : Nat) : (method 498 228 (Value.agg #[Value.pointer (some { block := p, off := 0 })]) "Image").run Tryz.prog w = .ok (167, Value.pointer (some { block := p, off := 0 })) w := by kernel_rfl
theorem Nd.lt {w : World} {tag : Nat → Nat} {tg tn tb g : Nat} {a b c d ch : Int} {rs : List Rc} {S : Nat → St} {q : List (Int × List Int)} (h : Nd w tag tg tn tb g a b c d ch rs S q) : g < w.heap.size ∧ tag g = tn := by
  obtain ⟨p, ov, hg, ht, _⟩ := h
  exact ⟨(Array.getElem?_eq_some_iff.1 hg).1, ht⟩
theorem Nd.only {T : Nat → Prop} {w w' : World} {tag tag' : Nat → Nat} {tg tn tb g : Nat} {a b c d ch : Int} {rs : List Rc} {S : Nat → St} {q : List (Int × List Int)} (h : Nd w tag tg tn tb g a b c d ch rs S q) (ho : Only T w w') (hs : ∀ b, b < w.heap.size → T b → tag b ≠ tg ∧ tag b ≠ tn ∧ tag b ≠ tb) (ht : ∀ b, b < w.heap.size → tag' b = tag b) : Nd w' tag' tg tn tb g a b c d ch rs S q := by
  obtain ⟨p, ov, hg, htg, hk, xs, hq, hap⟩ := h
  have lg := (Array.getElem?_eq_some_iff.1 hg).1
  exact ⟨p, ov, (ho.block g lg fun e => (hs g lg e).2.1 htg).trans hg, by rw [ht g lg]; exact htg, hk.only ho (fun b hb e => (hs b hb e).1) ht, xs, hq.only ho (fun b hb e => (hs b hb e).2) ht, hap⟩

set_option maxRecDepth 100000 in
set_option maxHeartbeats 2000000 in
theorem nodeImage_any (w : World) (tag : Nat → Nat) (tg tn tb g : Nat) (a b c d ch : Int) (rs : List Rc) (S : Nat → St) (q : List (Int × List Int)) (hN : Nd w tag tg tn tb g a b c d ch rs S q) (hl : (flat rs).length ≤ 30000000) :
    Calls Tryz.prog 102 #[.pointer (some ⟨g, 0, none⟩)] w fun en w' => ∃ ia ic, en = .returned (.slice ia (flat rs).length ic) ∧ Bl w w' ∧ w'.ownsRow w.heap.size 5 1 (.slice ia (flat rs).length ic) (flat rs).length ((flat rs).map B8) := by
  obtain ⟨p, ov, hg, _, hk, _⟩ := hN
  have HI := hid (kt_image hk hl)
  have c0 : w.cell? ⟨g, 0, none⟩ = some (.iface 228 (.agg #[.pointer (some ⟨p, 0, none⟩)])) := cell_of_row w g 0 _ 124 (0, 0) hg
  have lg := (Array.getElem?_eq_some_iff.1 hg).1
  have hm := fun W => meth_image W p
  clear hk hg
  go_enter Tryz.func102, Tryz.ntmps102
  go_wp2_with fail
  refine HI.out.mono ?_
  rintro en w' ⟨v, rfl, hb, ho⟩
  obtain ⟨ia, ic, rfl⟩ := owned_slice ho
  have HB := hid hb
  have HO := hid ho
  clear HI hb ho
  go_wp2
  go_ret
  exact ⟨ia, ic, rfl, HB.out, HO.out⟩
set_option maxRecDepth 100000 in
set_option maxHeartbeats 2000000 in
theorem fnodeImage_any (w : World) (tag : Nat → Nat) (tg tn tb g : Nat) (a b c d ch : Int) (rs : List Rc) (S : Nat → St) (q : List (Int × List Int)) (hN : Nd w tag tg tn tb g a b c d ch rs S q) (hl : (flat rs).length ≤ 30000000) :
    Calls Tryz.prog 70 #[.pointer (some ⟨g, 0, none⟩)] w fun en w' => ∃ ia ic, en = .returned (.slice ia (flat rs).length ic) ∧ Bl w w' ∧ w'.ownsRow w.heap.size 5 1 (.slice ia (flat rs).length ic) (flat rs).length ((flat rs).map B8) := by
  have HI := hid (nodeImage_any w tag tg tn tb g a b c d ch rs S q hN hl)
  have lg := hN.lt.1
  clear hN
  go_enter Tryz.func70, Tryz.ntmps70
  go_wp2_with fail
  refine HI.out.mono ?_
  rintro en w' ⟨ia, ic, rfl, hb, ho⟩
  have HB := hid hb
  have HO := hid ho
  clear HI hb ho
  go_wp2
  go_ret
  exact ⟨ia, ic, rfl, HB.out, HO.out⟩
set_option maxRecDepth 100000 in
set_option maxHeartbeats 2000000 in
/-- A call that gives nothing back goes through as it is. -/
theorem fnodeReceive_w (w : World) (g : Nat) (fr : Int) (v : Value) (Q : World → Prop) (h : Calls Tryz.prog 159 #[.pointer (some ⟨g, 0, none⟩), .int .i64 fr, v] w fun en w' => en = .returned (.tuple #[]) ∧ Q w') :
    Calls Tryz.prog 100 #[.pointer (some ⟨g, 0, none⟩), .int .i64 fr, v] w fun en w' => en = .returned (.tuple #[]) ∧ Q w' := by
  have H := hid h
  clear h
  go_enter Tryz.func100, Tryz.ntmps100
  go_wp2_with fail
  refine H.out.mono ?_
  rintro en w' ⟨rfl, hq⟩
  have HQ := hid hq
  clear H hq
  go_wp2
  go_end0
  exact ⟨rfl, HQ.out⟩
end Go.Proofs.YtnhjmiglegdamaaGreat

namespace Go.Proofs.YtnhjmiglegdamaaGreat
open Go.RowKit Go.Maps
attribute [local go_sem ↓] Go.wp_at_zero Go.wp_at_succ

theorem wpList_append_row {P : Program} (w : World) {ops : Array Oper} {rest : List Oper} {o : Oper} {a : Act} {Q : Exit → Act → World → Prop}
    (hg : o.guard = none) (s y : Operand) (t : TypeId) (hop : o.op = Op.call { callee := Callee.builtin Builtin.append, args := #[s, y], argTypes := #[t, t] })
    (base : Nat) (e : TypeId) (i : TypeInfo) (z : Value) (size bytes : Nat) (h1 : P.underlying t = some (.slice e)) (h2 : P.info? e = some i) (h3 : i.zero = some z) (h4 : i.size = size) (h5 : i.bytes = bytes) (h6 : z.cells.size = size) (h7 : 0 < size)
    (v : Value) (n : Nat) (xs : List Value) (hs : a.eval s = v) (hown : w.ownsRow base e size v n xs) (u : Value) (m b0 : Nat) (news : List Value) (hu : a.eval y = u) (hy : w.ownsRow b0 e size u m news) (h1c : ∀ q ∈ news, q.oneCell' = true)
    (b1 : n + m ≤ maxLen) (b2 : (n + m) * bytes ≤ 140737488355328) (hb : base ≤ w.heap.size)
    (hK : ∀ v' w', w'.ownsRow base e size v' (n + m) (xs ++ news) → Only (fun b => v.ownBlock = some b) w w' → (∀ b, v'.ownBlock = some b → v.ownBlock = some b ∨ w.heap.size ≤ b) → wpList P ops Q rest (a.put o.dst v') w') :
    wpList P ops Q (o :: rest) a w := by
  rcases hy.2 with ⟨hu0, hm0⟩ | ⟨g, cap, cur, hu1, _⟩
  · have hl := hy.1
    subst hm0
    obtain rfl : news = [] := List.length_eq_zero_iff.1 (by omega)
    refine wpList_append_own_none hg s y t hop base e i size h1 h2 v n xs hs hown (hu.trans hu0) ?_
    exact hK v w (by simpa using hown) (Only.refl _ _) (fun b hb => .inl hb)
  · refine wpList_append_own_at w hg s y t hop base e i z size bytes h1 h2 h3 h4 h5 h6 h7 v n xs hs hown ⟨g, 0, none⟩ m cap news (hu.trans hu1) hy.1 (fun j x hj => ?_) h1c b1 b2 hb ?_
    · rw [add_eq, Nat.zero_add]
      subst hu1
      rw [hy.cellAt j (by have := (List.getElem?_eq_some_iff.1 hj).1; have := hy.1; omega)]
      exact hj
    · intro v' w' r1 r2 _ r4
      refine hK v' w' r1 ((Only.of_grown r2).mono fun k _ e => e.symm) fun b hb' => ?_
      rcases r4 with r4 | r4
      · exact .inl (by rw [← r4]; exact hb')
      · rw [hb'] at r4; simp at r4; exact .inr (by omega)

theorem Tryz.nil120 (w : World) (a : Option Addr) (n c n' c' : Nat) : (binOp .eql 120 (.slice a n c) (.slice none n' c')).run Tryz.prog w = .ok (.bool a.isNone) w := Lib.run_eql_slice_nil w _ _ a n c n' c' Tryz.underlying120
theorem OqX.one {w : World} {tag : Nat → Nat} {tg tb : Nat} {ov : Value} {q : List (Int × List Int)} {xs : List Value} (h : OqX w tag tg tb ov q xs) : ∀ u ∈ xs, u.oneCell' = true := by
  obtain ⟨h1, h2, h3⟩ := h
  intro u hu
  obtain ⟨i, hi, rfl⟩ := List.mem_iff_getElem.1 hu
  have hl : xs.length = q.length * 2 := h1.1
  obtain ⟨k1, v, k2, k3, _⟩ := h3 (i / 2) (by omega)
  have hg := List.getElem?_eq_getElem hi
  rcases (by omega : i = 2 * (i / 2) ∨ i = 2 * (i / 2) + 1) with e | e
  · rw [← e, hg] at k1; simp at k1; rw [k1]; rfl
  · rw [← e, hg] at k2; simp at k2; rw [k2]; exact owns_oneCell k3

set_option maxRecDepth 100000 in
set_option maxHeartbeats 2000000 in
theorem clonePkt_any (w : World) (base n : Nat) (v : Value) (xs : List Value) (h : w.ownsRow base 174 2 v n xs) (h1c : ∀ u ∈ xs, u.oneCell' = true) (hn : n ≤ 1000000) :
    Calls Tryz.prog 205 #[v] w fun en w' => ∃ ga gc, en = .returned (.slice ga n gc) ∧ Bl w w' ∧ w'.ownsRow w.heap.size 174 2 (.slice ga n gc) n xs := by
  obtain ⟨i174, j174, t0, t1, t2⟩ := info_parts Tryz.info174
  rcases h.2 with ⟨rfl, rfl⟩ | ⟨g, cap, cur, rfl, _⟩
  · obtain rfl : xs = [] := List.length_eq_zero_iff.1 (by have := h.1; omega)
    have hnil := Tryz.nil120
    clear h
    go_enter Tryz.func205, Tryz.ntmps205
    go_wp2
    go_ret
    exact ⟨none, 0, rfl, Bl.refl _, World.ownsRow_nil _ _ _ _⟩
  · have hnil := Tryz.nil120
    have bA := (Bl.refl w).alloc (.cells #[] 174)
    have HY := hid ((Only.of_bl (S := fun _ => False) bA).owns h fun _ _ e => e)
    have HE : Hid ((w.alloc (.cells #[] 174)).ownsRow w.heap.size 174 2 (.slice (some ⟨w.heap.size, 0, none⟩) 0 0) 0 []) := ⟨rfl, .inr ⟨w.heap.size, 0, #[], rfl, Nat.le_refl _, heap_alloc_new w _, Nat.le_refl _, by unfold maxLen; omega, rfl, rfl⟩⟩
    have H1 := hid h1c
    have HB := hid bA
    have hm1 : Hid (0 + n ≤ maxLen) := by unfold Hid maxLen; omega
    have hb1 : Hid ((0 + n) * 32 ≤ 140737488355328) := by unfold Hid; omega
    clear h h1c bA
    go_enter Tryz.func205, Tryz.ntmps205
    go_wp2_with (at_builtin; refine wpList_append_row _ rfl _ _ 120 rfl w.heap.size 174 i174 _ 2 32 Tryz.underlying120 j174 t0 t1 t2 rfl (by decide) _ 0 [] rfl HE.out _ n base _ rfl HY.out H1.out hm1.out hb1.out (by simp) ?_)
    intro v' w1 r1 r2 r3
    have r1' : w1.ownsRow w.heap.size 174 2 v' n xs := by simpa using r1
    have hb2 : Bl w w1 := HB.out.trans_only r2 fun k e => by simp [Value.ownBlock] at e; omega
    obtain ⟨ga, gc, rfl⟩ : ∃ ga gc, v' = .slice ga n gc := by
      rcases r1'.2 with ⟨e, e'⟩ | ⟨g, cap, cur, e, _⟩
      · exact ⟨_, _, by rw [e, e']⟩
      · exact ⟨_, _, e⟩
    have HR := hid r1'
    have HB2 := hid hb2
    clear r1 r1' r2 r3 hb2
    go_wp2
    go_ret
    exact ⟨ga, gc, rfl, HB2.out, HR.out⟩
end Go.Proofs.YtnhjmiglegdamaaGreat

namespace Go.Proofs.YtnhjmiglegdamaaGreat
open Go.RowKit Go.Maps

theorem setCells_block (g : Nat) : ∀ (vs : List Value) (o : Nat) (w : World) (cur : Array Value) (t : TypeId), w.heap[g]? = some (.cells cur t (0, 0)) → ∃ cur', (w.setCells g o vs).heap[g]? = some (.cells cur' t (0, 0)) ∧ cur'.size = cur.size ∧ Only (fun b => b = g) w (w.setCells g o vs)
  | [], _, w, cur, _, h => ⟨cur, h, rfl, Only.refl _ _⟩
  | v :: r, o, w, cur, t, h => by
    have h1 := heap_setCell_same w g o _ t v h
    obtain ⟨cur', k1, k2, k3⟩ := setCells_block g r (o + 1) (w.setCell ⟨g, o, none⟩ v) _ t h1
    exact ⟨cur', k1, by rw [k2]; simp, ((Only.refl (fun b => b = g) w).setCell ⟨g, o, none⟩ (.inl rfl) v).trans k3⟩
theorem clear120 (w : World) (g n c : Nat) (ty : TypeId) (cur : Array Value) (hg : w.heap[g]? = some (.cells cur 174 (0, 0))) (hn : 0 < n) (hs : n * 2 ≤ cur.size) :
    ∃ w', (Builtin.clear_ #[120] ty #[.slice (some ⟨g, 0, none⟩) n c]).run Tryz.prog w = .ok (.tuple #[]) w' ∧ Only (fun b => b = g) w w' ∧ ∃ cur', w'.heap[g]? = some (.cells cur' 174 (0, 0)) ∧ cur'.size = cur.size := by
  obtain ⟨L, hL⟩ : ∃ L, L = (Builtin.zeroCells (Value.agg #[.int .i64 0, .slice none 0 0]).cells n).toList := ⟨_, rfl⟩
  have hlen : L.length = n * 2 := by
    rw [hL]
    simp [Builtin.zeroCells, Value.cells]
  have hone : ∀ v ∈ L, v.oneCell' = true := by
    intro v hv
    rw [hL] at hv
    simp only [Builtin.zeroCells, Value.cells, Array.toList_map, List.mem_map] at hv
    obtain ⟨i, _, rfl⟩ := hv
    have h2 : i % 2 = 0 ∨ i % 2 = 1 := by omega
    rcases h2 with h2 | h2
    · simp [h2, Value.oneCell']
    · simp [h2, Value.oneCell']
  have hst := run_storeCells_cells (P := Tryz.prog) g 0 L 0 w (fun j hj => by
    rw [cell_of_row w g (0 + 0 + j) _ 174 (0, 0) hg, Array.getElem?_eq_getElem (by omega)]; rfl) (fun j _ => frozen_of_row w g (0 + 0 + j) _ 174 hg) hone
  simp only [Nat.add_zero] at hst
  obtain ⟨cur', k1, k2, k3⟩ := setCells_block g L 0 w cur 174 hg
  obtain ⟨m, rfl⟩ : ∃ m, n = m + 1 := ⟨n - 1, by omega⟩
  refine ⟨w.setCells g 0 L, ?_, k3, cur', k1, k2⟩
  simp [Builtin.clear_, run_underlying Tryz.underlying120, ← hL, hst]
end Go.Proofs.YtnhjmiglegdamaaGreat

namespace Go.Proofs.YtnhjmiglegdamaaGreat
open Go.RowKit Go.Maps
attribute [local go_sem ↓] Go.wp_at_zero Go.wp_at_succ
set_option maxRecDepth 100000 in
set_option maxHeartbeats 2000000 in
theorem deletePkt_any (w : World) (n : Nat) (v : Value) (xs : List Value) (h : w.ownsRow 0 174 2 v n xs) (hn : n ≤ 1000000) :
    Calls Tryz.prog 206 #[v, .int .i64 0, .int .i64 n] w fun en w' => ∃ v', en = .returned v' ∧ w'.ownsRow 0 174 2 v' 0 [] ∧ (∀ b, v'.ownBlock = some b → v.ownBlock = some b) ∧ Only (fun b => v.ownBlock = some b) w w' := by
  rcases h.2 with ⟨rfl, rfl⟩ | ⟨g, cap, cur, rfl, hb, hg, hc, hm, hsz, htk⟩
  · have H := hid h
    clear h
    go_enter Tryz.func206, Tryz.ntmps206
    go_wp2
    go_ret
    exact ⟨_, rfl, World.ownsRow_nil _ _ _ _, fun b e => e, Only.refl _ _⟩
  · by_cases hz : n = 0
    · subst hz
      have hmI : (cap : Int) ≤ 9223372036854775807 := by unfold maxLen at hm; omega
      have HE : Hid (w.ownsRow 0 174 2 (.slice (some ⟨g, 0, none⟩) 0 cap) 0 []) := ⟨rfl, .inr ⟨g, cap, cur, rfl, Nat.zero_le _, hg, Nat.zero_le _, hm, hsz, by simp⟩⟩
      clear h hg hsz htk
      go_enter Tryz.func206, Tryz.ntmps206
      go_wp2
      go_ret
      exact ⟨_, rfl, HE.out, fun b e => e, Only.refl _ _⟩
    · have hmI : (cap : Int) ≤ 9223372036854775807 := by unfold maxLen at hm; omega
      obtain ⟨i174, j174, t0, t1, t2⟩ := info_parts Tryz.info174
      obtain ⟨A, hA⟩ : ∃ A : Addr, (if cap = n then some (⟨g, 0, none⟩ : Addr) else some ⟨g, n * 2, none⟩) = some A := by
        by_cases e : cap = n
        · exact ⟨_, by simp [e]; rfl⟩
        · exact ⟨_, by simp [e]; rfl⟩
      have hncI : (n : Int) ≤ (cap : Int) := by omega
      obtain ⟨w', k1, k2, cur', k3, k4⟩ := clear120 w.drew g n cap 0 cur hg (by omega) (by rw [hsz]; exact Nat.mul_le_mul_right 2 hc)
      have Hsz := hid hsz
      clear h hg hsz htk
      go_enter Tryz.func206, Tryz.ntmps206
      go_wp2
      go_region_law (refine step_append_room rfl (.tmp 22) (.tmp 25) 120 rfl 174 i174 2 Tryz.underlying120 j174 t1 g 0 0 cap (by simp [Act.eval, Act.put]) A 0 (cap - n) [] (by simp [Act.eval, Act.put]) rfl (by simp) (by simp) (by omega) (by simp) ?_)
      have e0 : w.drew.setCells g 0 [] = w.drew := rfl
      rw [e0]
      have K1 := hid k1
      have HE : Hid (w'.ownsRow 0 174 2 (.slice (some ⟨g, 0, none⟩) 0 cap) 0 []) := ⟨rfl, .inr ⟨g, cap, cur', rfl, Nat.zero_le _, k3, Nat.zero_le _, hm, by rw [k4]; exact Hsz.out, by simp⟩⟩
      have HO : Hid (Only (fun b => (Value.slice (some (⟨g, 0, none⟩ : Addr)) n cap).ownBlock = some b) w w') := (Only.of_bl (Bl.refl w).drew).trans (k2.mono fun k _ e => by simp [Value.ownBlock, e])
      clear k1 k2 k3 k4
      go_wp2
      rw [K1.out]
      go_wp2
      go_ret
      exact ⟨_, rfl, HE.out, fun b e => e, HO.out⟩
end Go.Proofs.YtnhjmiglegdamaaGreat

namespace Go.Proofs.YtnhjmiglegdamaaGreat
open Go.RowKit Go.Maps
attribute [local go_sem ↓] Go.wp_at_zero Go.wp_at_succ
set_option maxRecDepth 100000 in
set_option maxHeartbeats 2000000 in
theorem nodeOut_any {w : World} {tag : Nat → Nat} {tg tn tb g : Nat} {a b c d ch : Int} {rs : List Rc} {S : Nat → St} {q : List (Int × List Int)} (hN : Nd w tag tg tn tb g a b c d ch rs S q) (hq : q.length ≤ 200) (h1 : tn ≠ tg) (h2 : tn ≠ tb) (tx : Nat) :
    Calls Tryz.prog 157 #[.pointer (some ⟨g, 0, none⟩)] w fun en w' => ∃ v xs, en = .returned v ∧ w'.ownsRow w.heap.size 174 2 v q.length xs ∧ OqX w' (tagTo tag w.heap.size tx) tx tb v q xs ∧ Apt xs ∧ Nd w' (tagTo tag w.heap.size tx) tg tn tb g a b c d ch rs S [] ∧ Only (fun b => tag b = tn) w w' := by
  obtain ⟨p, ov, hg, tgg, hkt, xs, hoq, hap⟩ := hN
  have HAP := hid hap
  clear hap
  have lg := (Array.getElem?_eq_some_iff.1 hg).1
  have hoq' := hoq
  obtain ⟨x1, x2, x3⟩ := hoq'
  obtain ⟨oa, oc, hov, hle, hoc⟩ : ∃ oa oc, ov = .slice oa q.length oc ∧ q.length ≤ oc ∧ oc ≤ maxLen := by
    rcases x1.2 with ⟨e, e'⟩ | ⟨g, cap, cur, e, _, _, h3, h4, _⟩
    · exact ⟨_, _, by rw [e, e'], by omega, by unfold maxLen; omega⟩
    · exact ⟨_, _, e, h3, h4⟩
  subst hov
  have hcI : (q.length : Int) ≤ (oc : Int) := by omega
  have hmI : (oc : Int) ≤ 9223372036854775807 := by unfold maxLen at hoc; omega
  have hqI : (q.length : Int) ≤ 200 := by omega
  have c1 : w.cell? ⟨g, 1, none⟩ = some (.slice oa q.length oc) := cell_of_row w g 1 _ 124 (0, 0) hg
  have ng : Hid ((Value.slice oa q.length oc).ownBlock ≠ some g) := own_ne_block x1 hg (by decide)
  have HC := hid (clonePkt_any w 0 q.length _ xs x1 hoq.one (by omega))
  have HG := hid hg
  have Hk := hid hkt
  have Hq := hid hoq
  have X1 := hid x1
  have X2 := hid x2
  clear hg hkt hoq x1 x2 x3
  go_enter Tryz.func157, Tryz.ntmps157
  go_wp2_with (first | (go_at_call 205; refine HC.out.mono ?_; rintro en w1 ⟨ga, gc, rfl, hb1, ho1⟩; have hg1 := (hb1.heap lg).trans HG.out; have d1 : w1.cell? ⟨g, 1, none⟩ = some (.slice oa q.length oc) := cell_of_row w1 g 1 _ 124 (0, 0) hg1; have HD := hid (deletePkt_any w1 q.length _ xs ((Only.of_bl (S := fun _ => False) hb1).owns X1.out fun _ _ e => e) (by omega)); have HB := hid hb1; have HO1 := hid ho1; have HG1 := hid hg1; have lg1 := (Array.getElem?_eq_some_iff.1 hg1).1; clear HC hb1 ho1 hg1 c1) | (go_at_call 206; refine HD.out.mono ?_; rintro en w2 ⟨v', rfl, k1, k2, k3⟩; have hg2 := (k3.block g lg1 ng.out).trans HG1.out; have e1 : w2.cell? ⟨g, 1, none⟩ = some (.slice oa q.length oc) := cell_of_row w2 g 1 _ 124 (0, 0) hg2; have f1 := frozen_of_row w2 g 1 _ 124 hg2; obtain ⟨oa', oc', hov'⟩ : ∃ oa' oc', v' = .slice oa' 0 oc' := (by rcases k1.2 with ⟨e, e'⟩ | ⟨g, cap, cur, e, _⟩ <;> exact ⟨_, _, e⟩); subst hov'; have HK := hid (And.intro k1 (And.intro k2 k3)); have HG2 := hid hg2; clear HD k1 k2 k3 hg2 d1))
  go_ret
  obtain ⟨k1, k2, k3⟩ := HK.out
  have OA : Only (fun b => (Value.slice oa q.length oc).ownBlock = some b ∨ b = g) w1 (w2.setCell ⟨g, 1, none⟩ (.slice oa' 0 oc')) := (k3.mono fun b _ e => .inl e).setCell ⟨g, 1, none⟩ (.inl (.inr rfl)) _
  have OW : Only (fun b => tag b = tn) w (w2.setCell ⟨g, 1, none⟩ (.slice oa' 0 oc')) := (Only.of_bl HB.out).trans (OA.mono fun b _ e => by
    rcases e with e | rfl
    · exact X2.out b e
    · exact tgg)
  have O2 : Only (fun b => b = g) w2 (w2.setCell ⟨g, 1, none⟩ (.slice oa' 0 oc')) := (Only.refl (fun b => b = g) w2).setCell ⟨g, 1, none⟩ (.inl rfl) _
  have hv := OA.owns HO1.out fun b hb e => by
    have l1 := (HO1.out.lt b hb).1
    rcases e with e | rfl
    · have := (X1.out.lt b e).2; omega
    · omega
  obtain ⟨x1, x2, x3⟩ := Hq.out
  refine ⟨_, xs, rfl, hv, ⟨ownsRow_base hv fun b _ => Nat.zero_le _, fun b hb => tagTo_new _ _ _ _ (hv.lt b hb).1, fun i hi => ?_⟩, HAP.out, ⟨p, _, heap_setCell_same w2 g 1 _ 124 _ HG2.out, by rw [tagTo_old _ _ _ _ lg]; exact tgg, Hk.out.only OW (fun b _ e => by rw [e]; exact h1) (fun b hb => tagTo_old _ _ _ _ hb), [], ⟨O2.owns k1 (fun b hb e => by subst e; exact ng.out (k2 _ hb)), fun b hb => ?_, fun i hi => by simp at hi⟩, fun i j u v b _ h => by simp at h⟩, OW⟩
  · obtain ⟨y1, v, y2, y3, y4⟩ := x3 i hi
    exact ⟨y1, v, y2, OW.owns y3 (fun b hb e => h2 (e.symm.trans (y4 b hb))), fun b hb => by rw [tagTo_old _ _ _ _ (y3.lt b hb).2]; exact y4 b hb⟩
  · rw [tagTo_old _ _ _ _ (x1.lt b (k2 b hb)).2]; exact x2 b (k2 b hb)

set_option maxRecDepth 100000 in
set_option maxHeartbeats 2000000 in
theorem furrowOut_any {w : World} {tag : Nat → Nat} {tg tn tb g : Nat} {a b c d ch : Int} {rs : List Rc} {S : Nat → St} {q : List (Int × List Int)} (hN : Nd w tag tg tn tb g a b c d ch rs S q) (hq : q.length ≤ 200) (h1 : tn ≠ tg) (h2 : tn ≠ tb) (tx : Nat) :
    Calls Tryz.prog 97 #[.pointer (some ⟨g, 0, none⟩)] w fun en w' => ∃ v xs, en = .returned v ∧ w'.ownsRow w.heap.size 174 2 v q.length xs ∧ OqX w' (tagTo tag w.heap.size tx) tx tb v q xs ∧ Apt xs ∧ Nd w' (tagTo tag w.heap.size tx) tg tn tb g a b c d ch rs S [] ∧ Only (fun b => tag b = tn) w w' := by
  have H := hid (nodeOut_any hN hq h1 h2 tx)
  clear hN
  go_enter Tryz.func97, Tryz.ntmps97
  go_wp2_with (go_at_call 157; refine H.out.mono ?_; rintro en w1 ⟨v, xs, rfl, ho, hR⟩; obtain ⟨oa, oc, hov⟩ : ∃ oa oc, v = .slice oa q.length oc := (by rcases ho.2 with ⟨e, e'⟩ | ⟨g, cap, cur, e, _⟩; (exact ⟨_, _, by rw [e, e']⟩); exact ⟨_, _, e⟩); subst hov; have HR := hid (And.intro ho hR); clear ho hR)
  go_ret
  exact ⟨_, xs, rfl, HR.out.1, HR.out.2⟩
end Go.Proofs.YtnhjmiglegdamaaGreat
