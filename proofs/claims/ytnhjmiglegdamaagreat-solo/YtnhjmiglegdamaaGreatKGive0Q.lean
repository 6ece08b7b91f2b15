-- Lemmas for a gift.
import Derived.Test.YtnhjmiglegdamaaGreatKOutVKStep0KStepKBeatKCall0Q
import Derived.Test.YtnhjmiglegdamaaGreatSCRecvSDoorsSGiveSFurKPureQ
namespace Go.Proofs.YtnhjmiglegdamaaGreat
open Go.RowKit Go.Maps
attribute [local go_sem ↓] Go.wp_at_zero Go.wp_at_succ
section
variable {w w' : World} {tag tag' : Nat → Nat} {g p q n m v : Nat} {ce : Int} {K : KW} {pv av lv cv hv : Value} {ps cs ls : List Value}
set_option maxRecDepth 100000 in
set_option maxHeartbeats 2000000 in
theorem wants_any (h : WdX w tag g p q n m v ce K pv av lv cv hv ps cs ls) (hl : K.calls.length ≤ 1000) {i : Nat} {d : PK} (hd : K.calls[i]? = some d) (hk : d.kind = 1) (hf : d.fin = 0) :
    Calls Tryz.prog 56 #[.pointer (some ⟨g, 0, none⟩), .int .i64 0, .int .i64 i] w fun en w' => en = .returned (.bool true) ∧ Bl w w' := by
  obtain ⟨ca, cc, rfl⟩ := h.ca.row.shape
  have H := hid h
  have hil := (List.getElem?_eq_some_iff.1 hd).1
  have Hd := hid hd
  clear h hd
  go_enter Tryz.func56, Tryz.ntmps56
  go_wp2_with fail
  go_loopw [7] (fun j wr => ∃ k : Nat, k ≤ i ∧ j = .int .i64 k ∧ Hid (Bl w wr)) (fun j _ => K.calls.length - (Go.RowKit.intOf j).toNat)
  case atStart => exact ⟨0, Nat.zero_le _, rfl, Bl.refl _⟩
  case round =>
    obtain ⟨k, hki, rfl, HB⟩ := hrel
    have hX := H.out.bl (tag' := tag) HB.out fun _ _ => rfl
    have hlt : k < K.calls.length := by omega
    have hltI : (k : Int) < (K.calls.length : Int) := by omega
    have c7 := hX.cellAt 7 rfl
    have lgr := hX.lt
    obtain ⟨c, hc⟩ : ∃ c, K.calls[k]? = some c := ⟨_, List.getElem?_eq_getElem hlt⟩
    obtain ⟨cb, rfl, _, lcb, hce, _⟩ := hX.ca.row.cells (by omega)
    obtain ⟨tv, rv, e0, e1, e2, e3, e4, e5, e6, e7, e8, e9, e10, e11, e12⟩ := hX.ca.c k c hc
    have d0 := (hce (k * 11) (by omega)).trans e0
    have d1 := (hce (k * 11 + 1) (by omega)).trans e1
    have d2 := (hce (k * 11 + 2) (by omega)).trans e2
    have d3 := (hce (k * 11 + 3) (by omega)).trans e3
    have d4 := (hce (k * 11 + 4) (by omega)).trans e4
    have d5 := (hce (k * 11 + 5) (by omega)).trans e5
    have d6 := (hce (k * 11 + 6) (by omega)).trans e6
    have d7 := (hce (k * 11 + 7) (by omega)).trans e7
    have d8 := (hce (k * 11 + 8) (by omega)).trans e8
    have d9 := (hce (k * 11 + 9) (by omega)).trans e9
    have d10 := (hce (k * 11 + 10) (by omega)).trans e10
    obtain ⟨ta, tc, rfl⟩ := e11.shape
    obtain ⟨ra, rc, rfl⟩ := e12.shape
    rw [List.length_map] at d10
    have Hc := hid hc
    clear hX hce e0 e1 e2 e3 e4 e5 e6 e7 e8 e9 e10 e11 e12 hc
    by_cases hik : k = i
    · subst hik
      have hcd : c = d := by have := Hc.out.symm.trans Hd.out; simpa using this
      subst hcd
      rw [hk] at d2
      rw [hf] at d7
      go_wp2
      go_ret
      exact ⟨rfl, HB.out.alloc _⟩
    · have hne : ¬ ((k : Int) = (i : Int)) := by omega
      go_wp2
      exact ⟨⟨k + 1, by omega, by go_num, HB.out.alloc _⟩, by simp [Go.RowKit.intOf]; omega⟩
/-- A token is noted. -/
theorem WdX.pushTok {cb len cc : Nat} (h : WdX w tag g p q n m v ce K pv av lv (.slice (some ⟨cb, 0, none⟩) len cc) hv ps cs ls) (hlen : K.calls.length = len) (hnm : n * m + v ≤ 20) {i : Nat} {d : PK} (hd : K.calls[i]? = some d) {ta : Option Addr} {tc : Nat} (htv : cs[i * 11 + 5]? = some (.slice ta d.tokens.length tc)) {W1 w5 : World} (hW1 : Bl w W1) {gg cp : Nat} {t : Int}
    (hown : w5.ownsRow 0 3 1 (.slice (some ⟨gg, 0, none⟩) (d.tokens.length + 1) cp) (d.tokens.length + 1) (d.tokens.map (Value.int .i64) ++ [.int .i64 t])) (hgrow : W1.grownBy w5 (Value.slice ta d.tokens.length tc).ownBlock) (hat : (Value.slice ta d.tokens.length tc).ownBlock = some gg ∨ w.heap.size ≤ gg) :
    ∃ tag2, KSt (fun s => s = 4 ∨ s = 100 + i) w tag (w5.setCell ⟨cb, i * 11 + 5, none⟩ (.slice (some ⟨gg, 0, none⟩) (d.tokens.length + 1) cp)) tag2 ∧ WdX (w5.setCell ⟨cb, i * 11 + 5, none⟩ (.slice (some ⟨gg, 0, none⟩) (d.tokens.length + 1) cp)) tag2 g p q n m v ce { K with calls := K.calls.set i { d with tokens := d.tokens ++ [t] } } pv av lv (.slice (some ⟨cb, 0, none⟩) len cc) hv ps (cs.set (i * 11 + 5) (.slice (some ⟨gg, 0, none⟩) (d.tokens.length + 1) cp)) ls := by
  subst hlen
  have l2 := hW1.lt
  have l3 := hgrow.size
  have hil := (List.getElem?_eq_some_iff.1 hd).1
  have hcl : cs.length = K.calls.length * 11 := h.ca.row.own.1
  obtain ⟨tv, rv, e0, e1, e2, e3, e4, e5, e6, e7, e8, e9, e10, e11, e12⟩ := h.ca.c i d hd
  have htt : tv = .slice ta d.tokens.length tc := by have := e5.symm.trans htv; simpa using this
  subst htt
  have tl := e11.tag
  have ll := fun b hb => (e11.own.lt b hb).2
  have tcb := h.ca.row.tag cb rfl
  have lcb := (h.ca.row.own.lt cb rfl).2
  obtain ⟨tag2, ht2⟩ : ∃ tag2, tag2 = fun b => if b < w.heap.size then tag b else if b = gg then 100 + i else 9 := ⟨_, rfl⟩
  have old2 : ∀ b, b < w.heap.size → tag2 b = tag b := fun b hb => by rw [ht2]; simp [hb]
  have hgg : tag2 gg = 100 + i := by
    rcases hat with e | e
    · rw [old2 gg (ll gg e)]; exact tl gg e
    · rw [ht2]; dsimp only; rw [if_neg (by omega), if_pos rfl]
  have O5 : Only (fun b => tag b = 4 ∨ tag b = 100 + i) w w5 := (Only.of_bl hW1).trans ((Only.of_grown hgrow).mono fun b _ e => .inr (tl b e.symm))
  have O : Only (fun b => tag b = 4 ∨ tag b = 100 + i) w (w5.setCell ⟨cb, i * 11 + 5, none⟩ (.slice (some ⟨gg, 0, none⟩) (d.tokens.length + 1) cp)) := O5.setCell ⟨cb, i * 11 + 5, none⟩ (.inl (.inl tcb)) _
  have k : KSt (fun s => s = 4 ∨ s = 100 + i) w tag (w5.setCell ⟨cb, i * 11 + 5, none⟩ (.slice (some ⟨gg, 0, none⟩) (d.tokens.length + 1) cp)) tag2 := ⟨O, old2⟩
  have hrow5 : w5.ownsRow 0 60 11 (.slice (some ⟨cb, 0, none⟩) K.calls.length cc) K.calls.length cs := by
    refine ownsRow_of h.ca.row.own fun b hb => ?_
    have e : cb = b := by simpa [Value.ownBlock] using hb
    subst e
    rw [hgrow.block cb (by omega) (fun e => by have := tl cb e.symm; rw [tcb] at this; omega), hW1.heap lcb]
  obtain ⟨hs, hh⟩ := h.ha
  refine ⟨tag2, k, (k.heap h.hg h.tg (by omega)).1, (k.heap h.hg h.tg (by omega)).2, h.pls.kst k (by omega) (fun j hj => by omega), h.ac.kst k (by omega), h.cl.kst k (by omega), ⟨⟨by rw [List.length_set]; exact own_set hrow5 _ _, fun b hb => ?_⟩, fun j y hy => ?_⟩, h.po.kst k (by omega) (by omega), hs, hh.kst k (by omega)⟩
  · have e : cb = b := by simpa [Value.ownBlock] using hb
    rw [← e, old2 cb lcb]; exact tcb
  · by_cases hj : j = i
    · subst hj
      rw [List.getElem?_set_self hil] at hy
      simp only [Option.some.injEq] at hy
      subst hy
      have y := fun o (ho : o < 11) (h5 : o ≠ 5) => List.getElem?_set_ne (l := cs) (a := .slice (some ⟨gg, 0, none⟩) (d.tokens.length + 1) cp) (show j * 11 + 5 ≠ j * 11 + o by omega)
      refine ⟨.slice (some ⟨gg, 0, none⟩) (d.tokens.length + 1) cp, rv, (y 0 (by omega) (by omega)).trans e0, (y 1 (by omega) (by omega)).trans e1, (y 2 (by omega) (by omega)).trans e2, (y 3 (by omega) (by omega)).trans e3, (y 4 (by omega) (by omega)).trans e4, List.getElem?_set_self (by omega), (y 6 (by omega) (by omega)).trans e6, (y 7 (by omega) (by omega)).trans e7, (y 8 (by omega) (by omega)).trans e8, (y 9 (by omega) (by omega)).trans e9, (y 10 (by omega) (by omega)).trans e10, ⟨?_, fun b hb => ?_⟩, e12.kst k (by omega)⟩
      · simp only [List.length_append, List.length_cons, List.length_nil, List.map_append, List.map_cons, List.map_nil]
        refine ownsRow_of hown fun b hb => Below.heap_setCell _ _ _ _ (fun e => ?_)
        obtain ⟨g', cap', cur', k1, _, k3, k4, _⟩ := (show RowT w5 (fun _ => 0) 0 60 11 (.slice (some ⟨cb, 0, none⟩) K.calls.length cc) K.calls.length cs from ⟨hrow5, fun _ _ => rfl⟩).block (by omega)
        simp only [Value.slice.injEq, Option.some.injEq, Addr.mk.injEq, and_true, true_and] at k1
        rw [← k1.1] at k4
        exact own_ne_block hown k4 (by decide) (by rw [hb, e])
      · have e : gg = b := by simpa [Value.ownBlock] using hb
        rw [← e]; exact hgg
    · rw [List.getElem?_set_ne (Ne.symm hj)] at hy
      obtain ⟨tv', rv', z0, z1, z2, z3, z4, z5, z6, z7, z8, z9, z10, z11, z12⟩ := (h.ca.c j y hy).kst k (by omega) (by omega)
      have yy := fun o (ho : o < 11) => List.getElem?_set_ne (l := cs) (a := .slice (some ⟨gg, 0, none⟩) (d.tokens.length + 1) cp) (show i * 11 + 5 ≠ j * 11 + o by omega)
      exact ⟨tv', rv', (yy 0 (by omega)).trans z0, (yy 1 (by omega)).trans z1, (yy 2 (by omega)).trans z2, (yy 3 (by omega)).trans z3, (yy 4 (by omega)).trans z4, (yy 5 (by omega)).trans z5, (yy 6 (by omega)).trans z6, (yy 7 (by omega)).trans z7, (yy 8 (by omega)).trans z8, (yy 9 (by omega)).trans z9, (yy 10 (by omega)).trans z10, z11, z12⟩
/-- A token more was given. -/
theorem WdX.pushHad {ha : Option Addr} {hc : Nat} (h : WdX w tag g p q n m v ce K pv av lv cv (.slice ha K.had hc) ps cs ls) {W1 w5 : World} (hW1 : Bl w W1) {gg cp : Nat} {xs : List Value}
    (hown : w5.ownsRow 0 3 1 (.slice (some ⟨gg, 0, none⟩) (K.had + 1) cp) (K.had + 1) xs) (hgrow : W1.grownBy w5 (Value.slice ha K.had hc).ownBlock) (hat : (Value.slice ha K.had hc).ownBlock = some gg ∨ w.heap.size ≤ gg) :
    ∃ tag2, KSt (fun s => s = 1 ∨ s = 7) w tag (w5.setCell ⟨g, 9, none⟩ (.slice (some ⟨gg, 0, none⟩) (K.had + 1) cp)) tag2 ∧ WdX (w5.setCell ⟨g, 9, none⟩ (.slice (some ⟨gg, 0, none⟩) (K.had + 1) cp)) tag2 g p q n m v ce { K with had := K.had + 1 } pv av lv cv (.slice (some ⟨gg, 0, none⟩) (K.had + 1) cp) ps cs ls := by
  have lw := h.lt
  have l2 := hW1.lt
  have l3 := hgrow.size
  obtain ⟨hs, hh⟩ := h.ha
  have tl := hh.tag
  have ll := fun b hb => (hh.own.lt b hb).2
  obtain ⟨tag2, ht2⟩ : ∃ tag2, tag2 = fun b => if b < w.heap.size then tag b else if b = gg then 7 else 9 := ⟨_, rfl⟩
  have old2 : ∀ b, b < w.heap.size → tag2 b = tag b := fun b hb => by rw [ht2]; simp [hb]
  have hgg : tag2 gg = 7 := by
    rcases hat with e | e
    · rw [old2 gg (ll gg e)]; exact tl gg e
    · rw [ht2]; dsimp only; rw [if_neg (by omega), if_pos rfl]
  have O : Only (fun b => tag b = 1 ∨ tag b = 7) w (w5.setCell ⟨g, 9, none⟩ (.slice (some ⟨gg, 0, none⟩) (K.had + 1) cp)) := ((Only.of_bl hW1).trans ((Only.of_grown hgrow).mono fun b _ e => .inr (tl b e.symm))).setCell ⟨g, 9, none⟩ (.inl (.inl h.tg)) _
  have k : KSt (fun s => s = 1 ∨ s = 7) w tag (w5.setCell ⟨g, 9, none⟩ (.slice (some ⟨gg, 0, none⟩) (K.had + 1) cp)) tag2 := ⟨O, old2⟩
  have hg5 : w5.heap[g]? = some (.cells (wdL n m v ce pv av lv cv K.now (.slice ha K.had hc)).toArray 66 (0, 0)) := by
    rw [hgrow.block g (by omega) (fun e => by have := tl g e.symm; rw [h.tg] at this; omega), hW1.heap lw]
    exact h.hg
  refine ⟨tag2, k, set_heap 9 _ w5 _ hg5, (old2 g lw).trans h.tg, h.pls.kst k (by omega) (fun i _ => by omega), h.ac.kst k (by omega), h.cl.kst k (by omega), h.ca.kst k (by omega) (by omega) (fun i _ => by omega), h.po.kst k (by omega) (by omega), xs, ?_, fun b hb => ?_⟩
  · exact ownsRow_of hown fun b hb => Below.heap_setCell _ _ _ _ (fun e => own_ne_block hown hg5 (by decide) (by rw [hb, e]))
  · have e : gg = b := by simpa [Value.ownBlock] using hb
    rw [← e]; exact hgg
end
end Go.Proofs.YtnhjmiglegdamaaGreat
