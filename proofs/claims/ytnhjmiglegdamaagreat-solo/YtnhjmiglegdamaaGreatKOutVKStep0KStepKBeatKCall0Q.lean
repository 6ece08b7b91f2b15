-- A node, or the client, gives out.
-- What a step does, bit by bit, without a program.
-- A step: all give out, and all of it is handed in.
-- Steps till nothing comes out; a beat.
-- Lemmas for a call.
import Derived.Test.YtnhjmiglegdamaaGreatKPoolSFirstKPickKOut0Q
import Derived.Deep.DeepCutAuto
import Derived.Deep.RegionHeld3
import Derived.Deep.RegionLaw
import Derived.Test.YtnhjmiglegdamaaGreatKDblKLogKReckKReck2Q
import Derived.Test.YtnhjmiglegdamaaGreatKOutUQ
import Derived.Test.YtnhjmiglegdamaaGreatKOutCQ
import Derived.Test.YtnhjmiglegdamaaGreatSCRecvSDoorsSGiveSFurKPureQ
import Derived.Laws.IdiomStrings
namespace Go.Proofs.YtnhjmiglegdamaaGreat
open Go.RowKit Go.Maps
attribute [local go_sem ↓] Go.wp_at_zero Go.wp_at_succ
section
variable {w : World} {tag : Nat → Nat} {g p q n m v : Nat} {ce : Int} {K : KW} {pv av lv cv hv : Value} {ps cs ls : List Value}
set_option maxRecDepth 100000 in
set_option maxHeartbeats 8000000 in
theorem out_voter (h : WdX w tag g p q n m v ce K pv av lv cv hv ps cs ls) (i : Nat) (hi : n * m ≤ i) (hi2 : i < n * m + v) (hnm : n * m + v ≤ 20) :
    Calls Tryz.prog 65 #[.pointer (some ⟨g, 0, none⟩), .int .i64 i] w fun en w' => en = .returned (.bool true) ∧ ∃ tag', KSt Po w tag w' tag' ∧ ∃ ps', WdX w' tag' g p q n m v ce K pv av lv cv hv ps' cs ls := by
  obtain ⟨pa, pc, hpv⟩ := h.pls.row.shape
  obtain ⟨aa, ac, rfl⟩ := h.ac.shape
  obtain ⟨ab, rfl, _⟩ := h.ac.cells (by decide)
  obtain ⟨N, hN⟩ : ∃ N, n * m + v = N := ⟨_, rfl⟩
  rw [hN] at hpv
  subst hpv
  have hrow := h.pls.row
  rw [hN] at hrow
  obtain ⟨pb, rfl, tpb, lpb, hpce, hpfr⟩ := hrow.cells (by omega)
  obtain ⟨gu, mk, hat, hNo⟩ := h.pls.pl i (by omega)
  have Hat := hid hat
  have HPK := hid (fun W => pick_any i (N + 1) W (by omega) (by omega) (by omega) (by omega))
  have hpk : pk i (N + 1) = i := by unfold pk; rw [if_neg (by omega)]; exact Int.emod_eq_of_lt (by omega) (by omega)
  rw [hpk] at HPK
  obtain ⟨e0, e1, e2, e3, e4⟩ := hat
  have d1 := (hpce (i * 5 + 1) (by omega)).trans e1
  have d3 := (hpce (i * 5 + 3) (by omega)).trans e3
  have c4 := h.cellAt 4 rfl
  have c5 := h.cellAt 5 rfl
  have lg := h.lt
  rcases hNo with ⟨hlt, _⟩ | ⟨_, hmk, u2⟩
  case inl => omega
  subst hmk
  have hiN : (i : Int) < (N : Int) := by omega
  have H := hid h
  have Hu2 := hid u2
  clear hpce e0 e1 e2 e3 e4 hrow hpfr h u2 hpk
  go_enter Tryz.func65, Tryz.ntmps65
  go_upto_region 1 with fail
  go_quiet ((go_at_call 15; exact Calls.quiet_of_same (HPK.out _)))
  go_upto_region 8 with fail
  obtain ⟨Wq, hWq⟩ : ∃ Wq, w.drewN nq = Wq := ⟨_, rfl⟩
  have bq : Bl w Wq := by rw [← hWq]; exact (Bl.refl w).drewN nq
  rw [hWq]
  have HO := hid (furrowVOut_any (Hu2.out.kst (P := fun _ => False) (KSt.of_bl' (tag' := tag) bq fun _ _ => rfl) (by simp)))
  have HXq := hid (H.out.bl (tag' := tag) bq fun _ _ => rfl)
  have s1 := (bq.cell lpb).trans d1
  have lpq := Nat.lt_of_lt_of_le lpb bq.lt
  have HBq := hid bq
  clear hWq Hu2 H d1 d3 c4 c5 HPK
  go_upto_region 9 with (go_at_call 97; refine HO.out.mono ?_; rintro en w1 ⟨ma, mc, rfl, hl1, hN1, hO1⟩; have HQ1 := hid (And.intro hN1 hO1); clear hN1 hO1 hl1)
  obtain ⟨hN1, hO1⟩ := HQ1.out
  have k1 : KSt (fun t => t = 11 + 3 * i) Wq tag w1 tag := ⟨hO1, fun _ _ => rfl⟩
  have hX1 := HXq.out.reVoter k1 hi hi2 hnm Hat.out hN1
  have hrow1 := hX1.pls.row
  rw [hN] at hrow1
  obtain ⟨pb', epb, tpb1, lpb1, hpce1, hpfr1⟩ := hrow1.cells (by omega)
  simp only [Option.some.injEq, Addr.mk.injEq, and_true] at epb
  subst epb
  have s1 := (hpce1 (i * 5 + 1) (by omega)).trans Hat.out.2.1
  have HIm := hid (furrowVImage_any w1 tag _ gu hN1)
  have HA1 := hid (And.intro hX1 (And.intro hN1 k1))
  clear hN1 hO1 hX1 k1 hpce1 hpfr1 hrow1 HQ1 HXq HO
  go_upto_region 10 with (go_at_call 70; refine HIm.out.mono ?_; rintro en w2 ⟨ia, ic, rfl, hb2⟩; have HB2 := hid hb2; clear hb2)
  have b2 := HB2.out
  have hX2 := HA1.out.1.bl (tag' := tag) b2 fun _ _ => rfl
  have hrow2 := hX2.pls.row
  rw [hN] at hrow2
  obtain ⟨pb', epb, tpb2, lpb2, hpce2, hpfr2⟩ := hrow2.cells (by omega)
  simp only [Option.some.injEq, Addr.mk.injEq, and_true] at epb
  subst epb
  have s0 := (hpce2 (i * 5) (by omega)).trans Hat.out.1
  have s2 := (hpce2 (i * 5 + 2) (by omega)).trans Hat.out.2.2.1
  have f2 := hpfr2 (i * 5 + 2)
  have k2 : KSt (fun s => s = 2) w2 tag (w2.setCell ⟨pb, i * 5 + 2, none⟩ (.int .i64 0)) tag := kst_set tpb2 _ _
  have hX3 := hX2.setMark hN (i := i) (gi := gu) (mk := 0) (mk' := 0) (by omega) Hat.out (.inr ⟨hi, rfl, HA1.out.2.1.kst (P := fun _ => False) (KSt.of_bl' (tag' := tag) b2 fun _ _ => rfl) (by simp)⟩)
  have hK3 : KSt Po w tag (w2.setCell ⟨pb, i * 5 + 2, none⟩ (.int .i64 0)) tag := (((KSt.of_bl' (tag' := tag) HBq.out fun _ _ => rfl).trans (HA1.out.2.2.mono fun t e => by unfold Po; omega)).trans (KSt.of_bl' b2 fun _ _ => rfl)).trans (k2.mono fun t e => .inr (.inl e))
  obtain ⟨W3, hW3⟩ : ∃ W3, w2.setCell ⟨pb, i * 5 + 2, none⟩ (.int .i64 0) = W3 := ⟨_, rfl⟩
  rw [hW3] at hX3 hK3
  generalize plId n m i = idk at s0
  have z0 : W3.cell? ⟨pb, i * 5, none⟩ = some (.int .i64 idk) := by rw [← hW3]; exact (World.cell?_setCell_other _ _ _ _ (by simp)).trans s0
  have lpb3 : pb < W3.heap.size := by rw [← hW3]; simpa [World.setCell] using lpb2
  have HW3 := hid hW3
  have HX0 := hid hX3
  have HK0 := hid hK3
  clear hX2 hrow2 hpce2 hpfr2 k2 hX3 hK3 hW3 HA1 HB2 HIm s1
  go_upto_region 13 with fail
  rw [HW3.out]
  clear HW3 s0 s2 f2 b2
  go_wp2
  go_loopw [11] (fun i wx => i = .int .i64 0 ∧ wx = W3) (fun _ _ => 0)
  case atStart => exact ⟨rfl, rfl⟩
  case round =>
    obtain ⟨rfl, rfl⟩ := hrel
    go_wp2
    go_ret
    exact ⟨rfl, tag, HK0.out, _, HX0.out⟩
end
end Go.Proofs.YtnhjmiglegdamaaGreat

namespace Go.Proofs.YtnhjmiglegdamaaGreat
open Go.RowKit Go.Maps
section
variable {n m v : Nat} {ce : Int}
theorem usOf_self {us : List UQ} {N : Nat} (h : us.length = N) : us = usOf N fun u => (us[u]?).getD ⟨St.first, []⟩ := by
  apply List.ext_getElem?
  intro i
  by_cases hi : i < N
  · rw [usOf_get _ hi, List.getElem?_eq_getElem (by omega)]; rfl
  · rw [List.getElem?_eq_none (by omega), List.getElem?_eq_none (by rw [usOf_len]; omega)]
/-- The first k have given out. -/
theorem outsTo_units {K : KW} {f : Nat → UQ} (hus : K.us = usOf (n * m) f) : ∀ k, k ≤ n * m → ({ K with pool := [] } : KW).outsTo n m v k = { K with us := usOf (n * m) (fun u => if u < k then ⟨(f u).s, []⟩ else f u), pool := (List.range k).flatMap fun u => (f u).q.map fun z => .rep u z.1 z.2 } := by
  intro k
  induction k with
  | zero => intro _; simp only [KW.outsTo, List.range_zero, List.foldl_nil, List.flatMap_nil, Nat.not_lt_zero, if_false, hus]
  | succ k ih =>
    intro hk
    rw [KW.outsTo_succ, ih (by omega)]
    unfold KW.outAt
    rw [if_pos (by omega)]
    unfold KW.outU
    rw [usOf_get _ (by omega : k < n * m)]
    simp only [Nat.lt_irrefl, if_false]
    rw [usOf_set, List.range_succ, List.flatMap_append]
    congr 1
    · apply usOf_congr
      intro u _
      by_cases e : u = k
      · subst e; simp
      · rw [if_neg e]
        by_cases h : u < k
        · rw [if_pos h, if_pos (by omega)]
        · rw [if_neg h, if_neg (by omega)]
    · simp
theorem outsTo_voters {K : KW} : ∀ k, k ≤ v → ({ K with pool := [] } : KW).outsTo n m v (n * m + k) = ({ K with pool := [] } : KW).outsTo n m v (n * m) := by
  intro k
  induction k with
  | zero => intro _; rfl
  | succ k ih =>
    intro hk
    rw [← Nat.add_assoc, KW.outsTo_succ, ih (by omega)]
    unfold KW.outAt
    rw [if_neg (by omega), if_pos (by omega)]
theorem flat_len_le {N c : Nat} {gs : Nat → List Ms} (h : ∀ u, u < N → (gs u).length ≤ c) : ((List.range N).flatMap gs).length ≤ N * c := by
  induction N with
  | zero => simp
  | succ N ih =>
    rw [List.range_succ, List.flatMap_append, List.length_append]
    have := ih fun u hu => h u (by omega)
    have h2 := h N (by omega)
    simp only [List.flatMap_cons, List.flatMap_nil, List.append_nil]
    rw [Nat.add_mul]
    omega
theorem Runs.len {K K' : KW} {ls : List Ms} (h : Runs n m v ce K ls K') : ∀ l ∈ ls, 3 ≤ l.data.length ∧ l.data.length ≤ 600 := by
  induction h with
  | nil K => intro l hl; simp at hl
  | cons K l ls K' h hW r ih =>
    intro x hx
    rcases List.mem_cons.1 hx with rfl | hx
    · cases h with
      | req u kd nr pl ct h0 h1 ok hkd hys hc hU =>
        have := ok.v1
        simp only [Ms.data, recB_len]
        simp at this ⊢
        omega
      | rep u nr A h1 hR ok =>
        have := ok.v1
        simp only [Ms.data, repB, recB_len]
        simp at this ⊢
        omega
    · exact ih x hx
/-- What a client makes of the time. -/
def CX.tickX (n m : Nat) (X : CX) : CX := match X.pend with
  | none => X
  | some c => if c.wants then { X with pend := some { c with q := { c.q with due := true } } } else ({ X with pend := some { c with q := { c.q with due := true } } } : CX).probe n m
structure TickOk (n m : Nat) (vo ce : Int) (X : CX) : Prop where
  fit : fit n m vo ce = true
  a0 : 0 ≤ X.asked
  a1 : X.asked ≤ 1000000
  c : ∀ c, X.pend = some c → c.num ≤ 1000 ∧ c.kind ≠ 5
end
end Go.Proofs.YtnhjmiglegdamaaGreat

namespace Go.Proofs.YtnhjmiglegdamaaGreat
open Go.RowKit Go.Maps
attribute [local go_sem ↓] Go.wp_at_zero Go.wp_at_succ
/-- The marks that a step turns. -/
def Pw (t : Nat) : Prop := t = 1 ∨ t = 2 ∨ t = 4 ∨ t = 5 ∨ t = 6 ∨ t = 8 ∨ t = 9 ∨ (10 ≤ t ∧ t < 80)
section
variable {w : World} {tag : Nat → Nat} {g p q n m v : Nat} {ce : Int} {K K' : KW} {pv av lv cv hv : Value} {ps cs ls : List Value}
/-- The letters are another list. -/
theorem WdX.setPool (h : WdX w tag g p q n m v ce K pv av lv cv hv ps cs ls) {lv' : Value} {ls' : List Value} {po : List Ms} (hp : PoolX w tag po lv' ls') : WdX (w.setCell ⟨g, 6, none⟩ lv') tag g p q n m v ce { K with pool := po } pv av lv' cv hv ps cs ls' := by
  have k : KSt (fun s => s = 1) w tag (w.setCell ⟨g, 6, none⟩ lv') tag := kst_set h.tg 6 _
  obtain ⟨hs, hh⟩ := h.ha
  exact ⟨set_heap 6 _ w _ h.hg, h.tg, h.pls.kst k (by omega) (fun i _ => by omega), h.ac.kst k (by omega), h.cl.kst k (by omega), h.ca.kst k (by omega) (by omega) (fun i _ => by omega), hp.kst k (by omega) (by omega), hs, hh.kst k (by omega)⟩
/-- Node or client k gives out. -/
theorem out_any (h : WdX w tag g p q n m v ce K pv av lv cv hv ps cs ls) (k : Nat) (hk : k ≤ n * m + v) (hnm : n * m + v ≤ 20) (hU : k < n * m → ∃ U, K.us[k]? = some U ∧ U.q.length ≤ 100 ∧ ∀ z ∈ U.q, 3 ≤ (repB z.1 z.2).length ∧ (repB z.1 z.2).length ≤ 600) (hC : k = n * m + v → OutOk K.X ∧ K.X.outP.length ≤ 200 ∧ ∀ x ∈ K.X.outM, 3 ≤ x.data.length ∧ x.data.length ≤ 600) (hnow : 0 ≤ K.now ∧ K.now ≤ 400000) (hpool : K.pool.length ≤ 100000) :
    Calls Tryz.prog 65 #[.pointer (some ⟨g, 0, none⟩), .int .i64 k] w fun en w' => en = .returned (.bool true) ∧ ∃ tag', KSt Po w tag w' tag' ∧ ∃ lv' ps' ls', WdX w' tag' g p q n m v ce (K.outAt n m v k) pv av lv' cv hv ps' cs ls' := by
  unfold KW.outAt
  by_cases h1 : k < n * m
  · rw [if_pos h1]
    obtain ⟨U, u1, u2, u3⟩ := hU h1
    exact out_unit h k h1 hnm u1 u2 u3 hnow hpool
  · rw [if_neg h1]
    by_cases h2 : k < n * m + v
    · rw [if_pos h2]
      refine (out_voter h k (by omega) h2 hnm).mono ?_
      rintro en w' ⟨e, tag', k1, ps', hX⟩
      exact ⟨e, tag', k1, lv, ps', ls, hX⟩
    · rw [if_neg h2]
      have hkN : k = n * m + v := by omega
      subst hkN
      obtain ⟨c1, c2, c3⟩ := hC rfl
      refine (out_client h hnm c1 c2 c3 hpool).mono ?_
      rintro en w' ⟨e, tag', k1, lv', ls', hX⟩
      exact ⟨e, tag', k1, lv', ps, ls', hX⟩
theorem outsTo_frame {n m v : Nat} (K : KW) (k : Nat) (hk : k ≤ n * m + v) {f : Nat → UQ} (hus : K.us = usOf (n * m) f) : (({ K with pool := [] } : KW).outsTo n m v k).X = K.X ∧ (({ K with pool := [] } : KW).outsTo n m v k).now = K.now ∧ (k < n * m → (({ K with pool := [] } : KW).outsTo n m v k).us[k]? = some (f k)) ∧ (({ K with pool := [] } : KW).outsTo n m v k).pool = (List.range (min k (n * m))).flatMap fun u => (f u).q.map fun z => .rep u z.1 z.2 := by
  by_cases h1 : k ≤ n * m
  · rw [outsTo_units hus k h1]
    refine ⟨rfl, rfl, fun h => ?_, by rw [show min k (n * m) = k by omega]⟩
    rw [usOf_get _ h, if_neg (by omega)]
  · obtain ⟨j, rfl⟩ : ∃ j, k = n * m + j := ⟨k - n * m, by omega⟩
    rw [outsTo_voters j (by omega), outsTo_units hus _ (Nat.le_refl _)]
    exact ⟨rfl, rfl, fun h => by omega, by rw [show min (n * m + j) (n * m) = n * m by omega]⟩
set_option maxRecDepth 100000 in
set_option maxHeartbeats 8000000 in
theorem step_any (h : WdX w tag g p q n m v ce K pv av (.slice none 0 0) cv hv ps cs []) (hp : K.pool = []) (hS : StepOk n m K) (hR : Runs n m v ce { K.outs n m v with pool := K.pool } (K.outs n m v).pool K') (hnm : n * m + v ≤ 20) (hnow : 0 ≤ K.now ∧ K.now ≤ 400000) :
    Calls Tryz.prog 68 #[.pointer (some ⟨g, 0, none⟩)] w fun en w' => en = .returned (.tuple #[.int .i64 (K.outs n m v).pool.length, .bool true]) ∧ ∃ tag', KSt Pw w tag w' tag' ∧ ∃ ps' cs', WdX w' tag' g p q n m v ce K' pv av (.slice none 0 0) cv hv ps' cs' [] := by
  obtain ⟨pa, pc, hpv⟩ := h.pls.row.shape
  obtain ⟨aa, ac, rfl⟩ := h.ac.shape
  obtain ⟨N, hN⟩ : ∃ N, n * m + v = N := ⟨_, rfl⟩
  rw [hN] at hpv
  subst hpv
  obtain ⟨f, hus⟩ : ∃ f, K.us = usOf (n * m) f := ⟨_, usOf_self hS.len⟩
  have hlen := hR.len
  have hO := outs_is (v := v) hus
  obtain ⟨KO, hKO⟩ : ∃ KO, K.outs n m v = KO := ⟨_, rfl⟩
  obtain ⟨L, hL⟩ : ∃ L, KO.pool.length = L := ⟨_, rfl⟩
  have hKO0 : 0 ≤ KO.now := by rw [← hKO, hO]; exact hnow.1
  have HU : Hid (∀ k, k < n * m → (f k).q.length ≤ 100 ∧ ∀ z ∈ (f k).q, 3 ≤ (repB z.1 z.2).length ∧ (repB z.1 z.2).length ≤ 600) := by
    intro k hk
    refine ⟨hS.q _ (List.mem_of_getElem? (by rw [hus]; exact usOf_get f hk)), fun z hz => ?_⟩
    exact hlen (.rep k z.1 z.2) (by rw [hO]; exact List.mem_append_left _ (List.mem_flatMap.2 ⟨k, List.mem_range.2 hk, List.mem_map.2 ⟨z, hz, rfl⟩⟩))
  have HC : Hid (OutOk K.X ∧ K.X.outP.length ≤ 200 ∧ ∀ x ∈ K.X.outM, 3 ≤ x.data.length ∧ x.data.length ≤ 600) := ⟨hS.x, hS.o, fun x hx => hlen x (by rw [hO]; exact List.mem_append_right _ hx)⟩
  have hLb : L ≤ 5000 := by
    rw [← hL, ← hKO, hO]
    simp only [List.length_append]
    have h1 := flat_len_le (N := n * m) (c := 100) (gs := fun u => (f u).q.map fun z => Ms.rep u z.1 z.2) fun u hu => by rw [List.length_map]; exact (HU.out u hu).1
    have h2 := hS.o
    rw [← CX.outM_raw, List.length_map] at h2
    have h3 : n * m * 100 ≤ 20 * 100 := Nat.mul_le_mul_right _ (by omega)
    omega
  have c6 := h.cellAt 6 rfl
  have f6 := frozen_of_row w g 6 _ 66 h.hg
  have lg := h.lt
  have h1 := h.setPool (po := []) (PoolX.nil (w := w) (tag := tag))
  have k1 : KSt Pw w tag (w.setCell ⟨g, 6, none⟩ (.slice none 0 0)) tag := (kst_set h.tg 6 _).mono fun t e => .inl e
  obtain ⟨W1, hW1⟩ : ∃ W1, w.setCell ⟨g, 6, none⟩ (.slice none 0 0) = W1 := ⟨_, rfl⟩
  rw [hW1] at h1 k1
  have HW1 := hid hW1
  have H1 := hid h1
  have HK1 := hid k1
  have Hus := hid hus
  rw [hKO, hp] at hR
  rw [hKO, hL]
  have HR := hid hR
  have HKO := hid hKO
  have HL := hid hL
  clear h h1 k1 hW1 hS hus hlen hO hR hp hKO hL
  go_enter Tryz.func68, Tryz.ntmps68
  go_upto_region 3 with fail
  rw [HW1.out]
  clear HW1 c6 f6
  go_wp2
  go_loopw [5] (fun i wr => ∃ (k : Nat) (tag' : Nat → Nat) (lv' : Value) (ps' ls' : List Value), k ≤ N + 1 ∧ i = .int .i64 k ∧ Hid (KSt Pw w tag wr tag') ∧ Hid (WdX wr tag' g p q n m v ce (({ K with pool := [] } : KW).outsTo n m v k) (.slice pa N pc) (.slice aa 1 ac) lv' cv hv ps' cs ls')) (fun i _ => N + 1 - (Go.RowKit.intOf i).toNat)
  case atStart => exact ⟨0, tag, _, ps, [], Nat.zero_le _, rfl, HK1, H1⟩
  case round =>
    clear H1 HK1
    obtain ⟨k, tag', lv', ps', ls', hk, rfl, HK, HX⟩ := hrel
    have c4 := HX.out.cellAt 4 rfl
    have c5 := HX.out.cellAt 5 rfl
    have lgr := HX.out.lt
    by_cases hlt : k < N + 1
    · have hltI : (k : Int) < (N : Int) + 1 := by omega
      obtain ⟨x1, x2, x3, x4⟩ := outsTo_frame (v := v) K k (by omega) Hus.out
      have HO : Hid (∀ W, Bl wr W → Calls Tryz.prog 65 #[.pointer (some ⟨g, 0, none⟩), .int .i64 k] W fun en w' => en = .returned (.bool true) ∧ ∃ tag2, KSt Po wr tag' w' tag2 ∧ ∃ lv2 ps2 ls2, WdX w' tag2 g p q n m v ce (({ K with pool := [] } : KW).outsTo n m v (k + 1)) (.slice pa N pc) (.slice aa 1 ac) lv2 cv hv ps2 cs ls2) := by
        intro W hb
        rw [KW.outsTo_succ]
        refine (out_any (HX.out.bl (tag' := tag') hb fun _ _ => rfl) k (by omega) hnm (fun h => ⟨f k, x3 h, HU.out k h⟩) (fun _ => by rw [x1]; exact HC.out) (by rw [x2]; exact hnow) (by
          rw [x4]
          have := flat_len_le (N := min k (n * m)) (c := 100) (gs := fun u => (f u).q.map fun z => Ms.rep u z.1 z.2) fun u hu => by rw [List.length_map]; exact (HU.out u (by omega)).1
          have h2 : min k (n * m) ≤ 20 := by omega
          have h3 : min k (n * m) * 100 ≤ 20 * 100 := Nat.mul_le_mul_right _ h2
          omega)).mono ?_
        rintro en w' ⟨e, tag2, k2, hX⟩
        exact ⟨e, tag2, (KSt.of_bl' (tag' := tag') hb fun _ _ => rfl).trans k2, hX⟩
      clear x1 x2 x3 x4
      go_upto_region 4 with fail
      go_quiet (fail)
      go_wp2_with (go_at_call 65; refine (HO.out _ ((Bl.refl wr).drewN _)).mono ?_; rintro en w2 ⟨rfl, tag2, k2, lv2, ps2, ls2, hX2⟩; have HK2 := hid k2; have HX2 := hid hX2; clear k2 hX2)
      exact ⟨⟨k + 1, tag2, lv2, ps2, ls2, by omega, by go_num, HK.out.trans (HK2.out.mono fun t e => by unfold Po at e; unfold Pw; omega), HX2⟩, by simp [Go.RowKit.intOf]; omega⟩
    · have hge : ¬ ((k : Int) < (N : Int) + 1) := by omega
      have hkn : k = N + 1 := by omega
      have hX2 := HX.out
      rw [show k = n * m + v + 1 by omega] at hX2
      have hX3 : WdX wr tag' g p q n m v ce (K.outs n m v) (.slice pa N pc) (.slice aa 1 ac) lv' cv hv ps' cs ls' := hX2
      rw [HKO.out] at hX3
      obtain ⟨la, lc, hlv'⟩ := hX3.po.row.shape
      rw [HL.out] at hlv'
      subst hlv'
      have HX3 := hid hX3
      clear HX hX2 hX3 HC HU
      go_upto_region 4 with fail
      go_quiet (fail)
      obtain ⟨W2, hW2⟩ : ∃ W2, wr.drewN nq = W2 := ⟨_, rfl⟩
      have b2 : Bl wr W2 := by rw [← hW2]; exact (Bl.refl wr).drewN nq
      rw [hW2]
      clear hW2
      have hX3 := HX3.out.bl (tag' := tag') b2 fun _ _ => rfl
      have c6 := hX3.cellAt 6 rfl
      have f6 := frozen_of_row W2 g 6 _ 66 hX3.hg
      have lg2 := hX3.lt
      have hpo := hX3.po
      have h4 := hX3.setPool (po := []) (PoolX.nil (w := W2) (tag := tag'))
      have k4 : KSt (fun s => s = 1) W2 tag' (W2.setCell ⟨g, 6, none⟩ (.slice none 0 0)) tag' := kst_set hX3.tg 6 _
      have hpo4 := hpo.kst k4 (by omega) (by omega)
      have hK4 := (HK.out.trans (KSt.of_bl' (tag' := tag') b2 fun _ _ => rfl)).trans (k4.mono (Q := Pw) fun t e => .inl e)
      obtain ⟨W3, hW3⟩ : ∃ W3, W2.setCell ⟨g, 6, none⟩ (.slice none 0 0) = W3 := ⟨_, rfl⟩
      rw [hW3] at h4 hpo4 hK4
      have HX4 := hid h4
      have HP4 := hid hpo4
      have HK4 := hid hK4
      have HW3 := hid hW3
      clear hX3 hpo h4 k4 hpo4 hK4 HK HX3 hW3 b2
      go_upto_region 11 with fail
      rw [HW3.out]
      clear HW3 c6 f6 c4 c5
      go_wp2
      go_loopw [8] (fun i wx => ∃ (k : Nat) (tagx : Nat → Nat) (Kk : KW) (csx : List Value), k ≤ L ∧ i = .int .i64 k ∧ 0 ≤ Kk.now ∧ Hid (KSt Pw w tag wx tagx) ∧ Hid (WdX wx tagx g p q n m v ce Kk (.slice pa N pc) (.slice aa 1 ac) (.slice none 0 0) cv hv ps' csx []) ∧ Hid (PoolX wx tagx KO.pool (.slice la L lc) ls') ∧ Hid (Runs n m v ce Kk (KO.pool.drop k) K')) (fun i _ => L - (Go.RowKit.intOf i).toNat)
      case atStart => exact ⟨0, tag', { KO with pool := [] }, cs, Nat.zero_le _, rfl, hKO0, HK4, HX4, HP4, by rw [List.drop_zero]; exact HR.out⟩
      case round =>
        clear HK4 HX4 HP4 HR
        obtain ⟨j, tagx, Kk, csx, hj, rfl, hk0, HKx, HXx, HPx, HRx⟩ := hrel
        by_cases hjl : j < L
        · have hjI : (j : Int) < (L : Int) := by omega
          have hjp : j < KO.pool.length := by rw [HL.out]; exact hjl
          have hrun := HRx.out
          rw [List.drop_eq_getElem_cons hjp] at hrun
          obtain ⟨x, hx⟩ : ∃ x, KO.pool[j] = x := ⟨_, rfl⟩
          rw [hx] at hrun
          have hxg : KO.pool[j]? = some x := by rw [List.getElem?_eq_getElem hjp, hx]
          cases hrun with
          | cons _ _ _ _ hOk hWo hrest =>
          obtain ⟨e0, e1, dv, e2, e3⟩ := HPx.out.l j x hxg
          have hrow := HPx.out.row
          rw [HL.out] at hrow
          obtain ⟨lb, rfl, _, llb, hlce, _⟩ := hrow.cells (by omega)
          have d0 := (hlce (j * 3) (by omega)).trans e0
          have d1 := (hlce (j * 3 + 1) (by omega)).trans e1
          have d2 := (hlce (j * 3 + 2) (by omega)).trans e2
          have HH := hid (hand_any HXx.out x dv e3 hOk hWo hnm ⟨hk0, hWo.n1⟩)
          obtain ⟨da, dc, rfl⟩ := e3.shape
          have Hrest := hid hrest
          have hnow2 : Hid ((Kk.hand n m v ce x).now = Kk.now + 2) := by
            unfold Hid KW.hand KW.watch
            simp only
            omega
          rw [List.length_map] at d2 HH
          generalize x.fr = xf at *
          generalize x.to = xt at *
          clear hlce e0 e1 e2 e3 hrow hOk hWo hrest hxg hx
          go_wp2_with (go_at_call 66; refine HH.out.mono ?_; rintro en w5 ⟨rfl, tag5, k5, cs5, h5⟩; have HK5 := hid k5; have HX5 := hid h5; clear k5 h5)
          exact ⟨⟨j + 1, tag5, _, cs5, by omega, by go_num, by have := hnow2.out; omega, HKx.out.trans (HK5.out.mono fun t e => by unfold Ph at e; unfold Pw; omega), HX5, HPx.out.kst HK5.out (by unfold Ph; omega) (by unfold Ph; omega), Hrest⟩, by simp [Go.RowKit.intOf]; omega⟩
        · have hjge : ¬ ((j : Int) < (L : Int)) := by omega
          have hfin := HRx.out
          rw [List.drop_eq_nil_of_le (by rw [HL.out]; omega)] at hfin
          cases hfin
          go_wp2
          go_ret2
          exact ⟨rfl, tagx, HKx.out, _, _, HXx.out⟩
end
end Go.Proofs.YtnhjmiglegdamaaGreat

namespace Go.Proofs.YtnhjmiglegdamaaGreat
open Go.RowKit Go.Maps
attribute [local go_sem ↓] Go.wp_at_zero Go.wp_at_succ
section
variable {w : World} {tag : Nat → Nat} {g p q n m v : Nat} {ce : Int} {K K' : KW} {pv av lv cv hv : Value} {ps cs ls : List Value}
set_option maxRecDepth 100000 in
set_option maxHeartbeats 4000000 in
theorem exchange_any (h : WdX w tag g p q n m v ce K pv av (.slice none 0 0) cv hv ps cs []) {j : Nat} (hE : ExchT n m v ce K j K') (hj : j ≤ 300) (hnm : n * m + v ≤ 20) :
    Calls Tryz.prog 58 #[.pointer (some ⟨g, 0, none⟩), .int .i64 300] w fun en w' => en = .returned (.bool true) ∧ ∃ tag', KSt Pw w tag w' tag' ∧ ∃ ps' cs', WdX w' tag' g p q n m v ce K' pv av (.slice none 0 0) cv hv ps' cs' [] := by
  have H := hid h
  have HE := hid hE
  clear h hE
  go_enter Tryz.func58, Tryz.ntmps58
  go_wp2_with fail
  go_loopw [5] (fun i wr => ∃ (k jj : Nat) (tag' : Nat → Nat) (Kk : KW) (ps' cs' : List Value), k + jj ≤ 300 ∧ i = .int .i64 k ∧ Hid (KSt Pw w tag wr tag') ∧ Hid (WdX wr tag' g p q n m v ce Kk pv av (.slice none 0 0) cv hv ps' cs' []) ∧ Hid (ExchT n m v ce Kk jj K')) (fun i _ => 300 - (Go.RowKit.intOf i).toNat)
  case atStart => exact ⟨0, j, tag, K, ps, cs, by omega, rfl, KSt.refl, H, HE⟩
  case round =>
    clear H HE
    obtain ⟨k, jj, tag', Kk, ps', cs', hk, rfl, HK, HX, HEk⟩ := hrel
    have hEk := HEk.out
    cases hEk with
    | done _ hS hn hp he =>
      have HS := hid (step_any (K' := { Kk.outs n m v with pool := Kk.pool }) HX.out hp hS (by rw [he]; exact .nil _) hnm hn)
      rw [he] at HS
      have hk3 : (k : Int) < 300 := by omega
      go_wp2_with (go_at_call 68; refine HS.out.mono ?_; rintro en w5 ⟨rfl, tag5, k5, ps5, cs5, h5⟩; have HK5 := hid k5; have HX5 := hid h5; clear k5 h5)
      go_ret
      have hX6 := HX5.out
      rw [hp] at hX6
      exact ⟨rfl, tag5, HK.out.trans HK5.out, _, _, hX6⟩
    | more _ K1 j' _ hS hn hp r =>
      have HS := hid (step_any (K' := K1) HX.out hp hS.ok hS.run hnm hn)
      have Hr := hid r
      have hk3 : (k : Int) < 300 := by omega
      obtain ⟨L, hL⟩ : ∃ L, (Kk.outs n m v).pool.length = L := ⟨_, rfl⟩
      rw [hL] at HS
      have hL0 : ¬ ((L : Int) = 0) := by
        have := List.length_pos_iff.2 hS.ne
        omega
      clear hL r hS
      go_wp2_with (go_at_call 68; refine HS.out.mono ?_; rintro en w5 ⟨rfl, tag5, k5, ps5, cs5, h5⟩; have HK5 := hid k5; have HX5 := hid h5; clear k5 h5)
      exact ⟨⟨k + 1, j', tag5, K1, ps5, cs5, by omega, by go_num, HK.out.trans HK5.out, HX5, Hr⟩, by simp [Go.RowKit.intOf]; omega⟩
theorem tick_any (h : WdX w tag g p q n m v ce K pv av lv cv hv ps cs ls) (hT : TickOk n m v ce K.X) :
    Calls Tryz.prog 57 #[.pointer (some ⟨p, 0, none⟩)] w fun en w' => en = .returned (.tuple #[]) ∧ ∃ tag', KSt (fun t => t = 5) w tag w' tag' ∧ WdX w' tag' g p q n m v ce { K with X := K.X.tickX n m } pv av lv cv hv ps cs ls := by
  obtain ⟨lv, rv, vv, nv, av, bm, born, clk, hcl⟩ := h.cl
  have key : Calls Tryz.prog 96 #[.pointer (some ⟨p, 0, none⟩)] w fun en w' => en = .returned (.tuple #[]) ∧ CStep w tag 5 p q n m v ce 1000 (K.X.tickX n m) w' := by
    unfold CX.tickX
    cases hc : K.X.pend with
    | none => exact cl_tick0 hcl hc
    | some c => exact cl_tick1 hcl hc (hT.c c hc).1 (hT.c c hc).2 hT.fit hT.a0 hT.a1 _ rfl
  refine (fcl_tick _ key).mono ?_
  rintro en w' ⟨rfl, hS⟩
  exact ⟨rfl, _, hS.kst, h.reCli hS.kst hS.1⟩
set_option maxRecDepth 100000 in
set_option maxHeartbeats 4000000 in
theorem beat_any (h : WdX w tag g p q n m v ce K pv av (.slice none 0 0) cv hv ps cs []) (hT : TickOk n m v ce K.X) {j : Nat} (hE : ExchT n m v ce { K with X := K.X.tickX n m } j K') (hj : j ≤ 300) (hnm : n * m + v ≤ 20) :
    Calls Tryz.prog 30 #[.pointer (some ⟨g, 0, none⟩)] w fun en w' => en = .returned (.bool true) ∧ ∃ tag', KSt Pw w tag w' tag' ∧ ∃ ps' cs', WdX w' tag' g p q n m v ce K' pv av (.slice none 0 0) cv hv ps' cs' [] := by
  obtain ⟨aa, ac, rfl⟩ := h.ac.shape
  obtain ⟨ab, rfl, _, lab, hace, _⟩ := h.ac.cells (by decide)
  have a1 := hace 1 (by decide)
  have a2 := hace 2 (by decide)
  simp only [List.getElem?_cons_zero, List.getElem?_cons_succ] at a1 a2
  have c5 := h.cellAt 5 rfl
  have lg := h.lt
  have HT := hid (tick_any h hT)
  have HE := hid hE
  clear hace hE hT
  go_enter Tryz.func30, Tryz.ntmps30
  go_wp2_with fail
  go_loopw [3] (fun i wr => ∃ (k : Int) (tag' : Nat → Nat), (k = 0 ∨ k = 1) ∧ i = .int .i64 k ∧ (k = 0 → wr = w) ∧ (k = 1 → Hid (KSt Pw w tag wr tag' ∧ WdX wr tag' g p q n m v ce { K with X := K.X.tickX n m } pv (.slice (some ⟨ab, 0, none⟩) 1 ac) (.slice none 0 0) cv hv ps cs []))) (fun i _ => 1 - (Go.RowKit.intOf i).toNat)
  case atStart => exact ⟨0, tag, .inl rfl, rfl, fun _ => rfl, fun e => absurd e (by decide)⟩
  case round =>
    obtain ⟨k, tag', hk, rfl, h0, h1⟩ := hrel
    rcases hk with rfl | rfl
    · have hw := h0 rfl
      subst hw
      clear h0 h1
      go_wp2_with (go_at_call 57; refine HT.out.mono ?_; rintro en w5 ⟨rfl, tag5, k5, h5⟩; have HK5 := hid k5; have HX5 := hid h5; clear k5 h5)
      exact ⟨⟨1, tag5, .inr rfl, by go_num, fun e => absurd e (by decide), fun _ => ⟨HK5.out.mono fun t e => by unfold Pw; omega, HX5.out⟩⟩, by simp [Go.RowKit.intOf]⟩
    · have HX := h1 rfl
      have c5' := HX.out.2.cellAt 5 rfl
      have lg' := HX.out.2.lt
      have HEx := hid (exchange_any HX.out.2 HE.out hj hnm)
      clear h0 h1
      go_wp2_with (go_at_call 58; refine HEx.out.mono ?_; rintro en w5 ⟨rfl, tag5, k5, ps5, cs5, h5⟩; have HK5 := hid k5; have HX5 := hid h5; clear k5 h5)
      go_ret
      exact ⟨rfl, tag5, HX.out.1.trans HK5.out, _, _, HX5.out⟩
end
end Go.Proofs.YtnhjmiglegdamaaGreat

namespace Go.Proofs.YtnhjmiglegdamaaGreat
open Go.RowKit Go.Maps
attribute [local go_sem ↓] Go.wp_at_zero Go.wp_at_succ
theorem Tryz.info60 : (Tryz.prog.info? 60).map (fun i => (i.zero, i.size, i.bytes)) = some (some (.agg #[.int .i64 0, .int .i64 0, .int .i64 0, .int .i64 0, .string { data := #[] }, .slice none 0 0, .int .i64 0, .int .i64 0, .int .i64 0, .int .i64 0, .slice none 0 0]), 11, 128) := by kernel_rfl
theorem strOf_list (ys : List Int) : (strOf ys).data.toList = ys.map (fun n => UInt8.ofNat n.toNat) := by
  have key : ∀ (ys : List Int) (r : ByteArray), (ys.foldl (fun r n => r.push (UInt8.ofNat n.toNat)) r).data.toList = r.data.toList ++ ys.map (fun n => UInt8.ofNat n.toNat) := by
    intro ys
    induction ys with
    | nil => intro r; simp
    | cons y ys ih => intro r; rw [List.foldl_cons, ih]; simp [ByteArray.push]
  have := key ys ByteArray.empty
  unfold strOf
  rw [this]; rfl
theorem strOf_size (ys : List Int) : (strOf ys).size = ys.length := by
  have := congrArg List.length (strOf_list ys)
  simpa using this
theorem strOf_dsize (ys : List Int) : (strOf ys).data.size = ys.length := strOf_size ys
theorem bytes_of (w : World) (ys : List Int) (hys : ∀ d ∈ ys, 0 ≤ d ∧ d ≤ 255) (cap : Nat) (f : Nat × Nat) : Bs (w.alloc (.cells (bytesRow (strOf ys) cap) 5 f)) (.slice (some ⟨w.heap.size, 0, none⟩) ys.length cap) (ys.map B8) := by
  refine .inr ⟨⟨w.heap.size, 0, none⟩, cap, by simp, fun j u hj => ?_⟩
  rw [add_eq, Nat.zero_add, cell_of_row _ _ j _ 5 f (heap_alloc_new w _)]
  obtain ⟨hl, rfl⟩ := List.getElem?_eq_some_iff.1 hj
  rw [List.length_map] at hl
  rw [bytesRow_at _ _ _ (by rw [strOf_dsize]; exact hl)]
  have h1 : (strOf ys).data[j]'(by rw [strOf_dsize]; exact hl) = UInt8.ofNat (ys[j]).toNat := by
    have := strOf_list ys
    have h2 : (strOf ys).data.toList[j]? = (ys.map (fun n => UInt8.ofNat n.toNat))[j]? := by rw [this]
    rw [List.getElem?_map, List.getElem?_eq_getElem hl, Array.getElem?_toList, Array.getElem?_eq_getElem (by rw [strOf_dsize]; exact hl)] at h2
    simpa using h2
  have h3 := hys ys[j] (List.getElem_mem hl)
  rw [h1, List.getElem_map]
  simp only [B8, UInt8.toNat_ofNat', Option.some.injEq, Value.int.injEq, true_and]
  omega
theorem pkt_of_str (w : World) (ys : List Int) (hys : ∀ d ∈ ys, 0 ≤ d ∧ d ≤ 255) (cap : Nat) (f : Nat × Nat) (h1 : ys.length ≤ cap) (h2 : cap ≤ maxLen) : Pkt (w.alloc (.cells (bytesRow (strOf ys) cap) 5 f)) (.slice (some ⟨w.heap.size, 0, none⟩) ys.length cap) ys := by
  refine ⟨w.heap.size, 0, cap, rfl, by simp, h1, by unfold maxLen at h2; omega, fun j d hd => ?_⟩
  rcases bytes_of w ys hys cap f with ⟨e, _⟩ | ⟨ad, c, e, hc⟩
  · simp at e
  · simp only [List.length_map, Value.slice.injEq, Option.some.injEq, true_and] at e
    obtain ⟨e1, _⟩ := e
    have := hc j (B8 d) (by rw [List.getElem?_map, hd]; rfl)
    rw [← e1, add_eq] at this
    exact this
/-- The marks that a call or a gift turns. -/
def Pc (t : Nat) : Prop := t = 1 ∨ t = 4 ∨ t = 5 ∨ t = 7 ∨ t = 9 ∨ 100 ≤ t
/-- The value of the k-th append. -/
def valB (k : Int) : List Int := [k, 0, 0, 0, 118]
set_option maxRecDepth 100000 in
set_option maxHeartbeats 2000000 in
theorem value_any (w : World) (k : Int) (h0 : 0 ≤ k) (h1 : k ≤ 255) : Calls Tryz.prog 40 #[.int .i64 k] w fun en w' => en = .returned (.string (strOf (valB k))) ∧ Bl w w' := by
  have e0 : k % 256 = k := by omega
  have e1 : k / 256 = 0 := by omega
  have e2 : k / 65536 = 0 := by omega
  have e3 : k / 16777216 = 0 := by omega
  have hc := conv_any (.slice (some ⟨w.heap.size, 0, none⟩) 5 5) (valB k) (w.alloc (.cells #[.int .u8 k, .int .u8 0, .int .u8 0, .int .u8 0, .int .u8 118] 5)) (by
    refine Bs.sl (.inr ⟨⟨w.heap.size, 0, none⟩, 5, by simp [valB], fun j u hj => ?_⟩)
    rw [add_eq, Nat.zero_add, cell_of_row _ _ j _ 5 (0, 0) (heap_alloc_new w _)]
    simpa [valB, B8] using hj)
  go_enter Tryz.func40, Tryz.ntmps40
  go_wp2
  go_ret
  exact ⟨rfl, (Bl.refl w).alloc _⟩
section
variable {w w' : World} {tag tag' : Nat → Nat} {g p q n m v : Nat} {ce : Int} {K : KW} {pv av lv cv hv : Value} {ps cs ls : List Value}
/-- The eleven cells of a call that has just begun. -/
def callR (i : Nat) (c : PK) : List Value := [.int .i64 0, .int .i64 i, .int .i64 c.kind, .int .i64 c.pos, .string (strOf c.value), .slice none 0 0, .int .i64 c.beg, .int .i64 c.fin, .int .i64 c.r.wh, .int .i64 c.r.ad, .slice none 0 0]
theorem WdX.pushCall {ca : Option Addr} {cc : Nat} (h : WdX w tag g p q n m v ce K pv av lv (.slice ca K.calls.length cc) hv ps cs ls) {W1 w5 : World} (hW1 : Bl w W1) {c : PK} (hc : c.tokens = []) (hr : c.r.val = []) {gg cp : Nat}
    (hown : w5.ownsRow 0 60 11 (.slice (some ⟨gg, 0, none⟩) (K.calls.length + 1) cp) (K.calls.length + 1) (cs ++ callR K.calls.length c)) (hgrow : W1.grownBy w5 (Value.slice ca K.calls.length cc).ownBlock) (hat : (Value.slice ca K.calls.length cc).ownBlock = some gg ∨ w.heap.size ≤ gg) :
    ∃ tag2, KSt (fun t => t = 1 ∨ t = 4) w tag (w5.setCell ⟨g, 7, none⟩ (.slice (some ⟨gg, 0, none⟩) (K.calls.length + 1) cp)) tag2 ∧ WdX (w5.setCell ⟨g, 7, none⟩ (.slice (some ⟨gg, 0, none⟩) (K.calls.length + 1) cp)) tag2 g p q n m v ce { K with calls := K.calls ++ [c] } pv av lv (.slice (some ⟨gg, 0, none⟩) (K.calls.length + 1) cp) hv ps (cs ++ callR K.calls.length c) ls := by
  have lw := h.lt
  have l2 := hW1.lt
  have l3 := hgrow.size
  have tl := h.ca.row.tag
  have ll := fun b hb => (h.ca.row.own.lt b hb).2
  obtain ⟨tag2, ht2⟩ : ∃ tag2, tag2 = fun b => if b < w.heap.size then tag b else if b = gg then 4 else 9 := ⟨_, rfl⟩
  have old2 : ∀ b, b < w.heap.size → tag2 b = tag b := fun b hb => by rw [ht2]; simp [hb]
  have hgg : tag2 gg = 4 := by
    rcases hat with e | e
    · rw [old2 gg (ll gg e)]; exact tl gg e
    · rw [ht2]; dsimp only; rw [if_neg (by omega), if_pos rfl]
  have O : Only (fun b => tag b = 1 ∨ tag b = 4) w (w5.setCell ⟨g, 7, none⟩ (.slice (some ⟨gg, 0, none⟩) (K.calls.length + 1) cp)) := ((Only.of_bl hW1).trans ((Only.of_grown hgrow).mono fun b _ e => .inr (tl b e.symm))).setCell ⟨g, 7, none⟩ (.inl (.inl h.tg)) _
  have k : KSt (fun t => t = 1 ∨ t = 4) w tag (w5.setCell ⟨g, 7, none⟩ (.slice (some ⟨gg, 0, none⟩) (K.calls.length + 1) cp)) tag2 := ⟨O, old2⟩
  have hg5 : w5.heap[g]? = some (.cells (wdL n m v ce pv av lv (.slice ca K.calls.length cc) K.now hv).toArray 66 (0, 0)) := by
    rw [hgrow.block g (by omega) (fun e => by have := tl g e.symm; rw [h.tg] at this; omega), hW1.heap lw]
    exact h.hg
  obtain ⟨hs, hh⟩ := h.ha
  refine ⟨tag2, k, set_heap 7 _ w5 _ hg5, (old2 g lw).trans h.tg, h.pls.kst k (by omega) (fun i _ => by omega), h.ac.kst k (by omega), h.cl.kst k (by omega), ⟨⟨?_, fun b hb => ?_⟩, fun j y hy => ?_⟩, h.po.kst k (by omega) (by omega), hs, hh.kst k (by omega)⟩
  · rw [List.length_append]
    exact ownsRow_of hown fun b hb => Below.heap_setCell _ _ _ _ (fun e => own_ne_block hown hg5 (by decide) (by rw [hb, e]))
  · have e : gg = b := by simpa [Value.ownBlock] using hb
    rw [← e]; exact hgg
  · have hl : cs.length = K.calls.length * 11 := h.ca.row.own.1
    by_cases hj : j < K.calls.length
    · rw [List.getElem?_append_left hj] at hy
      obtain ⟨tv, rv, e0, e1, e2, e3, e4, e5, e6, e7, e8, e9, e10, e11, e12⟩ := (h.ca.c j y hy).kst k (by omega) (by omega)
      have L := fun o (ho : o < 11) => List.getElem?_append_left (l₁ := cs) (l₂ := callR K.calls.length c) (show j * 11 + o < cs.length by omega)
      exact ⟨tv, rv, (L 0 (by omega)).trans e0, (L 1 (by omega)).trans e1, (L 2 (by omega)).trans e2, (L 3 (by omega)).trans e3, (L 4 (by omega)).trans e4, (L 5 (by omega)).trans e5, (L 6 (by omega)).trans e6, (L 7 (by omega)).trans e7, (L 8 (by omega)).trans e8, (L 9 (by omega)).trans e9, (L 10 (by omega)).trans e10, e11, e12⟩
    · have hj2 := (List.getElem?_eq_some_iff.1 hy).1
      simp at hj2
      have hj3 : j = K.calls.length := by omega
      subst hj3
      rw [List.getElem?_append_right (Nat.le_refl _)] at hy
      simp at hy
      subst hy
      have R := fun o (ho : o < 11) => show (cs ++ callR K.calls.length c)[K.calls.length * 11 + o]? = (callR K.calls.length c)[o]? by rw [List.getElem?_append_right (by omega), hl]; congr 1; omega
      exact ⟨.slice none 0 0, .slice none 0 0, R 0 (by omega), R 1 (by omega), R 2 (by omega), R 3 (by omega), R 4 (by omega), R 5 (by omega), R 6 (by omega), R 7 (by omega), R 8 (by omega), R 9 (by omega), R 10 (by omega), by rw [hc]; exact RowT.nil _ _ _, by rw [hr]; exact Rd.nil⟩
end
end Go.Proofs.YtnhjmiglegdamaaGreat
