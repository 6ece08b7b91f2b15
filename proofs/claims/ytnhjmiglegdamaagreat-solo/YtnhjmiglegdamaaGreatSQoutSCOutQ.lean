-- A question gives its packets out.
-- A client gives its packets out.
import Derived.Test.YtnhjmiglegdamaaGreatSCountSWantsSAwQ
import Derived.Test.YtnhjmiglegdamaaGreatSProbeShelfSKeysSCallsQ
import Derived.Test.YtnhjmiglegdamaaGreatSRecvSImgSCloneSClearSDeleteSOutQ
namespace Go.Proofs.YtnhjmiglegdamaaGreat
open Go.RowKit Go.Maps
attribute [local go_sem ↓] Go.wp_at_zero Go.wp_at_succ
/-- Packets in new memory: to whom, and the bytes, each in a block of its own. -/
structure PkR (base : Nat) (w : World) (v : Value) (ps : List (Int × List Int)) (xs : List Value) : Prop where
  own : w.ownsRow base 174 2 v ps.length xs
  at' : ∀ i z, ps[i]? = some z → xs[2 * i]? = some (.int .i64 z.1) ∧ ∃ u, xs[2 * i + 1]? = some u ∧ w.ownsRow base 5 1 u z.2.length (z.2.map B8)
  ap : ∀ i j u v b, i < j → xs[2 * i + 1]? = some u → xs[2 * j + 1]? = some v → u.ownBlock = some b → v.ownBlock ≠ some b
theorem PkR.nil (base : Nat) (w : World) : PkR base w (.slice none 0 0) [] [] := ⟨World.ownsRow_nil _ _ _ _, fun i z h => by simp at h, fun i j u v b _ h => by simp at h⟩
theorem PkR.only {T : Nat → Prop} {base : Nat} {w w' : World} {v : Value} {ps : List (Int × List Int)} {xs : List Value} (h : PkR base w v ps xs) (ho : Only T w w') (hT : ∀ b, base ≤ b → b < w.heap.size → ¬ T b) : PkR base w' v ps xs :=
  ⟨ho.owns h.own fun b hb => hT b (h.own.lt b hb).1 (h.own.lt b hb).2, fun i z hz => by
    obtain ⟨k1, u, k2, k3⟩ := h.at' i z hz
    exact ⟨k1, u, k2, ho.owns k3 fun b hb => hT b (k3.lt b hb).1 (k3.lt b hb).2⟩, h.ap⟩
theorem PkR.bl {base : Nat} {w w' : World} {v : Value} {ps : List (Int × List Int)} {xs : List Value} (h : PkR base w v ps xs) (hb : Bl w w') : PkR base w' v ps xs := h.only (Only.of_bl (S := fun _ => False) hb) fun _ _ _ e => e
/-- A packet more. -/
theorem PkR.push {base : Nat} {w w1 w2 : World} {v : Value} {ps : List (Int × List Int)} {xs : List Value} {tt : Int} {ds : List Int} {u : Value} {g cap : Nat} (h : PkR base w v ps xs) (hb : Bl w w1) (hu : w1.ownsRow w.heap.size 5 1 u ds.length (ds.map B8)) (hbase : base ≤ w.heap.size) (hown : w2.ownsRow base 174 2 (.slice (some ⟨g, 0, none⟩) (ps.length + 1) cap) (ps.length + 1) (xs ++ [.int .i64 tt, u])) (hgrow : (w1.alloc (.cells #[.int .i64 tt, u] 174)).grownBy w2 v.ownBlock) :
    PkR base w2 (.slice (some ⟨g, 0, none⟩) (ps.length + 1) cap) (ps ++ [(tt, ds)]) (xs ++ [.int .i64 tt, u]) := by
  have hxl : xs.length = 2 * ps.length := by have := h.own.1; omega
  have h1 := h.bl hb
  have O2 : Only (fun b => v.ownBlock = some b) w1 w2 := (Only.of_bl ((Bl.refl w1).alloc _)).trans ((Only.of_grown hgrow).mono fun k _ e => e.symm)
  have keep : ∀ {m : Nat} {z : Value} {ys : List Value}, w1.ownsRow base 5 1 z m ys → w2.ownsRow base 5 1 z m ys := fun hz => O2.owns hz fun b hb' e => ownsRow_type hz h1.own (by decide) b hb' e
  refine ⟨by rw [List.length_append]; exact hown, fun i z hz => ?_, fun i j a c b hij ha hc hab => ?_⟩
  · by_cases hlt : i < ps.length
    · rw [List.getElem?_append_left hlt] at hz
      obtain ⟨k1, u', k2, k3⟩ := h1.at' i z hz
      exact ⟨by rw [List.getElem?_append_left (by omega)]; exact k1, u', by rw [List.getElem?_append_left (by omega)]; exact k2, keep k3⟩
    · have hi : i = ps.length := by
        have := (List.getElem?_eq_some_iff.1 hz).1
        simp at this
        omega
      subst hi
      rw [List.getElem?_append_right (Nat.le_refl _)] at hz
      simp at hz
      subst hz
      refine ⟨by rw [List.getElem?_append_right (by omega), hxl]; simp, u, by rw [List.getElem?_append_right (by omega), hxl]; simp, keep (ownsRow_base hu fun b hb' => Nat.le_trans hbase (hu.lt b hb').1)⟩
  · have hjl : 2 * j + 1 < (xs ++ [.int .i64 tt, u]).length := (List.getElem?_eq_some_iff.1 hc).1
    simp [hxl] at hjl
    have hil : i < ps.length := by omega
    rw [List.getElem?_append_left (by omega)] at ha
    by_cases hlt : j < ps.length
    · rw [List.getElem?_append_left (by omega)] at hc
      exact h.ap i j a c b hij ha hc hab
    · have hj : j = ps.length := by omega
      subst hj
      rw [List.getElem?_append_right (by omega), hxl] at hc
      simp at hc
      subst hc
      obtain ⟨_, u', k2, k3⟩ := h.at' i ps[i] (List.getElem?_eq_getElem hil)
      rw [k2] at ha
      simp only [Option.some.injEq] at ha
      subst ha
      intro e
      have h1 := (k3.lt b hab).2
      have h2 := (hu.lt b e).1
      omega
/-- The packets of a question. -/
def PQ.bytes (q : PQ) : List Int := recB q.kd [q.nr, 0, q.pl, q.ct.kd, q.ct.cl, q.ct.ca] q.ct.val
def PQ.pkts (q : PQ) : List (Int × List Int) := q.nodes.map fun u => (u, q.bytes)
/-- The cells of a question that nobody has answered, in block g behind o. -/
structure QC (w : World) (tag : Nat → Nat) (tc g o : Nat) (q : PQ) (va na : Option Addr) (vc nc gm : Nat) : Prop where
  c0 : w.cell? ⟨g, o, none⟩ = some (.int .i64 q.kd)
  c1 : w.cell? ⟨g, o + 1, none⟩ = some (.int .i64 q.nr)
  c2 : w.cell? ⟨g, o + 2, none⟩ = some (.int .i64 0)
  c3 : w.cell? ⟨g, o + 3, none⟩ = some (.int .i64 q.pl)
  c4 : w.cell? ⟨g, o + 4, none⟩ = some (.int .i64 q.ct.kd)
  c5 : w.cell? ⟨g, o + 5, none⟩ = some (.int .i64 q.ct.cl)
  c6 : w.cell? ⟨g, o + 6, none⟩ = some (.int .i64 q.ct.ca)
  c7 : w.cell? ⟨g, o + 7, none⟩ = some (.slice va q.ct.val.length vc)
  c8 : w.cell? ⟨g, o + 8, none⟩ = some (.slice na q.nodes.length nc)
  c10 : w.cell? ⟨g, o + 10, none⟩ = some (.map (some gm))
  v : Rd w tag tc 5 (.slice va q.ct.val.length vc) (q.ct.val.map B8)
  ns : Rd w tag tc 3 (.slice na q.nodes.length nc) (q.nodes.map (Value.int .i64))
  mp : w.heap[gm]? = some (.map #[] 0)
  lg : g < w.heap.size
theorem QC.bl {w w' : World} {tag : Nat → Nat} {tc g o : Nat} {q : PQ} {va na : Option Addr} {vc nc gm : Nat} (h : QC w tag tc g o q va na vc nc gm) (hb : Bl w w') : QC w' tag tc g o q va na vc nc gm :=
  ⟨(hb.cell h.lg).trans h.c0, (hb.cell h.lg).trans h.c1, (hb.cell h.lg).trans h.c2, (hb.cell h.lg).trans h.c3, (hb.cell h.lg).trans h.c4, (hb.cell h.lg).trans h.c5, (hb.cell h.lg).trans h.c6, (hb.cell h.lg).trans h.c7, (hb.cell h.lg).trans h.c8, (hb.cell h.lg).trans h.c10, h.v.bl hb (fun _ _ e => e), h.ns.bl hb (fun _ _ e => e), (hb.heap (Array.getElem?_eq_some_iff.1 h.mp).1).trans h.mp, Nat.lt_of_lt_of_le h.lg hb.lt⟩
set_option maxRecDepth 100000 in
set_option maxHeartbeats 4000000 in
theorem qout_due {w W1 : World} {tag : Nat → Nat} {tc g o : Nat} {q : PQ} {va na : Option Addr} {vc nc gm : Nat} (c9 : w.cell? ⟨g, o + 9, none⟩ = some (.bool true)) (f9 : w.frozen? ⟨g, o + 9, none⟩ = false) (hW1 : w.setCell ⟨g, o + 9, none⟩ (.bool false) = W1) (h : QC W1 tag tc g o q va na vc nc gm) (k0 : 0 ≤ q.kd) (k1 : q.kd ≤ 255) (hvl : q.ct.val.length ≤ 255) (hnl : q.nodes.length ≤ 100) (hn0 : 0 < q.nodes.length) :
    Calls Tryz.prog 207 #[.pointer (some ⟨g, o, none⟩)] w fun en w' => ∃ v xs, en = .returned v ∧ PkR W1.heap.size w' v q.pkts xs ∧ Bl W1 w' := by
  obtain ⟨i174, j174, t0, t1, t2⟩ := info_parts Tryz.info174
  obtain ⟨bn, on, cn, hnv, lbn, _, _, hncell⟩ := h.ns.cell (by simpa using hn0)
  rw [List.length_map] at hnv
  simp only [Value.slice.injEq, true_and] at hnv
  obtain ⟨rfl, rfl⟩ := hnv
  have c8 := h.c8
  have lg := h.lg
  have HW1 := hid hW1
  have HQ := hid h
  have HN := hid hncell
  clear h hW1 hncell
  go_enter Tryz.func207, Tryz.ntmps207
  go_upto_region 4 with fail
  rw [HW1.out]
  clear HW1
  go_wp2
  go_loopw [3, 21] (fun d i wr => ∃ k : Nat, k ≤ q.nodes.length ∧ i = .int .i64 k ∧ (∃ xs, Hid (PkR W1.heap.size wr d (q.pkts.take k) xs)) ∧ Hid (Bl W1 wr)) (fun _ i _ => q.nodes.length - (Go.RowKit.intOf i).toNat)
  case atStart => exact ⟨0, Nat.zero_le _, rfl, ⟨[], PkR.nil _ _⟩, Bl.refl _⟩
  case round =>
    obtain ⟨k, hk, rfl, ⟨xs, HP⟩, HB⟩ := hrel
    by_cases hlt : k < q.nodes.length
    · have hltI : (k : Int) < (q.nodes.length : Int) := by omega
      have d0 := (HB.out.cell lbn).trans (HN.out k (.int .i64 q.nodes[k]) (by simp [hlt]))
      have hQr := HQ.out.bl HB.out
      obtain ⟨e0, e1, e2, e3, e4, e5, e6, e7, e8, e10, ev, en, emp, elg⟩ := hQr
      have hlk := look101_none wr gm 0 emp q.nodes[k]
      have Hbs := hid ev
      have lbr := Nat.lt_of_lt_of_le lbn HB.out.lt
      have hpk : Hid (q.pkts.take (k + 1) = q.pkts.take k ++ [(q.nodes[k], q.bytes)]) := by
        unfold Hid
        rw [List.take_succ_eq_append_getElem (by simpa [PQ.pkts] using hlt)]
        simp [PQ.pkts]
      have hptl : Hid ((q.pkts.take k).length = k) := by unfold Hid; simp [PQ.pkts]; omega
      generalize q.nodes[k] = nk at *
      have bA := (Bl.refl wr).alloc (.cells #[.int .i64 0, .int .i64 0, .int .i64 0, .int .i64 0, .int .i64 0, .int .i64 0, .slice none 0 0] 210)
      have x0 := (bA.cell elg).trans e0
      have x1 := (bA.cell elg).trans e1
      have x2 := (bA.cell elg).trans e2
      have x3 := (bA.cell elg).trans e3
      have x4 := (bA.cell elg).trans e4
      have x5 := (bA.cell elg).trans e5
      have x6 := (bA.cell elg).trans e6
      have x7 := (bA.cell elg).trans e7
      have HR := hid (requestBytes_any q.kd q.nr 0 q.pl q.ct.kd q.ct.cl q.ct.ca va vc q.ct.val (wr.alloc (.cells #[.int .i64 0, .int .i64 0, .int .i64 0, .int .i64 0, .int .i64 0, .int .i64 0, .slice none 0 0] 210)) k0 k1 (ev.bs.bl bA) (fun b hb => Nat.lt_of_lt_of_le (ev.blk b hb).1 bA.lt) hvl)
      have HA := hid bA
      have hml : Hid (k + 1 ≤ maxLen) := by unfold Hid maxLen; omega
      have hby : Hid ((k + 1) * 32 ≤ 140737488355328) := by unfold Hid; omega
      clear bA emp ev en e1 e2 e3 e4 e5 e6 e7
      have hown0 := HP.out.own
      rw [hptl.out] at hown0
      have HO0 := hid hown0
      clear hown0
      go_wp2_with fail
      refine HR.out.mono ?_
      rintro en2 w1 ⟨ba, bc, rfl, hb1, ho1⟩
      have HB1 := hid (HA.out.trans hb1)
      have HO1 := hid (ownsRow_base (base' := wr.heap.size) ho1 (fun b hb => Nat.le_trans (Nat.le_succ _) (by have := (ho1.lt b hb).1; simpa using this)))
      have HOW := hid ((Only.of_bl (S := fun _ => False) HB1.out).owns HO0.out fun _ _ e => e)
      have lw1 := Nat.le_trans HB.out.lt HB1.out.lt
      have hd : Hid (recB q.kd [q.nr, 0, q.pl, q.ct.kd, q.ct.cl, q.ct.ca] q.ct.val = q.bytes) := rfl
      rw [hd.out] at HO1 ⊢
      clear hb1 ho1 HR
      go_wp2_with (at_builtin; refine wpList_append_lies _ rfl _ _ 120 rfl W1.heap.size 174 i174 _ 2 32 Tryz.underlying120 j174 t0 t1 t2 rfl (by decide) _ k _ rfl (HOW.out.alloc _) ⟨w1.heap.size, 0, none⟩ 1 1 [.int .i64 nk, .slice ba q.bytes.length bc] rfl rfl (World.news_of_block (cs := #[.int .i64 nk, .slice ba q.bytes.length bc]) (t := 174) (fr := (0, 0)) (heap_alloc_new w1 _)) (by simp [Value.oneCell']) (by decide) hml.out hby.out (by simp; omega) (w1.heap.size + 1) (by simp) ?_)
      intro g' cap' w3 hown hgrow hat hlt'
      have HPX := HP.out.push (tt := nk) HB1.out HO1.out HB.out.lt (by rw [hptl.out]; exact hown) hgrow
      rw [← hpk.out, hptl.out] at HPX
      have HP3 := hid HPX
      have HB3 : Hid (Bl W1 w3) := ((HB.out.trans HB1.out).alloc _).trans_only (Only.of_grown hgrow) fun b e => (HOW.out.lt b e.symm).1
      clear hown hgrow hat HPX
      go_wp2
      go_roundw
      case rel => exact ⟨k + 1, by omega, by go_num, ⟨_, HP3⟩, HB3⟩
      case measure => simp [Go.RowKit.intOf]; omega
    · have hkn : k = q.nodes.length := by omega
      subst hkn
      go_wp2
      go_ret
      refine ⟨_, xs, rfl, ?_, HB.out⟩
      have := HP.out
      rw [List.take_of_length_le (by simp [PQ.pkts])] at this
      exact this
end Go.Proofs.YtnhjmiglegdamaaGreat

namespace Go.Proofs.YtnhjmiglegdamaaGreat
open Go.RowKit Go.Maps
attribute [local go_sem ↓] Go.wp_at_zero Go.wp_at_succ
/-- What a question gives out. -/
def PQ.outP (q : PQ) : List (Int × List Int) := if q.due then q.pkts else []
theorem PkR.app {base B : Nat} {w w' : World} {v u v' : Value} {ps qs : List (Int × List Int)} {xs ys : List Value} (h : PkR base w v ps xs) (hlt : ∀ i u b, xs[2 * i + 1]? = some u → u.ownBlock = some b → b < B) (k : PkR B w u qs ys) (hB : base ≤ B) (hown : w'.ownsRow base 174 2 v' (ps.length + qs.length) (xs ++ ys)) (ho : Only (fun b => v.ownBlock = some b) w w') : PkR base w' v' (ps ++ qs) (xs ++ ys) := by
  have hxl : xs.length = 2 * ps.length := by have := h.own.1; omega
  have keep : ∀ {c m : Nat} {z : Value} {ls : List Value}, w.ownsRow c 5 1 z m ls → w'.ownsRow c 5 1 z m ls := fun hz => ho.owns hz fun b hb' e => ownsRow_type hz h.own (by decide) b hb' e
  refine ⟨by rw [List.length_append]; exact hown, fun i z hz => ?_, fun i j a c b hij ha hc hab => ?_⟩
  · by_cases hl : i < ps.length
    · rw [List.getElem?_append_left hl] at hz
      obtain ⟨k1, u', k2, k3⟩ := h.at' i z hz
      exact ⟨by rw [List.getElem?_append_left (by omega)]; exact k1, u', by rw [List.getElem?_append_left (by omega)]; exact k2, keep k3⟩
    · rw [List.getElem?_append_right (by omega)] at hz
      obtain ⟨k1, u', k2, k3⟩ := k.at' _ z hz
      refine ⟨?_, u', ?_, keep (ownsRow_base k3 fun b hb => Nat.le_trans hB (k3.lt b hb).1)⟩
      · rw [List.getElem?_append_right (by omega), hxl, ← Nat.mul_sub]; exact k1
      · rw [List.getElem?_append_right (by omega), hxl, show 2 * i + 1 - 2 * ps.length = 2 * (i - ps.length) + 1 by omega]; exact k2
  · by_cases hi : i < ps.length
    · rw [List.getElem?_append_left (by omega)] at ha
      by_cases hj : j < ps.length
      · rw [List.getElem?_append_left (by omega)] at hc
        exact h.ap i j a c b hij ha hc hab
      · rw [List.getElem?_append_right (by omega), hxl, show 2 * j + 1 - 2 * ps.length = 2 * (j - ps.length) + 1 by omega] at hc
        intro e
        have h1 := hlt i a b ha hab
        have hlen := (List.getElem?_eq_some_iff.1 hc).1
        have hyl : ys.length = 2 * qs.length := by have := k.own.1; omega
        obtain ⟨_, u', k2, k3⟩ := k.at' (j - ps.length) qs[j - ps.length] (List.getElem?_eq_getElem (by omega))
        rw [hc] at k2
        simp only [Option.some.injEq] at k2
        subst k2
        have := (k3.lt b e).1
        omega
    · rw [List.getElem?_append_right (by omega), hxl, show 2 * i + 1 - 2 * ps.length = 2 * (i - ps.length) + 1 by omega] at ha
      rw [List.getElem?_append_right (by omega), hxl, show 2 * j + 1 - 2 * ps.length = 2 * (j - ps.length) + 1 by omega] at hc
      exact k.ap _ _ a c b (by omega) ha hc hab
theorem PkR.low {base : Nat} {w : World} {v : Value} {ps : List (Int × List Int)} {xs : List Value} (h : PkR base w v ps xs) : ∀ i u b, xs[2 * i + 1]? = some u → u.ownBlock = some b → b < w.heap.size := fun i u b hu hb => by
  have hxl : xs.length = 2 * ps.length := by have := h.own.1; omega
  have := (List.getElem?_eq_some_iff.1 hu).1
  obtain ⟨_, u', k2, k3⟩ := h.at' i ps[i] (List.getElem?_eq_getElem (by omega))
  rw [hu] at k2
  simp only [Option.some.injEq] at k2
  subst k2
  exact (k3.lt b hb).2
theorem PkR.one {base : Nat} {w : World} {v : Value} {ps : List (Int × List Int)} {xs : List Value} (h : PkR base w v ps xs) : ∀ u ∈ xs, u.oneCell' = true := fun u hu => by
  have hxl : xs.length = 2 * ps.length := by have := h.own.1; omega
  obtain ⟨i, hi, rfl⟩ := List.mem_iff_getElem.1 hu
  have hi2 : i / 2 < ps.length := by omega
  obtain ⟨k1, u', k2, k3⟩ := h.at' (i / 2) ps[i / 2] (List.getElem?_eq_getElem hi2)
  by_cases he : i % 2 = 0
  · have hii : 2 * (i / 2) = i := by omega
    rw [hii, List.getElem?_eq_getElem hi] at k1
    simp only [Option.some.injEq] at k1
    rw [k1]
    rfl
  · have hii : 2 * (i / 2) + 1 = i := by omega
    rw [hii, List.getElem?_eq_getElem hi] at k2
    simp only [Option.some.injEq] at k2
    rw [k2]
    exact owns_oneCell k3
set_option maxRecDepth 100000 in
set_option maxHeartbeats 2000000 in
theorem vout_not (w : World) (g o : Nat) (c9 : w.cell? ⟨g, o + 9, none⟩ = some (.bool false)) :
    Calls Tryz.prog 208 #[.pointer (some ⟨g, o, none⟩)] w fun en w' => en = .returned (.slice none 0 0) ∧ w' = w := by
  go_enter Tryz.func208, Tryz.ntmps208
  go_wp2
  go_ret
  exact ⟨rfl, rfl⟩
set_option maxRecDepth 100000 in
set_option maxHeartbeats 2000000 in
/-- A question of nobody that is due. -/
theorem qout_empty {w W1 : World} (g o : Nat) (na : Option Addr) (nc : Nat) (c9 : w.cell? ⟨g, o + 9, none⟩ = some (.bool true)) (f9 : w.frozen? ⟨g, o + 9, none⟩ = false) (hW1 : w.setCell ⟨g, o + 9, none⟩ (.bool false) = W1) (c8 : W1.cell? ⟨g, o + 8, none⟩ = some (.slice na 0 nc)) :
    Calls Tryz.prog 207 #[.pointer (some ⟨g, o, none⟩)] w fun en w' => en = .returned (.slice none 0 0) ∧ w' = W1 := by
  have HW := hid hW1
  clear hW1
  go_enter Tryz.func207, Tryz.ntmps207
  go_upto_region 4 with fail
  rw [HW.out]
  go_wp2
  refine wp_loop_rounds 1 ?_; rw [rounds_succ]
  go_wp2
  go_ret
  exact ⟨rfl, rfl⟩
section
variable {w w0 w' : World} {tag tag' : Nat → Nat} {tc p q n m : Nat} {vo ce id : Int} {X X' : CX} {lv rv vv nv av pv vv' nv' av' ov cv ev ov' cv' ev' : Value} {bm born clk k gm : Nat} {c c' : PC}
set_option maxHeartbeats 1000000 in
theorem ClK.dueP (h : ClK w tag tc p q n m vo ce id X lv rv vv nv av bm born clk) (b : Bool) : ClK (w.setCell ⟨p, 19, none⟩ (.bool b)) tag tc p q n m vo ce id { X with pr := { X.pr with due := b } } lv rv vv nv av bm born clk :=
  h.reP ((Only.refl (fun b => b = p) w).setCell ⟨p, 19, none⟩ (.inl rfl) _) (set_heap 19 _ w _ h.hp) rfl rfl ⟨h.pr.val, h.pr.nodes, h.pr.ans, h.pr.nil⟩ h.nb h.call
set_option maxHeartbeats 1000000 in
theorem ClK.dueQ (h : ClK w tag tc p q n m vo ce id X lv rv vv nv av bm born clk) (hc : X.pend = some c) (b : Bool) : ClK (w.setCell ⟨q, 25, none⟩ (.bool b)) tag tc p q n m vo ce id { X with pend := some { c with q := { c.q with due := b } } } lv rv vv nv av bm born clk := by
  obtain ⟨ov, cv, ev, v3, n3, a3, hk, hl, k2, k3⟩ := h.call c hc
  have ho : Only (fun b => b = q) w (w.setCell ⟨q, 25, none⟩ (.bool b)) := (Only.refl (fun b => b = q) w).setCell ⟨q, 25, none⟩ (.inl rfl) _
  exact h.reQ hc hk ho (hk.re (c' := { c with q := { c.q with due := b } }) ho (set_heap 25 _ w _ hk.hq) hk.own hk.cont hk.e ⟨hk.q.val, hk.q.nodes, hk.q.ans, hk.q.nil⟩) hl rfl k2 k3
def QdOk (q : PQ) : Prop := q.due = true → q.nodes = [] ∨ (q.ans = [] ∧ 0 ≤ q.kd ∧ q.kd ≤ 255 ∧ q.ct.val.length ≤ 255 ∧ q.nodes.length ≤ 100 ∧ 0 < q.nodes.length)
theorem ans_empty {v : Value} {ns : List Int} (h : AnsOk w tag tc v []) (hn : v = .map none → ns = []) (h0 : 0 < ns.length) : ∃ gm, v = .map (some gm) ∧ w.heap[gm]? = some (.map #[] 0) := by
  rcases h with ⟨e, _⟩ | ⟨gm, l, e, _, hm, hl, _⟩
  · rw [hn e] at h0; simp at h0
  · have : l = [] := List.length_eq_zero_iff.1 (by simpa using hl)
    subst this
    exact ⟨gm, e, hm⟩
theorem cl_qoutP (h : ClK w tag tc p q n m vo ce id X lv rv vv nv av bm born clk) (hd : QdOk X.pr) :
    Calls Tryz.prog 207 #[.pointer (some ⟨p, 10, none⟩)] w fun en w' => ∃ v xs, en = .returned v ∧ PkR w.heap.size w' v X.pr.outP xs ∧ ClK w' tag tc p q n m vo ce id { X with pr := { X.pr with due := false } } lv rv vv nv av bm born clk ∧ Only (fun b => b = p) w w' := by
  cases hdue : X.pr.due
  · have hX : ({ X with pr := { X.pr with due := false } } : CX) = X := by
      cases X; rename_i a b pr c; cases pr; simp at hdue; simp [hdue]
    rw [hX]
    refine (qout_not w p 10 (by have := h.cellAt 19 rfl; rw [hdue] at this; exact this)).mono ?_
    rintro en w' ⟨rfl, rfl⟩
    exact ⟨_, [], rfl, by unfold PQ.outP; rw [hdue]; exact PkR.nil _ _, h, Only.refl _ _⟩
  · have H1 := h.dueP false
    have O1 : Only (fun b => b = p) w (w.setCell ⟨p, 19, none⟩ (.bool false)) := (Only.refl (fun b => b = p) w).setCell ⟨p, 19, none⟩ (.inl rfl) _
    have c9 : w.cell? ⟨p, 19, none⟩ = some (.bool true) := by have := h.cellAt 19 rfl; rw [hdue] at this; exact this
    rcases hd hdue with hn | ⟨h1, h2, h3, h4, h5, h6⟩
    · obtain ⟨na, nc, hnv⟩ := H1.pr.nodes.shape
      have hn' : X.pr.nodes.length = 0 := by rw [hn]; rfl
      rw [List.length_map] at hnv
      have c8 := H1.cellAt 18 rfl
      rw [hnv] at c8
      simp only at c8
      rw [hn'] at c8
      refine (qout_empty p 10 na nc c9 (h.frz 19) rfl c8).mono ?_
      rintro en w' ⟨rfl, rfl⟩
      refine ⟨_, [], rfl, ?_, H1, O1⟩
      have : X.pr.outP = [] := by unfold PQ.outP PQ.pkts; rw [hdue, hn]; rfl
      rw [this]
      exact PkR.nil _ _
    · obtain ⟨gm, hav, hgm⟩ := ans_empty (w := w.setCell ⟨p, 19, none⟩ (.bool false)) (by have := H1.pr.ans; simp only at this; rw [h1] at this; exact this) H1.pr.nil h6
      subst hav
      obtain ⟨va, vc, hvv⟩ := H1.pr.val.shape
      obtain ⟨na, nc, hnv⟩ := H1.pr.nodes.shape
      rw [List.length_map] at hvv hnv
      subst hvv hnv
      have hQ : QC (w.setCell ⟨p, 19, none⟩ (.bool false)) tag tc p 10 X.pr va na vc nc gm := ⟨H1.cellAt 10 rfl, H1.cellAt 11 rfl, H1.cellAt 12 rfl, H1.cellAt 13 rfl, H1.cellAt 14 rfl, H1.cellAt 15 rfl, H1.cellAt 16 rfl, H1.cellAt 17 rfl, H1.cellAt 18 rfl, H1.cellAt 20 rfl, H1.pr.val, H1.pr.nodes, hgm, H1.lp⟩
      refine (qout_due c9 (h.frz 19) rfl hQ h2 h3 h4 h5 h6).mono ?_
      rintro en w' ⟨v, xs, rfl, hP, hB⟩
      have hsz : (w.setCell ⟨p, 19, none⟩ (.bool false)).heap.size = w.heap.size := by simp [World.setCell]
      rw [hsz] at hP
      exact ⟨v, xs, rfl, by unfold PQ.outP; rw [hdue]; exact hP, H1.bl hB (fun _ _ e => e), O1.trans (Only.of_bl hB)⟩
theorem cl_qoutC (h : ClK w tag tc p q n m vo ce id X lv rv vv nv av bm born clk) (hc : X.pend = some c) (hd : QdOk c.q) :
    Calls Tryz.prog 207 #[.pointer (some ⟨q, 16, none⟩)] w fun en w' => ∃ v xs, en = .returned v ∧ PkR w.heap.size w' v c.q.outP xs ∧ ClK w' tag tc p q n m vo ce id { X with pend := some { c with q := { c.q with due := false } } } lv rv vv nv av bm born clk ∧ Only (fun b => b = q) w w' := by
  obtain ⟨ov, cv, ev, v3, n3, a3, hk, hl, k2, k3⟩ := h.call c hc
  cases hdue : c.q.due
  · have hX : ({ X with pend := some { c with q := { c.q with due := false } } } : CX) = X := by
      cases X; cases c; rename_i q'; cases q'; simp at hdue hc; simp [hdue, hc]
    rw [hX]
    refine (qout_not w q 16 (by have := hk.cellAt 25 rfl; rw [hdue] at this; exact this)).mono ?_
    rintro en w' ⟨rfl, rfl⟩
    exact ⟨_, [], rfl, by unfold PQ.outP; rw [hdue]; exact PkR.nil _ _, h, Only.refl _ _⟩
  · have H1 := h.dueQ hc false
    have O1 : Only (fun b => b = q) w (w.setCell ⟨q, 25, none⟩ (.bool false)) := (Only.refl (fun b => b = q) w).setCell ⟨q, 25, none⟩ (.inl rfl) _
    have c9 : w.cell? ⟨q, 25, none⟩ = some (.bool true) := by have := hk.cellAt 25 rfl; rw [hdue] at this; exact this
    obtain ⟨ov1, cv1, ev1, v1, n1, a1, hk1, _, _, _⟩ := H1.call _ rfl
    rcases hd hdue with hn | ⟨h1, h2, h3, h4, h5, h6⟩
    · obtain ⟨na, nc, hnv⟩ := hk1.q.nodes.shape
      have hn' : c.q.nodes.length = 0 := by rw [hn]; rfl
      rw [List.length_map] at hnv
      have c8 := hk1.cellAt 24 rfl
      rw [hnv] at c8
      simp only at c8
      rw [hn'] at c8
      refine (qout_empty q 16 na nc c9 (hk.frz 25) rfl c8).mono ?_
      rintro en w' ⟨rfl, rfl⟩
      refine ⟨_, [], rfl, ?_, H1, O1⟩
      have : c.q.outP = [] := by unfold PQ.outP PQ.pkts; rw [hdue, hn]; rfl
      rw [this]
      exact PkR.nil _ _
    · obtain ⟨gm, hav, hgm⟩ := ans_empty (w := w.setCell ⟨q, 25, none⟩ (.bool false)) (by have := hk1.q.ans; simp only at this; rw [h1] at this; exact this) hk1.q.nil h6
      subst hav
      obtain ⟨va, vc, hvv⟩ := hk1.q.val.shape
      obtain ⟨na, nc, hnv⟩ := hk1.q.nodes.shape
      rw [List.length_map] at hvv hnv
      subst hvv hnv
      have hQ : QC (w.setCell ⟨q, 25, none⟩ (.bool false)) tag tc q 16 c.q va na vc nc gm := ⟨hk1.cellAt 16 rfl, hk1.cellAt 17 rfl, hk1.cellAt 18 rfl, hk1.cellAt 19 rfl, hk1.cellAt 20 rfl, hk1.cellAt 21 rfl, hk1.cellAt 22 rfl, hk1.cellAt 23 rfl, hk1.cellAt 24 rfl, hk1.cellAt 26 rfl, hk1.q.val, hk1.q.nodes, hgm, hk1.lt⟩
      refine (qout_due c9 (hk.frz 25) rfl hQ h2 h3 h4 h5 h6).mono ?_
      rintro en w' ⟨v, xs, rfl, hP, hB⟩
      have hsz : (w.setCell ⟨q, 25, none⟩ (.bool false)).heap.size = w.heap.size := by simp [World.setCell]
      rw [hsz] at hP
      exact ⟨v, xs, rfl, by unfold PQ.outP; rw [hdue]; exact hP, H1.bl hB (fun _ _ e => e), O1.trans (Only.of_bl hB)⟩
def CX.outX (X : CX) : CX := { X with pr := { X.pr with due := false }, pend := X.pend.map fun c => { c with q := { c.q with due := false } } }
def CX.outP (X : CX) : List (Int × List Int) := ((X.pend.map fun c => c.q.outP).getD []) ++ X.pr.outP
set_option maxRecDepth 100000 in
set_option maxHeartbeats 4000000 in
theorem cl_out1 (h : ClK w tag tc p q n m vo ce id X lv rv vv nv av bm born clk) (hc : X.pend = some c) (hn : c.num ≤ 1000) (hd : QdOk c.q) (hd2 : QdOk X.pr) (hl1 : c.q.outP.length ≤ 100) (hl2 : X.pr.outP.length ≤ 100) :
    Calls Tryz.prog 158 #[.pointer (some ⟨p, 0, none⟩)] w fun en w' => ∃ v xs, en = .returned v ∧ PkR w.heap.size w' v X.outP xs ∧ ClK w' (tagTo tag w.heap.size (tc + 1)) tc p q n m vo ce id X.outX lv rv vv nv av bm born clk ∧ Only (fun b => b = p ∨ b = q) w w' := by
  obtain ⟨i174, j174, t0, t1, t2⟩ := info_parts Tryz.info174
  have HC := hid (cl_calls1 h hc hn)
  have H1 : Hid (∀ W, Bl w W → ClK W (tagTo tag w.heap.size (tc + 1)) tc p q n m vo ce id X lv rv vv nv av bm born clk) := fun W hW => h.bl hW fun b hb e => by rw [tagTo_old _ _ _ _ hb]; exact e
  have lp := h.lp
  have lq : q < w.heap.size := by
    obtain ⟨ov, cv, ev, v3, n3, a3, hk, _⟩ := h.call c hc
    exact hk.lt
  have hX : Hid (X.outP = c.q.outP ++ X.pr.outP) := by unfold Hid CX.outP; rw [hc]; rfl
  have hX2 : Hid (X.outX = { ({ X with pend := some { c with q := { c.q with due := false } } } : CX) with pr := { X.pr with due := false } }) := by unfold Hid CX.outX; rw [hc]; rfl
  have hb1 : Hid ((0 + c.q.outP.length) * 32 ≤ 140737488355328) := by unfold Hid; omega
  have hm1 : Hid (0 + c.q.outP.length ≤ maxLen) := by unfold Hid maxLen; omega
  have hb2 : Hid ((c.q.outP.length + X.pr.outP.length) * 32 ≤ 140737488355328) := by unfold Hid; omega
  have hm2 : Hid (c.q.outP.length + X.pr.outP.length ≤ maxLen) := by unfold Hid maxLen; omega
  clear h hl1 hl2
  go_enter Tryz.func158, Tryz.ntmps158
  go_wp2_with (go_at_call 189; refine HC.out.mono ?_; rintro en w1 ⟨g, cap, rfl, lg, hg, hb1⟩; have HB1 := hid hb1; clear HC hb1)
  refine wp_loop_rounds 2 ?_; rw [rounds_succ]
  have HQ := hid (cl_qoutC (H1.out w1 HB1.out) hc hd)
  go_wp2_with fail
  refine HQ.out.mono ?_
  rintro en w2 ⟨v2, xs2, rfl, hP2, hK2, hO2⟩
  have HP2 := hid hP2
  have HK2 := hid hK2
  have HO2 := hid hO2
  have l12 := hO2.size
  have lw1 := HB1.out.lt
  obtain ⟨a2, c2, hv2⟩ : ∃ a c', v2 = .slice a c.q.outP.length c' := by
    rcases hP2.own.2 with ⟨e, e'⟩ | ⟨g, cap, cur, e, _⟩
    · exact ⟨none, 0, by rw [e, e']⟩
    · exact ⟨_, _, e⟩
  subst hv2
  clear HQ hP2 hK2 hO2 hg lg
  go_wp2_with (at_builtin; refine wpList_append_row _ rfl _ _ 120 rfl w.heap.size 174 i174 _ 2 32 Tryz.underlying120 j174 t0 t1 t2 rfl (by decide) (.slice none 0 0) 0 [] rfl (World.ownsRow_nil _ _ _ _) _ c.q.outP.length w1.heap.size xs2 rfl HP2.out.own HP2.out.one hm1.out hb1.out (by omega) ?_)
  intro v3 w3 hown3 ho3 _
  have hB3 : Bl w2 w3 := ho3.to_bl (fun k _ e => by simp [Value.ownBlock] at e)
  have hP3 : PkR w.heap.size w3 v3 ([] ++ c.q.outP) ([] ++ xs2) := (PkR.nil w.heap.size w2).app (B := w1.heap.size) (fun i u b h => by simp at h) HP2.out (by omega) (by simpa using hown3) ho3
  rw [List.nil_append, List.nil_append] at hP3
  have HP3 := hid hP3
  have HK3 := hid (HK2.out.bl hB3 (tag' := tagTo tag w.heap.size (tc + 1)) (fun _ _ e => e))
  have HO3 := hid (HO2.out.trans (Only.of_bl hB3))
  have l23 := hB3.lt
  clear hown3 ho3 hB3 HP2 HK2 HO2
  obtain ⟨a3, c3, hv3⟩ : ∃ a c', v3 = .slice a c.q.outP.length c' := by
    rcases hP3.own.2 with ⟨e, e'⟩ | ⟨g, cap, cur, e, _⟩
    · exact ⟨none, 0, by rw [e, e']⟩
    · exact ⟨_, _, e⟩
  clear hP3
  subst hv3
  go_wp2
  rw [rounds_succ]
  have HQ := hid (cl_qoutP HK3.out hd2)
  go_wp2_with fail
  refine HQ.out.mono ?_
  rintro en w4 ⟨v4, xs4, rfl, hP4, hK4, hO4⟩
  have HP4 := hid hP4
  have HK4 := hid hK4
  have HO4 := hid (HO3.out.mono (T := fun b => b = p ∨ b = q) (fun _ _ e => .inr e) |>.trans (hO4.mono fun _ _ e => .inl e))
  have l34 := hO4.size
  have HP34 := hid (HP3.out.only hO4 (fun b hb _ e => by omega))
  obtain ⟨a4, c4, hv4⟩ : ∃ a c', v4 = .slice a X.pr.outP.length c' := by
    rcases hP4.own.2 with ⟨e, e'⟩ | ⟨g, cap, cur, e, _⟩
    · exact ⟨none, 0, by rw [e, e']⟩
    · exact ⟨_, _, e⟩
  subst hv4
  have HL3 := hid HP3.out.low
  clear HQ hP4 hK4 hO4 HK3 HO3 HP3
  go_wp2_with (at_builtin; refine wpList_append_row _ rfl _ _ 120 rfl w.heap.size 174 i174 _ 2 32 Tryz.underlying120 j174 t0 t1 t2 rfl (by decide) _ c.q.outP.length xs2 rfl HP34.out.own _ X.pr.outP.length w3.heap.size xs4 rfl HP4.out.own HP4.out.one hm2.out hb2.out (by omega) ?_)
  intro v5 w5 hown5 ho5 _
  have HP5 := hid (HP34.out.app (B := w3.heap.size) HL3.out HP4.out (by omega) hown5 ho5)
  have hK5 := HK4.out.only ho5 (tag' := tagTo tag w.heap.size (tc + 1)) (fun b _ e => by rw [tagTo_new _ _ _ _ (HP34.out.own.lt b e).1]; omega) (fun _ _ e => e)
  have HO5 : Hid (Only (fun b => b = p ∨ b = q) w w5) := ⟨ho5.os.trans HO4.out.os |>.trans HB1.out.os, ho5.tape.trans HO4.out.tape |>.trans HB1.out.tape, ho5.output.trans HO4.out.output |>.trans HB1.out.output, by have := ho5.size; omega, fun i hi hs => by
    rw [ho5.block i (by omega) (fun e => by have := (HP34.out.own.lt i e).1; omega), HO4.out.block i (by omega) hs, HB1.out.heap hi]⟩
  obtain ⟨a5, c5, hv5⟩ : ∃ a c', v5 = .slice a (c.q.outP.length + X.pr.outP.length) c' := by
    rcases hown5.2 with ⟨e, e'⟩ | ⟨g, cap, cur, e, _⟩
    · exact ⟨none, 0, by rw [e, e']⟩
    · exact ⟨_, _, e⟩
  subst hv5
  have y37 := hK5.cellAt 37 rfl
  have y48 := hK5.cellAt 48 rfl
  have lp5 := hK5.lp
  have HV := hid (qout_not w5 p 28 y37)
  have HW := hid (vout_not w5 p 39 y48)
  have HOw := hid hown5
  have HK5 := hid hK5
  clear hown5 ho5 HP34 HK4 HO4 HP4 hK5
  go_wp2_with (first | (go_at_call 207; refine HV.out.mono ?_; rintro en w6 ⟨rfl, rfl⟩) | (go_at_call 208; refine HW.out.mono ?_; rintro en w6 ⟨rfl, rfl⟩) | (at_builtin; refine wpList_append_own_none rfl _ _ 120 rfl w.heap.size 174 i174 2 Tryz.underlying120 j174 _ (c.q.outP.length + X.pr.outP.length) _ rfl HOw.out rfl ?_))
  go_ret
  exact ⟨_, _, rfl, by rw [hX.out]; exact HP5.out, by rw [hX2.out]; exact HK5.out, HO5.out⟩
set_option maxRecDepth 100000 in
set_option maxHeartbeats 4000000 in
theorem cl_out0 (h : ClK w tag tc p q n m vo ce id X lv rv vv nv av bm born clk) (hc : X.pend = none) (hd2 : QdOk X.pr) (hl2 : X.pr.outP.length ≤ 100) :
    Calls Tryz.prog 158 #[.pointer (some ⟨p, 0, none⟩)] w fun en w' => ∃ v xs, en = .returned v ∧ PkR w.heap.size w' v X.outP xs ∧ ClK w' (tagTo tag w.heap.size (tc + 1)) tc p q n m vo ce id X.outX lv rv vv nv av bm born clk ∧ Only (fun b => b = p) w w' := by
  obtain ⟨i174, j174, t0, t1, t2⟩ := info_parts Tryz.info174
  have HC := hid (cl_calls0 h hc)
  have H1 : Hid (∀ W, Bl w W → ClK W (tagTo tag w.heap.size (tc + 1)) tc p q n m vo ce id X lv rv vv nv av bm born clk) := fun W hW => h.bl hW fun b hb e => by rw [tagTo_old _ _ _ _ hb]; exact e
  have lp := h.lp
  have hX : Hid (X.outP = X.pr.outP) := by unfold Hid CX.outP; rw [hc]; rfl
  have hX2 : Hid (X.outX = { X with pr := { X.pr with due := false } }) := by unfold Hid CX.outX; rw [hc]; rfl
  have hb2 : Hid ((0 + X.pr.outP.length) * 32 ≤ 140737488355328) := by unfold Hid; omega
  have hm2 : Hid (0 + X.pr.outP.length ≤ maxLen) := by unfold Hid maxLen; omega
  clear h hl2
  go_enter Tryz.func158, Tryz.ntmps158
  go_wp2_with (go_at_call 189; refine HC.out.mono ?_; rintro en w1 ⟨rfl, hb1⟩; have HB1 := hid hb1; clear HC hb1)
  refine wp_loop_rounds 1 ?_; rw [rounds_succ]
  have HQ := hid (cl_qoutP (H1.out w1 HB1.out) hd2)
  go_wp2_with fail
  refine HQ.out.mono ?_
  rintro en w4 ⟨v4, xs4, rfl, hP4, hK4, hO4⟩
  have HP4 := hid hP4
  have HK4 := hid hK4
  have HO4 := hid hO4
  have l14 := hO4.size
  have lw1 := HB1.out.lt
  obtain ⟨a4, c4, hv4⟩ : ∃ a c', v4 = .slice a X.pr.outP.length c' := by
    rcases hP4.own.2 with ⟨e, e'⟩ | ⟨g, cap, cur, e, _⟩
    · exact ⟨none, 0, by rw [e, e']⟩
    · exact ⟨_, _, e⟩
  subst hv4
  clear HQ hP4 hK4 hO4
  go_wp2_with (at_builtin; refine wpList_append_row _ rfl _ _ 120 rfl w.heap.size 174 i174 _ 2 32 Tryz.underlying120 j174 t0 t1 t2 rfl (by decide) (.slice none 0 0) 0 [] rfl (World.ownsRow_nil _ _ _ _) _ X.pr.outP.length w1.heap.size xs4 rfl HP4.out.own HP4.out.one hm2.out hb2.out (by omega) ?_)
  intro v5 w5 hown5 ho5 _
  have hB5 : Bl w4 w5 := ho5.to_bl (fun k _ e => by simp [Value.ownBlock] at e)
  have hP5 : PkR w.heap.size w5 v5 ([] ++ X.pr.outP) ([] ++ xs4) := (PkR.nil w.heap.size w4).app (B := w1.heap.size) (fun i u b h => by simp at h) HP4.out (by omega) (by simpa using hown5) ho5
  rw [List.nil_append, List.nil_append] at hP5
  have HP5 := hid hP5
  have hK5 := HK4.out.bl hB5 (tag' := tagTo tag w.heap.size (tc + 1)) (fun _ _ e => e)
  have HO5 : Hid (Only (fun b => b = p) w w5) := ((Only.of_bl HB1.out).trans HO4.out).trans (Only.of_bl hB5)
  obtain ⟨a5, c5, hv5⟩ : ∃ a c', v5 = .slice a X.pr.outP.length c' := by
    rcases hP5.own.2 with ⟨e, e'⟩ | ⟨g, cap, cur, e, _⟩
    · exact ⟨none, 0, by rw [e, e']⟩
    · exact ⟨_, _, e⟩
  subst hv5
  have y37 := hK5.cellAt 37 rfl
  have y48 := hK5.cellAt 48 rfl
  have lp5 := hK5.lp
  have HV := hid (qout_not w5 p 28 y37)
  have HW := hid (vout_not w5 p 39 y48)
  have HOw := hid hP5.own
  have HK5 := hid hK5
  clear hown5 ho5 HK4 HO4 HP4 hK5 hP5 hB5
  go_wp2_with (first | (go_at_call 207; refine HV.out.mono ?_; rintro en w6 ⟨rfl, rfl⟩) | (go_at_call 208; refine HW.out.mono ?_; rintro en w6 ⟨rfl, rfl⟩) | (at_builtin; refine wpList_append_own_none rfl _ _ 120 rfl w.heap.size 174 i174 2 Tryz.underlying120 j174 _ X.pr.outP.length _ rfl HOw.out rfl ?_))
  go_ret
  exact ⟨_, _, rfl, by rw [hX.out]; exact HP5.out, by rw [hX2.out]; exact HK5.out, HO5.out⟩
/-- What a client may be that gives out. -/
structure OutOk (X : CX) : Prop where
  p1 : QdOk X.pr
  p2 : X.pr.outP.length ≤ 100
  c1 : ∀ c, X.pend = some c → c.num ≤ 1000 ∧ QdOk c.q ∧ c.q.outP.length ≤ 100
set_option maxRecDepth 100000 in
set_option maxHeartbeats 2000000 in
theorem fcl_out (h : ClK w tag tc p q n m vo ce id X lv rv vv nv av bm born clk) (hO : OutOk X) :
    Calls Tryz.prog 98 #[.pointer (some ⟨p, 0, none⟩)] w fun en w' => ∃ a c' xs, en = .returned (.slice a X.outP.length c') ∧ PkR w.heap.size w' (.slice a X.outP.length c') X.outP xs ∧ Cl w' (tagTo tag w.heap.size (tc + 1)) tc p q n m vo ce id X.outX ∧ Only (Tc tag tc w) w w' := by
  have H : Hid (Calls Tryz.prog 158 #[.pointer (some ⟨p, 0, none⟩)] w fun en w' => ∃ v xs, en = .returned v ∧ PkR w.heap.size w' v X.outP xs ∧ Cl w' (tagTo tag w.heap.size (tc + 1)) tc p q n m vo ce id X.outX ∧ Only (Tc tag tc w) w w') := by
    cases hp : X.pend with
    | none => exact (cl_out0 h hp hO.p1 hO.p2).mono fun en w' ⟨v, xs, e1, e2, e3, e4⟩ => ⟨v, xs, e1, e2, Cl.of e3, e4.mono fun b lb e => ⟨by rw [e]; exact h.tp, h.mu b lb (by rw [e]; exact h.tp) e⟩⟩
    | some c =>
      obtain ⟨h1, h2, h3⟩ := hO.c1 c hp
      obtain ⟨ov, cv, ev, v3, n3, a3, hk, _⟩ := h.call c hp
      exact (cl_out1 h hp h1 h2 hO.p1 h3 hO.p2).mono fun en w' ⟨v, xs, e1, e2, e3, e4⟩ => ⟨v, xs, e1, e2, Cl.of e3, pq_tc h hk e4⟩
  clear h
  go_enter Tryz.func98, Tryz.ntmps98
  go_wp2_with (go_at_call 158; refine H.out.mono ?_; rintro en w1 ⟨v, xs, rfl, hP, hR⟩; obtain ⟨oa, oc, hov⟩ : ∃ oa oc, v = .slice oa X.outP.length oc := (by rcases hP.own.2 with ⟨e, e'⟩ | ⟨g, cap, cur, e, _⟩; (exact ⟨none, 0, by rw [e, e']⟩); exact ⟨_, _, e⟩); subst hov; have HP := hid hP; have HR := hid hR; clear hP hR)
  go_ret
  exact ⟨_, _, xs, rfl, HP.out, HR.out⟩
end
end Go.Proofs.YtnhjmiglegdamaaGreat
