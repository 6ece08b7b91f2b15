-- What comes behind an answer to a call.
-- What comes behind an answer to a call: by the request's kind.
-- Which question an answer belongs to.
import Derived.Test.YtnhjmiglegdamaaGreatSDoSBeginSTakenQ
import Derived.Test.YtnhjmiglegdamaaGreatSCountSWantsSAwQ
namespace Go.Proofs.YtnhjmiglegdamaaGreat
open Go.RowKit Go.Maps
attribute [local go_sem ↓] Go.wp_at_zero Go.wp_at_succ
section
variable {w w0 w' : World} {tag tag' : Nat → Nat} {tc p q n m : Nat} {vo ce id : Int} {X X' : CX} {lv rv vv nv av pv vv' nv' av' ov cv ev ov' cv' ev' : Value} {bm born clk k gm : Nat} {c c' : PC}
abbrev anV (A : An) (va : Option Addr) (vc : Nat) : Value := .agg #[.int .i64 A.wh, .int .i64 A.ep, .int .i64 A.mark, .int .i64 A.ct.kd, .int .i64 A.ct.cl, .int .i64 A.ct.ca, .slice va A.ct.val.length vc]
abbrev anO (A : An) (va : Option Addr) (vc : Nat) : Obj := .cells #[.int .i64 A.wh, .int .i64 A.ep, .int .i64 A.mark, .int .i64 A.ct.kd, .int .i64 A.ct.cl, .int .i64 A.ct.ca, .slice va A.ct.val.length vc] 210
/-- What an answer to a write may be. -/
def WrOk (c : PC) (A : An) : Prop := A.wh = 1 ∨ (A.wh = 2 ∧ (c.kind = 1 → owns c A.ct = false)) ∨ (A.wh = 4 ∧ c.place = 0 ∧ owns c A.ct = false)
set_option maxRecDepth 100000 in
set_option maxHeartbeats 4000000 in
theorem cl_wrote (h : ClK w tag tc p q n m vo ce id X lv rv vv nv av bm born clk) (hc : X.pend = some c) (hA : AdOk n m vo ce c.addr) (hpl : c.place < m) (ha : 0 ≤ X.asked) (hb : X.asked ≤ 1000000) (A : An) (hw : WrOk c A) (va : Option Addr) (vc : Nat) (ht : Rd w tag tc 5 (.slice va A.ct.val.length vc) (A.ct.val.map B8)) :
    Calls Tryz.prog 284 #[.pointer (some ⟨p, 0, none⟩), .pointer (some ⟨q, 0, none⟩), anV A va vc] w fun en w' => en = .returned (.tuple #[]) ∧ CStep w tag tc p q n m vo ce id (X.wrote n m c A) w' := by
  have bW := (Bl.refl w).alloc (anO A va vc)
  have hW1 := h.bl bW (tag' := tag) (fun _ _ e => e)
  have htW := ht.bl bW (tag' := tag) (fun _ _ e => e)
  have BW := hid bW
  rcases hw with h1 | ⟨h1, h2⟩ | ⟨h1, h2, h3⟩
  · have HN := hid (cl_goAlong hW1 hc hA hpl ha hb)
    have hX : Hid (X.wrote n m c A = X.goAlong n m c) := by unfold Hid CX.wrote; rw [if_pos h1]
    clear h hW1 htW ht bW
    unfold anV
    unfold anO at HN BW
    rw [h1] at HN BW ⊢
    go_enter Tryz.func284, Tryz.ntmps284
    go_wp2_with (go_at_call 304; refine HN.out.mono ?_; rintro en w3 ⟨rfl, hs⟩; have HS := hid hs; clear hs)
    go_end0
    exact ⟨rfl, by rw [hX.out]; exact HS.out.pre BW.out⟩
  · have HN : Hid (Calls Tryz.prog 305 #[.pointer (some ⟨p, 0, none⟩), .pointer (some ⟨q, 0, none⟩), .agg #[.int .i64 A.ct.kd, .int .i64 A.ct.cl, .int .i64 A.ct.ca, .slice va A.ct.val.length vc]] (w.alloc (anO A va vc)) fun en w' => en = .returned (.tuple #[]) ∧ CStep (w.alloc (anO A va vc)) tag tc p q n m vo ce id (X.taken n m c A.ct) w') := by
      by_cases hk : c.kind = 1
      · exact cl_taken1 hW1 hc hk A.ct (h2 hk) va vc
      · exact cl_taken3 hW1 hc hk hA hpl ha hb A.ct va vc htW
    have hX : Hid (X.wrote n m c A = X.taken n m c A.ct) := by unfold Hid CX.wrote; rw [if_neg (by rw [h1]; decide), if_pos h1]
    clear h hW1 htW ht bW
    unfold anV
    unfold anO at HN BW
    rw [h1] at HN BW ⊢
    go_enter Tryz.func284, Tryz.ntmps284
    go_wp2_with (go_at_call 305; refine HN.out.mono ?_; rintro en w3 ⟨rfl, hs⟩; have HS := hid hs; clear hs)
    go_end0
    exact ⟨rfl, by rw [hX.out]; exact HS.out.pre BW.out⟩
  · have HN := hid (cl_trimmed hW1 hc hA.fit h2 ha hb A h3 va vc)
    have hX : Hid (X.wrote n m c A = X.trimmed n m c A.mark) := by unfold Hid CX.wrote; rw [if_neg (by rw [h1]; decide), if_neg (by rw [h1]; decide)]
    clear h hW1 htW ht bW
    unfold anV
    unfold anO at HN BW
    rw [h1] at HN BW ⊢
    go_enter Tryz.func284, Tryz.ntmps284
    go_wp2_with (go_at_call 306; refine HN.out.mono ?_; rintro en w3 ⟨rfl, hs⟩; have HS := hid hs; clear hs)
    go_end0
    exact ⟨rfl, by rw [hX.out]; exact HS.out.pre BW.out⟩
theorem len101 (w : World) (gm n : Nat) (l : List (Int × Value)) (hb : w.heap[gm]? = some (.map (entsA l) n)) : (Builtin.len_ #[101] 3 #[.map (some gm)]).run Tryz.prog w = .ok (.int .i64 l.length) w := by
  have := entsA_size l
  simp [Builtin.len_, Sem.run_bind, run_underlying Tryz.underlying101, Result.andThen, MapKept.run_getObj_map hb, this]
  rfl
theorem field210 (W : World) (x0 x1 x2 x3 x4 x5 : Int) (va : Option Addr) (vn vc : Nat) : (Instr.field 210 (.agg #[.int .i64 x0, .int .i64 x1, .int .i64 x2, .int .i64 x3, .int .i64 x4, .int .i64 x5, .slice va vn vc]) 3).run Tryz.prog W = .ok (.agg #[.int .i64 x3, .int .i64 x4, .int .i64 x5, .slice va vn vc]) W := by kernel_rfl
theorem lookA_all (l : List (Int × Value)) (k : Int) (h : ∃ z ∈ l, z.1 = k) :
    ∃ (j : Nat) (z : Int × Value), l[j]? = some z ∧ z.1 = k ∧ ∀ (w : World) (gm n : Nat), w.heap[gm]? = some (.map (entsA l) n) → (Instr.lookup 101 (.map (some gm)) (.int .i64 k) false).run Tryz.prog w = .ok z.2 w := by
  obtain ⟨j, z, e1, e2, e3⟩ := findA_some l k h
  refine ⟨j, z, e1, e2, fun w gm n hb => ?_⟩
  have h1 := MapKept.run_findKey (P := Tryz.prog) (w := w) Tryz.underlying3 e3
  have h2 := MapKept.run_checkKey (P := Tryz.prog) (w := w) (k := .int .i64 k) Tryz.underlying3 (by simp [MapKept.IsKey]) (entsA l).isEmpty 9999
  simp [Instr.lookup, Sem.run_bind, run_underlying Tryz.underlying101, Result.andThen, MapKept.run_getObj_map hb, h2, h1]
/-- What an answer to a look may be. -/
structure LkOk (c : PC) (A : An) : Prop where
  nd : (c.q.ans.map (·.1)).Nodup
  ne : 0 < c.q.nodes.length
  le : c.q.nodes.length ≤ 100
  la : c.q.ans.length ≤ 100
  hd : c.q.ans.length < c.q.nodes.length ∨ ∃ z ∈ c.q.ans, z.1 = c.q.nodes.headD 0
theorem find_is {zz : List (Int × An)} (hnd : (zz.map (·.1)).Nodup) {j : Nat} {z : Int × An} (hz : zz[j]? = some z) (k : Int) (hk : z.1 = k) : zz.find? (fun z => z.1 == k) = some z := by
  induction zz generalizing j with
  | nil => simp at hz
  | cons y ys ih =>
    rw [List.find?_cons]
    cases j with
    | zero =>
      simp at hz
      subst hz
      simp [hk]
    | succ j =>
      have hne : (y.1 == k) = false := by
        simp only [List.map_cons, List.nodup_cons] at hnd
        have := hnd.1
        simp
        intro e
        exact this (by rw [e, ← hk]; exact List.mem_map.2 ⟨z, List.mem_of_getElem? (by simpa using hz), rfl⟩)
      rw [hne]
      exact ih (by simp only [List.map_cons, List.nodup_cons] at hnd; exact hnd.2) (by simpa using hz)
set_option maxRecDepth 100000 in
set_option maxHeartbeats 4000000 in
theorem cl_looked4 (h : ClK w tag tc p q n m vo ce id X lv rv vv nv av bm born clk) (hc : X.pend = some c) (hf : fit n m vo ce = true) (ha : 0 ≤ X.asked) (hb : X.asked ≤ 1000000) (A : An) (h1 : A.wh = 4) (va : Option Addr) (vc : Nat) :
    Calls Tryz.prog 283 #[.pointer (some ⟨p, 0, none⟩), .pointer (some ⟨q, 0, none⟩), anV A va vc] w fun en w' => en = .returned (.tuple #[]) ∧ CStep w tag tc p q n m vo ce id (X.looked n m c A) w' := by
  have bW := (Bl.refl w).alloc (anO A va vc)
  have hW1 := h.bl bW (tag' := tag) (fun _ _ e => e)
  obtain ⟨ov, cv, ev, v3, n3, a3, hk, _⟩ := hW1.call c hc
  have lq := hk.lt
  have BW := hid bW
  have HN := hid (cl_lay hW1 hc hf ha hb A.mark 4 0)
  have hX : Hid (X.looked n m c A = X.lay n m c A.mark ⟨4, 0, []⟩) := by unfold Hid CX.looked; rw [if_pos h1]
  clear h hW1 bW hk
  unfold anV
  unfold anO at HN BW
  rw [h1] at HN BW ⊢
  go_enter Tryz.func283, Tryz.ntmps283
  go_wp2_with (go_at_call 149; refine HN.out.mono ?_; rintro en w3 ⟨rfl, hs⟩; have HS := hid hs; clear hs)
  go_end0
  exact ⟨rfl, by rw [hX.out]; exact HS.out.pre BW.out⟩
set_option maxRecDepth 100000 in
set_option maxHeartbeats 4000000 in
theorem cl_looked (h : ClK w tag tc p q n m vo ce id X lv rv vv nv av bm born clk) (hc : X.pend = some c) (A : An) (h1 : A.wh ≠ 4) (hL : LkOk c A) (va : Option Addr) (vc : Nat) :
    Calls Tryz.prog 283 #[.pointer (some ⟨p, 0, none⟩), .pointer (some ⟨q, 0, none⟩), anV A va vc] w fun en w' => en = .returned (.tuple #[]) ∧ CStep w tag tc p q n m vo ce id (X.looked n m c A) w' := by
  obtain ⟨W, hW⟩ : ∃ W, w.alloc (anO A va vc) = W := ⟨_, rfl⟩
  have bW := (Bl.refl w).alloc (anO A va vc)
  have hXX := heap_alloc_new w (anO A va vc)
  rw [hW] at bW hXX
  have hW1 := h.bl bW (tag' := tag) (fun _ _ e => e)
  obtain ⟨ov, cv, ev, v3, n3, a3, hk, hl, k2, k3⟩ := hW1.call c hc
  have hne : (A.wh == 4) = false := by simpa using h1
  have r0 : W.cell? ⟨w.heap.size, 0, none⟩ = some (.int .i64 A.wh) := cell_of_row W w.heap.size 0 _ 210 (0, 0) hXX
  have lr := (Array.getElem?_eq_some_iff.1 hXX).1
  obtain ⟨gm, l, ha3, tgm, hm, hll, hz⟩ : ∃ gm l, a3 = .map (some gm) ∧ tag gm = tc ∧ W.heap[gm]? = some (.map (entsA l) l.length) ∧ l.length = c.q.ans.length ∧ ∀ (i : Nat) (z : Int × An), c.q.ans[i]? = some z → ∃ x, l[i]? = some (z.1, x) ∧ AnV W tag tc z.2 x := by
    rcases hk.q.ans with ⟨e, _⟩ | ⟨gm, l, e⟩
    · have := hk.q.nil e
      have := hL.ne
      simp_all
    · exact ⟨gm, l, e⟩
  subst ha3
  obtain ⟨bn, on, cn, hnv, lbn, _, _, hncell⟩ := hk.q.nodes.cell (by simpa using hL.ne)
  rw [List.length_map] at hnv
  subst hnv
  have e24 := hk.cellAt 24 rfl
  have e26 := hk.cellAt 26 rfl
  have lq := hk.lt
  have hlen := len101 W gm l.length l hm
  have hlen2 := len101 W.drew gm l.length l hm
  have HW := hid hW
  have BW := hid bW
  have Hm := hid hm
  have HW1 := hid hW1
  have Hz := hid hz
  have lgm := (Array.getElem?_eq_some_iff.1 hm).1
  have hla := hL.la
  have hle := hL.le
  clear h hk hW bW hXX hW1 hm hz
  go_enter Tryz.func283, Tryz.ntmps283
  go_upto_region 5 with fail
  rw [HW.out]
  go_cut [24] (fun y wx => y = .bool (decide ((l.length : Int) < (c.q.nodes.length : Int))) ∧ Hid (Bl W wx))
  case first =>
    go_region
    all_goals (go_wp2_with fail; go_meet)
    all_goals exact ⟨by simp [hll], by first | exact Bl.refl _ | exact (Bl.refl _).drew | exact (Bl.refl _).drewN _⟩
  case rest =>
    obtain ⟨rfl, HB⟩ := hcut
    obtain ⟨W5, rfl⟩ : ∃ W5, W5 = wc := ⟨_, rfl⟩
    by_cases hlt : l.length < c.q.nodes.length
    · have hd : decide ((l.length : Int) < (c.q.nodes.length : Int)) = true := by simp; omega
      rw [hd]
      have hX : Hid (X.looked n m c A = X) := by
        unfold Hid CX.looked
        rw [if_neg h1, if_pos (by omega)]
        cases X
        simp at hc
        simp [hc]
      go_wp2
      (try simp only [Exit.inBlock, Exit.then])
      refine bodyPost_ret (v := .tuple #[]) (by simp [results, Tryz.results283, go_sem]) rfl ⟨rfl, ?_⟩
      rw [hX.out]
      exact (CStep.of_bl (Cl.of (HW1.out.bl HB.out (fun _ _ e => e))) (Bl.refl _)).pre (BW.out.trans HB.out)
    · have hd : decide ((l.length : Int) < (c.q.nodes.length : Int)) = false := by simp; omega
      rw [hd]
      have d24 := (HB.out.cell lq).trans e24
      have d26 := (HB.out.cell lq).trans e26
      have lqc := Nat.lt_of_lt_of_le lq HB.out.lt
      have hmc := (HB.out.heap lgm).trans Hm.out
      have HCt := hid (fun W2 (hb2 : Bl W5 W2) => count2_any (w := W2) (tag := tag) (tc := tc) (g := q) (o := 16) (gm := gm) (l := l) (zz := c.q.ans) ((hb2.heap (Nat.lt_of_lt_of_le lgm HB.out.lt)).trans hmc) hll (fun i z hz => by
        obtain ⟨x, y1, y2⟩ := Hz.out i z hz
        exact ⟨x, y1, y2.only (Only.of_bl (S := fun _ => False) (HB.out.trans hb2)) (fun _ _ _ e => e.elim) (fun _ _ e => e)⟩) ((hb2.cell lqc).trans d26) (by omega))
      rw [cntL_is hll Hz.out] at HCt
      have hd2 : Hid ((c.q.ans.filter fun z => z.2.wh == 2).length = c.q.count 2) := rfl
      rw [hd2.out] at HCt
      go_upto_region 6 with fail
      go_cut [36] (fun y wx => y = .bool ((c.q.count 2 : Int) == (c.q.nodes.length : Int)) ∧ Hid (Bl W5 wx))
      case first =>
        go_region_held3 (fun W => W.cell? ⟨q, 24, none⟩ = some (.slice (some ⟨bn, on, none⟩) c.q.nodes.length cn)) (go_keep) (first | (go_at_call 285; refine (HCt.out _ ?hb).mono ?_; (case hb => first | exact Bl.refl _ | exact (Bl.refl _).drew | exact (Bl.refl _).drewN _); rintro en w2 ⟨rfl, hb2⟩; have hB : Bl W5 w2 := Bl.trans (by first | exact Bl.refl _ | exact (Bl.refl _).drew | exact (Bl.refl _).drewN _) hb2; have z4 := (hB.cell lqc).trans d24; have HB2 := hid hB; clear hb2 hB))
        all_goals (go_wp2_with fail; go_meet)
        all_goals exact ⟨rfl, HB2.out⟩
      case rest =>
        obtain ⟨rfl, HB2⟩ := hcut
        have HBW := hid (HB.out.trans HB2.out)
        by_cases hct : c.q.count 2 = c.q.nodes.length
        · have hd3 : ((c.q.count 2 : Int) == (c.q.nodes.length : Int)) = true := by simp; omega
          rw [hd3]
          have hmem : ∃ z ∈ l, z.1 = c.q.nodes.headD 0 := by
            obtain ⟨z, hz1, hz2⟩ := hL.hd.resolve_left (by omega)
            obtain ⟨i, hi, rfl⟩ := List.mem_iff_getElem.1 hz1
            obtain ⟨x, y1, _⟩ := Hz.out i _ (List.getElem?_eq_getElem hi)
            exact ⟨_, List.mem_of_getElem? y1, hz2⟩
          obtain ⟨j, z, e1, e2, e4⟩ := lookA_all l _ hmem
          have hj := (List.getElem?_eq_some_iff.1 e1).1
          have hja : j < c.q.ans.length := by omega
          obtain ⟨x, f1, ⟨s, f2, f3⟩⟩ := Hz.out j c.q.ans[j] (List.getElem?_eq_getElem hja)
          have hzx : z = (c.q.ans[j].1, x) := by
            rw [e1] at f1
            simpa using f1
          have hfi := find_is hL.nd (List.getElem?_eq_getElem hja) (c.q.nodes.headD 0) (by rw [← e2, hzx])
          have hX : Hid (X.looked n m c A = X.end' c (told c.q.ans[j].2.ct)) := by
            unfold Hid CX.looked
            rw [if_neg h1, if_neg (by omega), if_pos hct, hfi]
            rfl
          have hx2 : z.2 = x := by rw [hzx]
          rw [hx2] at e4
          obtain ⟨sa, sc, rfl⟩ := f3.shape
          rw [List.length_map] at f2 f3
          generalize c.q.ans[j].2 = Z at *
          subst f2
          have hgmc := (HBW.out.heap lgm).trans Hm.out
          have hrun := e4 wc gm l.length hgmc
          have hrunN := fun k => e4 (wc.drewN k) gm l.length hgmc
          have hrun1 := e4 wc.drew gm l.length hgmc
          have c0 : wc.cell? ⟨bn, on, none⟩ = some (.int .i64 (c.q.nodes.headD 0)) := by
            have := hncell 0 (.int .i64 (c.q.nodes.headD 0)) (by
              cases hns : c.q.nodes with
              | nil => have := hL.ne; rw [hns] at this; simp at this
              | cons y ys => rfl)
            exact (HBW.out.cell lbn).trans this
          have d24c := (HBW.out.cell lq).trans e24
          have d26c := (HBW.out.cell lq).trans e26
          have lqc2 := Nat.lt_of_lt_of_le lq HBW.out.lt
          have lbc := Nat.lt_of_lt_of_le lbn HBW.out.lt
          have hn0 : (0 : Int) < (c.q.nodes.length : Int) := by have := hL.ne; omega
          have hfld := fun W => field210 W Z.wh Z.ep Z.mark Z.ct.kd Z.ct.cl Z.ct.ca sa Z.ct.val.length sc
          have HT := hid (told_any Z.ct.kd Z.ct.cl Z.ct.ca sa Z.ct.val.length sc)
          have HF3 := hid f3
          have HN : Hid (∀ W2, Bl wc W2 → _) := fun W2 hb2 => cl_end (HW1.out.bl (HBW.out.trans hb2) (tag' := tag) (fun _ _ e => e)) hc (told Z.ct) sa sc (HF3.out.bl (HBW.out.trans hb2) (fun _ _ e => e))
          unfold told at HN
          dsimp only at HN
          have HH := hid (And.intro e4 (And.intro hfi (And.intro hzx (And.intro e1 (And.intro hmem (And.intro f1 f3))))))
          clear e4 hfi hzx e1 e2 hmem f1 f3 hgmc HCt d24 d26 e24 e26 hncell hlen hlen2
          generalize c.q.nodes.headD 0 = k0 at *
          go_upto_region 7 with fail
          go_region_with (first | (go_at_call 303; refine (HT.out _).mono ?_; rintro en w2 ⟨rfl, hb2⟩; have hB : Bl wc w2 := Bl.trans (by first | exact Bl.refl _ | exact (Bl.refl _).drew | exact (Bl.refl _).drewN _) hb2; have HB3 := hid hB; clear hb2 hB) | (go_at_call 95; refine (HN.out _ (HB3.out.trans ?hb)).mono ?_; (case hb => first | exact Bl.refl _ | exact (Bl.refl _).drew | exact (Bl.refl _).drewN _); rintro en w3 ⟨rfl, hs⟩; have HS := hid hs; have HBx := hid (HB3.out.trans (by first | exact Bl.refl _ | exact (Bl.refl _).drew | exact (Bl.refl _).drewN _)); clear hs))
          all_goals
            go_wp2
            go_end0
            exact ⟨rfl, by rw [hX.out]; exact HS.out.pre (BW.out.trans (HBW.out.trans HBx.out))⟩
        · have hd3 : ((c.q.count 2 : Int) == (c.q.nodes.length : Int)) = false := by simp; omega
          rw [hd3]
          have hX : Hid (X.looked n m c A = X.end' c ⟨3, 0, []⟩) := by
            unfold Hid CX.looked
            rw [if_neg h1, if_neg (by omega), if_neg hct]
          have HN := hid (cl_end (HW1.out.bl HBW.out (tag' := tag) (fun _ _ e => e)) hc ⟨3, 0, []⟩ none 0 Rd.nil)
          simp only [List.length_nil] at HN
          go_wp2_with (go_at_call 95; refine HN.out.mono ?_; rintro en w3 ⟨rfl, hs⟩; have HS := hid hs; clear hs)
          go_end0
          exact ⟨rfl, by rw [hX.out]; exact HS.out.pre (BW.out.trans HBW.out)⟩
end
end Go.Proofs.YtnhjmiglegdamaaGreat

namespace Go.Proofs.YtnhjmiglegdamaaGreat
open Go.RowKit Go.Maps
attribute [local go_sem ↓] Go.wp_at_zero Go.wp_at_succ
section
variable {w w0 w' : World} {tag tag' : Nat → Nat} {tc p q n m : Nat} {vo ce id : Int} {X X' : CX} {lv rv vv nv av pv vv' nv' av' ov cv ev ov' cv' ev' : Value} {bm born clk k gm : Nat} {c c' : PC}
/-- What an answer to a call may be. -/
inductive GoOk (n m : Nat) (vo ce : Int) (c : PC) (A : An) : Prop
  | look (hk : c.q.kd = 3) (hf : fit n m vo ce = true) (h : A.wh = 4 ∨ A.wh ≠ 4 ∧ LkOk c A) : GoOk n m vo ce c A
  | write (hk : c.q.kd = 2) (hA : AdOk n m vo ce c.addr) (hpl : c.place < m) (h : WrOk c A) : GoOk n m vo ce c A
  | trim (hk : c.q.kd = 4) (h0 : 0 < c.q.nodes.length) (h1 : c.q.nodes.length ≤ 100) (h2 : c.q.ans.length ≤ 100) : GoOk n m vo ce c A
set_option maxRecDepth 100000 in
set_option maxHeartbeats 4000000 in
theorem cl_goOn (h : ClK w tag tc p q n m vo ce id X lv rv vv nv av bm born clk) (hc : X.pend = some c) (ha : 0 ≤ X.asked) (hb : X.asked ≤ 1000000) (A : An) (hG : GoOk n m vo ce c A) (va : Option Addr) (vc : Nat) (ht : Rd w tag tc 5 (.slice va A.ct.val.length vc) (A.ct.val.map B8)) :
    Calls Tryz.prog 268 #[.pointer (some ⟨p, 0, none⟩), .pointer (some ⟨q, 0, none⟩), anV A va vc] w fun en w' => en = .returned (.tuple #[]) ∧ CStep w tag tc p q n m vo ce id (X.goOn n m c A) w' := by
  have bW := (Bl.refl w).alloc (anO A va vc)
  have hW1 := h.bl bW (tag' := tag) (fun _ _ e => e)
  have htW := ht.bl bW (tag' := tag) (fun _ _ e => e)
  have BW := hid bW
  obtain ⟨ov, cv, ev, v3, n3, a3, hk, hl, k2, k3⟩ := hW1.call c hc
  have e16 := hk.cellAt 16 rfl
  have lq := hk.lt
  cases hG with
  | look hkd hf h1 =>
    have HN : Hid (Calls Tryz.prog 283 #[.pointer (some ⟨p, 0, none⟩), .pointer (some ⟨q, 0, none⟩), anV A va vc] (w.alloc (anO A va vc)) fun en w' => en = .returned (.tuple #[]) ∧ CStep (w.alloc (anO A va vc)) tag tc p q n m vo ce id (X.looked n m c A) w') := by
      rcases h1 with h1 | ⟨h1, h2⟩
      · exact cl_looked4 hW1 hc hf ha hb A h1 va vc
      · exact cl_looked hW1 hc A h1 h2 va vc
    have hX : Hid (X.goOn n m c A = X.looked n m c A) := by unfold Hid CX.goOn; rw [if_pos hkd]
    rw [hkd] at e16
    clear h hW1 htW ht bW hk
    unfold anV at HN ⊢
    unfold anO at HN BW e16 lq
    go_enter Tryz.func268, Tryz.ntmps268
    go_wp2_with (go_at_call 283; refine HN.out.mono ?_; rintro en w3 ⟨rfl, hs⟩; have HS := hid hs; clear hs)
    go_end0
    exact ⟨rfl, by rw [hX.out]; exact HS.out.pre BW.out⟩
  | write hkd hA hpl h1 =>
    have HN := hid (cl_wrote hW1 hc hA hpl ha hb A h1 va vc htW)
    have hX : Hid (X.goOn n m c A = X.wrote n m c A) := by unfold Hid CX.goOn; rw [if_neg (by rw [hkd]; decide), if_pos hkd]
    rw [hkd] at e16
    clear h hW1 htW ht bW hk
    unfold anV at HN ⊢
    unfold anO at HN BW e16 lq
    go_enter Tryz.func268, Tryz.ntmps268
    go_wp2_with (go_at_call 284; refine HN.out.mono ?_; rintro en w3 ⟨rfl, hs⟩; have HS := hid hs; clear hs)
    go_end0
    exact ⟨rfl, by rw [hX.out]; exact HS.out.pre BW.out⟩
  | trim hkd h0 h1 h2 =>
    obtain ⟨W, hW⟩ : ∃ W, w.alloc (anO A va vc) = W := ⟨_, rfl⟩
    rw [hW] at bW hW1 htW BW hk e16 lq
    obtain ⟨gm, l, ha3, tgm, hm, hll, hz⟩ : ∃ gm l, a3 = .map (some gm) ∧ tag gm = tc ∧ W.heap[gm]? = some (.map (entsA l) l.length) ∧ l.length = c.q.ans.length ∧ ∀ (i : Nat) (z : Int × An), c.q.ans[i]? = some z → ∃ x, l[i]? = some (z.1, x) ∧ AnV W tag tc z.2 x := by
      rcases hk.q.ans with ⟨e, _⟩ | ⟨gm, l, e⟩
      · have := hk.q.nil e
        simp_all
      · exact ⟨gm, l, e⟩
    subst ha3
    obtain ⟨bn, on, cn, hnv, lbn, _, _, hncell⟩ := hk.q.nodes.cell (by simpa using h0)
    rw [List.length_map] at hnv
    subst hnv
    obtain ⟨ea, ec, rfl⟩ := hk.e.shape
    rw [List.length_map] at hk
    have e24 := hk.cellAt 24 rfl
    have e26 := hk.cellAt 26 rfl
    have e13 := hk.cellAt 13 rfl
    have e14 := hk.cellAt 14 rfl
    have e15 := hk.cellAt 15 rfl
    have HRe := hid hk.e
    have HW := hid hW
    have HW1 := hid hW1
    have lgm := (Array.getElem?_eq_some_iff.1 hm).1
    have HCt := hid (fun W2 (hb2 : Bl W W2) => count1_any (w := W2) (tag := tag) (tc := tc) (g := q) (o := 16) (gm := gm) (l := l) (zz := c.q.ans) ((hb2.heap lgm).trans hm) hll (fun i z hz' => by
        obtain ⟨x, y1, y2⟩ := hz i z hz'
        exact ⟨x, y1, y2.only (Only.of_bl (S := fun _ => False) hb2) (fun _ _ _ e => e.elim) (fun _ _ e => e)⟩) ((hb2.cell lq).trans e26) (by omega))
    rw [cntL_is hll hz] at HCt
    have hd2 : Hid ((c.q.ans.filter fun z => z.2.wh == 1).length = c.q.count 1) := rfl
    rw [hd2.out] at HCt
    rw [hkd] at e16
    clear h hW1 htW ht bW hk hm hz hW hncell
    unfold anV
    unfold anO at HW
    go_enter Tryz.func268, Tryz.ntmps268
    go_upto_region 1 with fail
    rw [HW.out]
    clear HW
    go_upto_region 7 with fail
    go_cut [36] (fun y wx => y = .bool ((c.q.count 1 : Int) == (c.q.nodes.length : Int)) ∧ Hid (Bl W wx))
    case first =>
      go_region_held3 (fun W => W.cell? ⟨q, 24, none⟩ = some (.slice (some ⟨bn, on, none⟩) c.q.nodes.length cn)) (go_keep) (first | (go_at_call 285; refine (HCt.out _ ?hb).mono ?_; (case hb => first | exact Bl.refl _ | exact (Bl.refl _).drew | exact (Bl.refl _).drewN _); rintro en w2 ⟨rfl, hb2⟩; have hB : Bl W w2 := Bl.trans (by first | exact Bl.refl _ | exact (Bl.refl _).drew | exact (Bl.refl _).drewN _) hb2; have z4 := (hB.cell lq).trans e24; have HB2 := hid hB; clear hb2 hB))
      all_goals (go_wp2_with fail; go_meet)
      all_goals exact ⟨rfl, HB2.out⟩
    case rest =>
      obtain ⟨rfl, HB2⟩ := hcut
      have d13 := (HB2.out.cell lq).trans e13
      have d14 := (HB2.out.cell lq).trans e14
      have d15 := (HB2.out.cell lq).trans e15
      have lqc := Nat.lt_of_lt_of_le lq HB2.out.lt
      clear e13 e14 e15 e24 e26 HCt
      by_cases hct : c.q.count 1 = c.q.nodes.length
      · have hd3 : ((c.q.count 1 : Int) == (c.q.nodes.length : Int)) = true := by simp; omega
        rw [hd3]
        have hX : Hid (X.goOn n m c A = X.end' c c.e) := by
          unfold Hid CX.goOn
          rw [if_neg (by rw [hkd]; decide), if_neg (by rw [hkd]; decide), if_pos hct]
        have HN := hid (cl_end (HW1.out.bl HB2.out (tag' := tag) (fun _ _ e => e)) hc c.e ea ec (HRe.out.bl HB2.out (fun _ _ e => e)))
        go_wp2_with (go_at_call 95; refine HN.out.mono ?_; rintro en w3 ⟨rfl, hs⟩; have HS := hid hs; clear hs)
        go_end0
        exact ⟨rfl, by rw [hX.out]; exact HS.out.pre (BW.out.trans HB2.out)⟩
      · have hd3 : ((c.q.count 1 : Int) == (c.q.nodes.length : Int)) = false := by simp; omega
        rw [hd3]
        have hX : Hid (X.goOn n m c A = X) := by
          unfold Hid CX.goOn
          rw [if_neg (by rw [hkd]; decide), if_neg (by rw [hkd]; decide), if_neg hct]
          cases X
          simp at hc
          simp [hc]
        go_wp2
        go_end0
        refine ⟨rfl, ?_⟩
        rw [hX.out]
        exact (CStep.of_bl (Cl.of (HW1.out.bl HB2.out (tag' := tag) (fun _ _ e => e))) (Bl.refl _)).pre (BW.out.trans HB2.out)
end
end Go.Proofs.YtnhjmiglegdamaaGreat

namespace Go.Proofs.YtnhjmiglegdamaaGreat
open Go.RowKit Go.Maps
open Go.ChangeMaps (setBlock)
attribute [local go_sem ↓] Go.wp_at_zero Go.wp_at_succ
section
variable {w w0 w' : World} {tag tag' : Nat → Nat} {tc p q n m : Nat} {vo ce id : Int} {X X' : CX} {lv rv vv nv av pv vv' nv' av' ov cv ev ov' cv' ev' : Value} {bm born clk k gm : Nat} {c c' : PC}
theorem ClK.prAt (h : ClK w tag tc p q n m vo ce id X lv rv vv nv av bm born clk) (hl : X.pr.nodes.length ≤ 100) : QAt w tag tc p 10 X.pr := ⟨vv, nv, av, h.pr, h.cellAt 11 rfl, h.cellAt 18 rfl, h.cellAt 19 rfl, h.cellAt 20 rfl, h.lp, hl⟩
theorem ClK.seAt (h : ClK w tag tc p q n m vo ce id X lv rv vv nv av bm born clk) : QAt w tag tc p 28 PQ.zero := ⟨.slice none 0 0, .slice none 0 0, .map none, ⟨Rd.nil, Rd.nil, .inl ⟨rfl, rfl⟩, fun _ => rfl⟩, h.cellAt 29 rfl, h.cellAt 36 rfl, h.cellAt 37 rfl, h.cellAt 38 rfl, h.lp, by decide⟩
theorem CallOk.qAt (h : CallOk w tag tc q c ov cv ev vv nv av) (hl : c.q.nodes.length ≤ 100) : QAt w tag tc q 16 c.q := ⟨vv, nv, av, h.q, h.cellAt 17 rfl, h.cellAt 24 rfl, h.cellAt 25 rfl, h.cellAt 26 rfl, h.lt, hl⟩
theorem zero_awaits (k x : Int) : PQ.zero.awaits k x = false := by simp [PQ.awaits, PQ.zero]
set_option maxRecDepth 100000 in
set_option maxHeartbeats 4000000 in
theorem asker_probe (h : ClK w tag tc p q n m vo ce id X lv rv vv nv av bm born clk) (hl : X.pr.nodes.length ≤ 100) (fr nr : Int) (hw : X.pr.awaits nr fr = true) :
    Calls Tryz.prog 244 #[.pointer (some ⟨p, 0, none⟩), .int .i64 fr, .int .i64 nr] w fun en w' => en = .returned (.tuple #[.pointer (some ⟨p, 10, none⟩), .func (.func 265) #[] #[]]) ∧ Bl w w' := by
  obtain ⟨W, hW⟩ : ∃ W, w.alloc (.cells #[.pointer (some ⟨p, 0, none⟩)] 94) = W := ⟨_, rfl⟩
  have bW := (Bl.refl w).alloc (.cells #[.pointer (some ⟨p, 0, none⟩)] 94)
  have hX := heap_alloc_new w (.cells #[.pointer (some ⟨p, 0, none⟩)] 94)
  rw [hW] at bW hX
  have r0 : W.cell? ⟨w.heap.size, 0, none⟩ = some (.pointer (some ⟨p, 0, none⟩)) := cell_of_row W w.heap.size 0 _ 94 (0, 0) hX
  have lr := (Array.getElem?_eq_some_iff.1 hX).1
  have hW1 := h.bl bW (tag' := tag) (fun _ _ e => e)
  have HA := hid (awaits_any (hW1.prAt hl) nr fr)
  rw [hw] at HA
  have lp := hW1.lp
  have BW := hid bW
  have HW := hid hW
  clear h hW1 hW bW hX
  go_enter Tryz.func244, Tryz.ntmps244
  go_upto_region 1 with fail
  rw [HW.out]
  go_wp2_with (go_at_call 264; refine HA.out.mono ?_; rintro en w2 ⟨rfl, hb2⟩; have z0 := (hb2.cell lr).trans r0; have lp2 := Nat.lt_of_lt_of_le lp hb2.lt; have lr2 := Nat.lt_of_lt_of_le lr hb2.lt; have HB := hid (BW.out.trans hb2); clear hb2)
  go_ret2
  exact ⟨rfl, HB.out⟩
set_option maxRecDepth 100000 in
set_option maxHeartbeats 4000000 in
theorem asker_none0 (h : ClK w tag tc p q n m vo ce id X lv rv vv nv av bm born clk) (hl : X.pr.nodes.length ≤ 100) (fr nr : Int) (hw : X.pr.awaits nr fr = false) (hc : X.pend = none) :
    Calls Tryz.prog 244 #[.pointer (some ⟨p, 0, none⟩), .int .i64 fr, .int .i64 nr] w fun en w' => en = .returned (.tuple #[.pointer none, .nilFunc]) ∧ Bl w w' := by
  obtain ⟨W, hW⟩ : ∃ W, w.alloc (.cells #[.pointer (some ⟨p, 0, none⟩)] 94) = W := ⟨_, rfl⟩
  have bW := (Bl.refl w).alloc (.cells #[.pointer (some ⟨p, 0, none⟩)] 94)
  have hX := heap_alloc_new w (.cells #[.pointer (some ⟨p, 0, none⟩)] 94)
  rw [hW] at bW hX
  have r0 : W.cell? ⟨w.heap.size, 0, none⟩ = some (.pointer (some ⟨p, 0, none⟩)) := cell_of_row W w.heap.size 0 _ 94 (0, 0) hX
  have lr := (Array.getElem?_eq_some_iff.1 hX).1
  have hW1 := h.bl bW (tag' := tag) (fun _ _ e => e)
  have HA := hid (awaits_any (hW1.prAt hl) nr fr)
  rw [hw] at HA
  have HS : Hid (∀ W2, Bl W W2 → _) := fun W2 hb2 => awaits_any ((hW1.bl hb2 (tag' := tag) (fun _ _ e => e)).seAt) nr fr
  rw [zero_awaits] at HS
  have lp := hW1.lp
  have lb := hW1.lb
  have d8 := hW1.cellAt 8 rfl
  have hm := hW1.mp
  rw [hc] at hm
  have Hm := hid hm
  have BW := hid bW
  have HW := hid hW
  clear h hW1 hW bW hX hm
  go_enter Tryz.func244, Tryz.ntmps244
  go_upto_region 1 with fail
  rw [HW.out]
  go_wp2_with fail
  refine HA.out.mono ?_
  rintro en w2 ⟨rfl, hb2⟩
  have z0 := (hb2.cell lr).trans r0
  have lp2 := Nat.lt_of_lt_of_le lp hb2.lt
  have lr2 := Nat.lt_of_lt_of_le lr hb2.lt
  have HB2 := hid hb2
  clear hb2 HA
  go_wp2_with fail
  refine (HS.out _ HB2.out).mono ?_
  rintro en w3 ⟨rfl, hb3⟩
  have hb4 := HB2.out.trans hb3
  have y0 := (hb4.cell lr).trans r0
  have y8 := (hb4.cell lp).trans d8
  have hm3 := (hb4.heap lb).trans Hm.out
  have lp3 := Nat.lt_of_lt_of_le lp hb4.lt
  have lr3 := Nat.lt_of_lt_of_le lr hb4.lt
  have HB4 := hid hb4
  clear hb3 hb4 z0 r0 d8
  go_wp2_with (at_range; refine wpList_range_raw _ rfl _ 98 rfl 3 159 Tryz.underlying98 bm #[] clk rfl hm3 ?_)
  have hbm3 := (heap_alloc_old w3 (.mapIter (some bm) clk #[] clk) (Nat.lt_of_lt_of_le lb HB4.out.lt)).trans hm3
  have hit3 := heap_alloc_new w3 (.mapIter (some bm) clk #[] clk)
  have hne3 : w3.heap.size ≠ bm := by have := HB4.out.lt; omega
  refine wp_loop_rounds 1 ?_; rw [rounds_succ]
  go_wp2_with (at_next; refine wpList_next_raw _ rfl _ rfl w3.heap.size bm clk #[] #[] clk rfl hit3 hbm3 hne3 (by simp) (Nat.le_refl _) (by simp) ?_ ?_)
  · intro _
    go_wp2
    go_ret2
    exact ⟨rfl, (BW.out.trans HB4.out).alloc _⟩
  · intro e W6 he
    have := (mem_left he).1
    simp at this
set_option maxRecDepth 100000 in
set_option maxHeartbeats 4000000 in
/-- One call is pending; it awaits the answer, or does not. -/
theorem asker_some (h : ClK w tag tc p q n m vo ce id X lv rv vv nv av bm born clk) (hl : X.pr.nodes.length ≤ 100) (fr nr : Int) (hw : X.pr.awaits nr fr = false) (hc : X.pend = some c) (hl2 : c.q.nodes.length ≤ 100) :
    Calls Tryz.prog 244 #[.pointer (some ⟨p, 0, none⟩), .int .i64 fr, .int .i64 nr] w fun en w' => Bl w w' ∧ (c.q.awaits nr fr = false → en = .returned (.tuple #[.pointer none, .nilFunc])) ∧ (c.q.awaits nr fr = true → ∃ g1 g2, en = .returned (.tuple #[.pointer (some ⟨q, 16, none⟩), .func (.func 267) #[] #[.pointer (some ⟨g1, 0, none⟩), .pointer (some ⟨g2, 0, none⟩)]]) ∧ w.heap.size ≤ g1 ∧ w.heap.size ≤ g2 ∧ w'.heap[g1]? = some (.cells #[.pointer (some ⟨p, 0, none⟩)] 94 (0, 0)) ∧ w'.heap[g2]? = some (.cells #[.pointer (some ⟨q, 0, none⟩)] 159 (0, 0))) := by
  obtain ⟨W, hW⟩ : ∃ W, w.alloc (.cells #[.pointer (some ⟨p, 0, none⟩)] 94) = W := ⟨_, rfl⟩
  have bW := (Bl.refl w).alloc (.cells #[.pointer (some ⟨p, 0, none⟩)] 94)
  have hX := heap_alloc_new w (.cells #[.pointer (some ⟨p, 0, none⟩)] 94)
  rw [hW] at bW hX
  have r0 : W.cell? ⟨w.heap.size, 0, none⟩ = some (.pointer (some ⟨p, 0, none⟩)) := cell_of_row W w.heap.size 0 _ 94 (0, 0) hX
  have lr := (Array.getElem?_eq_some_iff.1 hX).1
  have hW1 := h.bl bW (tag' := tag) (fun _ _ e => e)
  have HA := hid (awaits_any (hW1.prAt hl) nr fr)
  rw [hw] at HA
  have HS : Hid (∀ W2, Bl W W2 → _) := fun W2 hb2 => awaits_any ((hW1.bl hb2 (tag' := tag) (fun _ _ e => e)).seAt) nr fr
  rw [zero_awaits] at HS
  have HQ : Hid (∀ W2, Bl W W2 → Calls Tryz.prog 264 #[.pointer (some ⟨q, 16, none⟩), .int .i64 nr, .int .i64 fr] W2 fun en w' => en = .returned (.bool (c.q.awaits nr fr)) ∧ Bl W2 w') := fun W2 hb2 => by
    obtain ⟨ov, cv, ev, v3, n3, a3, hk, _⟩ := (hW1.bl hb2 (tag' := tag) (fun _ _ e => e)).call c hc
    exact awaits_any (hk.qAt hl2) nr fr
  have lp := hW1.lp
  have lb := hW1.lb
  have lq : q < W.heap.size := by
    obtain ⟨ov, cv, ev, v3, n3, a3, hk, _⟩ := hW1.call c hc
    exact hk.lt
  have d8 := hW1.cellAt 8 rfl
  have hm := hW1.mp
  have hbc : born < clk := hW1.bc.resolve_right (by rw [hc]; simp)
  rw [hc] at hm
  simp only [pendE] at hm
  have Hm := hid hm
  have BW := hid bW
  have HW := hid hW
  have HXX := hid hX
  clear h hW1 hW bW hX hm
  go_enter Tryz.func244, Tryz.ntmps244
  go_upto_region 1 with fail
  rw [HW.out]
  clear HW
  go_wp2_with fail
  refine HA.out.mono ?_
  rintro en w2 ⟨rfl, hb2⟩
  have z0 := (hb2.cell lr).trans r0
  have lp2 := Nat.lt_of_lt_of_le lp hb2.lt
  have lr2 := Nat.lt_of_lt_of_le lr hb2.lt
  have HB2 := hid hb2
  clear hb2 HA
  go_wp2_with fail
  refine (HS.out _ HB2.out).mono ?_
  rintro en w3 ⟨rfl, hb3⟩
  have hb4 := HB2.out.trans hb3
  have y0 := (hb4.cell lr).trans r0
  have y8 := (hb4.cell lp).trans d8
  have hm3 := (hb4.heap lb).trans Hm.out
  have lp3 := Nat.lt_of_lt_of_le lp hb4.lt
  have lr3 := Nat.lt_of_lt_of_le lr hb4.lt
  have HB4 := hid hb4
  clear hb3 hb4 z0 r0 d8 HS
  go_wp2_with (at_range; refine wpList_range_raw _ rfl _ 98 rfl 3 159 Tryz.underlying98 bm #[⟨.int .i64 c.num, .pointer (some ⟨q, 0, none⟩), born⟩] clk rfl hm3 ?_)
  have hbm3 := (heap_alloc_old w3 (.mapIter (some bm) clk #[] clk) (Nat.lt_of_lt_of_le lb HB4.out.lt)).trans hm3
  have hit3 := heap_alloc_new w3 (.mapIter (some bm) clk #[] clk)
  have hne3 : w3.heap.size ≠ bm := by have := HB4.out.lt; omega
  refine wp_loop_rounds 2 ?_; rw [rounds_succ]
  go_wp2_with (at_next; refine wpList_next_raw _ rfl _ rfl w3.heap.size bm clk #[] #[⟨.int .i64 c.num, .pointer (some ⟨q, 0, none⟩), born⟩] clk rfl hit3 hbm3 hne3 (by simpa using hbc) (Nat.le_refl _) (by simp) ?_ ?_)
  · intro h0
    unfold NoneLeft leftOf at h0
    simp at h0
  · intro e W6 he hW6 hen
    have hee := (mem_left he).1
    simp at hee
    subst hee
    have HW6 : Only (fun k => k = w3.heap.size) (w3.alloc (.mapIter (some bm) clk #[] clk)) W6 := by
      obtain ⟨w1, e | e, rfl⟩ := hW6
      · subst e; exact setBlock_only' _ _ _
      · subst e; exact (Only.of_bl ((Bl.refl _).drew)).trans (setBlock_only' _ _ _)
    have hW6r : W6.heap[w3.heap.size]? = some (.mapIter (some bm) clk #[born] clk) := by
      obtain ⟨w1, e | e, rfl⟩ := hW6 <;> subst e <;> simp [setBlock]
    have hB6 : Bl w3 W6 := ((Bl.refl w3).alloc _).trans_only HW6 fun k e => by omega
    have hb6m := (hB6.heap (Nat.lt_of_lt_of_le lb HB4.out.lt)).trans hm3
    have hl6 : w3.heap.size < W6.heap.size := (Array.getElem?_eq_some_iff.1 hW6r).1
    have lqW6 := Nat.lt_of_lt_of_le lq (HB4.out.trans hB6).lt
    have x0 : W6.cell? ⟨w.heap.size, 0, none⟩ = some (.pointer (some ⟨p, 0, none⟩)) := (hB6.cell lr3).trans y0
    have HXB := hid (HB4.out.trans hB6)
    have HW6r := hid hW6r
    have Hb6m := hid hb6m
    clear hW6r hb6m HW6 hW6 he hB6 hbm3 hit3 hm3
    go_wp2_with fail
    refine (HQ.out _ (HXB.out.trans ((Bl.refl W6).alloc _))).mono ?_
    rintro en w7 ⟨rfl, hb7⟩
    have b7 := ((Bl.refl W6).alloc (.cells #[.pointer (some ⟨q, 0, none⟩)] 159)).trans hb7
    have g2 := (hb7.heap (by simp)).trans (heap_alloc_new W6 (.cells #[.pointer (some ⟨q, 0, none⟩)] 159))
    have v0 : w7.cell? ⟨W6.heap.size, 0, none⟩ = some (.pointer (some ⟨q, 0, none⟩)) := cell_of_row w7 W6.heap.size 0 _ 159 (0, 0) g2
    have hit7 := (b7.heap hl6).trans HW6r.out
    have hbm7 := (b7.heap (Nat.lt_of_lt_of_le lb HXB.out.lt)).trans Hb6m.out
    have lq7 := Nat.lt_of_lt_of_le lqW6 b7.lt
    have g1 := (b7.heap (Nat.lt_of_lt_of_le lr HXB.out.lt)).trans ((HXB.out.heap lr).trans HXX.out)
    have lsz : w.heap.size ≤ W6.heap.size := Nat.le_trans BW.out.lt HXB.out.lt
    have l67 : W6.heap.size < w7.heap.size := (Array.getElem?_eq_some_iff.1 g2).1
    have HB7 := hid ((BW.out.trans HXB.out).trans b7)
    have HG := hid (And.intro g1 g2)
    clear hb7 b7 g1 g2 HQ hen
    cases hq : c.q.awaits nr fr
    · go_wp2
      rw [rounds_succ]
      go_wp2_with (at_next; refine wpList_next_raw _ rfl _ rfl w3.heap.size bm clk #[born] #[⟨.int .i64 c.num, .pointer (some ⟨q, 0, none⟩), born⟩] clk rfl hit7 hbm7 hne3 (by simpa using hbc) (Nat.le_refl _) (by simp) ?_ ?_)
      · intro _
        go_wp2
        go_ret2
        exact ⟨HB7.out, fun _ => rfl, fun e => Bool.noConfusion (hq.symm.trans e)⟩
      · intro e W8 he8
        obtain ⟨h1, h2⟩ := mem_left he8
        simp at h1
        subst h1
        simp at h2
    · go_wp2
      go_ret2
      refine ⟨HB7.out, ?_, ?_⟩
      · intro e
        exact Bool.noConfusion (hq.symm.trans e)
      · intro _
        exact ⟨_, _, rfl, Nat.le_refl _, lsz, HG.out.1, HG.out.2⟩
end
end Go.Proofs.YtnhjmiglegdamaaGreat
