-- What has ended by now is noted.
-- Messages are handed in, without a program.
-- Units are asked, and answer, without a program.
import Derived.Test.YtnhjmiglegdamaaGreatKMemKSmallKRowSResultQ
import Derived.Deep.DeepCutAuto
namespace Go.Proofs.YtnhjmiglegdamaaGreat
open Go.RowKit Go.Maps
attribute [local go_sem ↓] Go.wp_at_zero Go.wp_at_succ
def P14 (t : Nat) : Prop := t = 1 ∨ t = 4
/-- What has been seen of the first k calls. -/
def KW.seenTo (K : KW) (k : Nat) : List PK := (List.zipWith (PK.see (K.now + 1)) K.calls K.X.res).take k ++ K.calls.drop k
theorem seenTo_zero (K : KW) : K.seenTo 0 = K.calls := by simp [KW.seenTo]
theorem seenTo_all {K : KW} (h : K.calls.length = K.X.res.length) : K.seenTo K.calls.length = List.zipWith (PK.see (K.now + 1)) K.calls K.X.res := by
  unfold KW.seenTo
  rw [List.drop_length, List.append_nil, List.take_of_length_le (by simp [h])]
theorem seenTo_len {K : KW} (h : K.calls.length = K.X.res.length) (k : Nat) (hk : k ≤ K.calls.length) : (K.seenTo k).length = K.calls.length := by
  simp [KW.seenTo, h]; omega
theorem seenTo_at {K : KW} (h : K.calls.length = K.X.res.length) (k : Nat) (hk : k < K.calls.length) : (K.seenTo k)[k]? = K.calls[k]? := by
  unfold KW.seenTo
  have hl : (List.take k (List.zipWith (PK.see (K.now + 1)) K.calls K.X.res)).length = k := by simp [← h]; omega
  rw [List.getElem?_append_right (by omega), hl, Nat.sub_self, List.getElem?_drop]
  simp
theorem seenTo_succ {K : KW} (h : K.calls.length = K.X.res.length) {k : Nat} {c : PK} {r : Rz} (hc : K.calls[k]? = some c) (hr : K.X.res[k]? = some r) : K.seenTo (k + 1) = (K.seenTo k).set k (c.see (K.now + 1) r) := by
  have hk := (List.getElem?_eq_some_iff.1 hc).1
  have hz : (List.zipWith (PK.see (K.now + 1)) K.calls K.X.res)[k]? = some (c.see (K.now + 1) r) := by
    rw [List.getElem?_zipWith, hc, hr]
  unfold KW.seenTo
  have hl : (List.take k (List.zipWith (PK.see (K.now + 1)) K.calls K.X.res)).length = k := by simp [← h]; omega
  rw [List.set_append_right _ _ (by omega), hl, Nat.sub_self]
  have hd : List.drop k K.calls = c :: List.drop (k + 1) K.calls := by
    rw [List.drop_eq_getElem_cons hk]
    congr 1
    rw [List.getElem?_eq_getElem hk] at hc
    simpa using hc
  rw [hd, List.set_cons_zero, List.take_add_one, hz]
  simp
theorem see_old {t : Int} {c : PK} (h : c.fin ≠ 0) (r : Rz) : c.see t r = c := by unfold PK.see; rw [if_neg (fun e => h e.1)]
theorem set_same {α : Type} {l : List α} {k : Nat} {c : α} (h : l[k]? = some c) : l.set k c = l := by
  apply List.ext_getElem?
  intro i
  by_cases e : k = i
  · subst e
    rw [List.getElem?_set_self (List.getElem?_eq_some_iff.1 h).1, h]
  · rw [List.getElem?_set_ne e]
theorem seenTo_no {K : KW} (h : K.calls.length = K.X.res.length) {k : Nat} {c : PK} {r : Rz} (hc : K.calls[k]? = some c) (hr : K.X.res[k]? = some r) (hs : c.see (K.now + 1) r = c) : K.seenTo (k + 1) = K.seenTo k := by
  rw [seenTo_succ h hc hr, hs]
  exact set_same ((seenTo_at h k (List.getElem?_eq_some_iff.1 hc).1).trans hc)
/-- What is noted fits with what is told. -/
structure WatchOk (K : KW) : Prop where
  len : K.calls.length = K.X.res.length
  le : K.calls.length ≤ 100
  same : ∀ (i : Nat) (c : PK) (r : Rz), K.calls[i]? = some c → K.X.res[i]? = some r → c.fin ≠ 0 → c.r = r
  val : ∀ r ∈ K.X.res, r.val.length ≤ 255
  n0 : 0 ≤ K.now
  n1 : K.now ≤ 400000
section
variable {w : World} {tag : Nat → Nat} {g p q n m v : Nat} {ce : Int} {K : KW} {pv av lv cv hv : Value} {ps cs ls : List Value}
set_option maxRecDepth 100000 in
set_option maxHeartbeats 4000000 in
theorem watch_any (h : WdX w tag g p q n m v ce K pv av lv cv hv ps cs ls) (hW : WatchOk K) (hnm : n * m + v ≤ 20) :
    Calls Tryz.prog 53 #[.pointer (some ⟨g, 0, none⟩)] w fun en w' => en = .returned (.bool true) ∧ ∃ tag', KSt P14 w tag w' tag' ∧ ∃ cs', WdX w' tag' g p q n m v ce K.watch pv av lv cv hv ps cs' ls := by
  obtain ⟨ca, cc, rfl⟩ := h.ca.row.shape
  obtain ⟨aa, ac, rfl⟩ := h.ac.shape
  obtain ⟨ab, rfl, _⟩ := h.ac.cells (by decide)
  have c8 := h.cellAt 8 rfl
  have f8 := frozen_of_row w g 8 _ 66 h.hg
  have lg := h.lt
  have h1 := h.setNow (K.now + 1) (by omega)
  have k1 : KSt P14 w tag (w.setCell ⟨g, 8, none⟩ (.int .i64 (K.now + 1))) tag := (kst_set h.tg 8 _).mono fun t e => .inl e
  obtain ⟨W, hWW⟩ : ∃ W, w.setCell ⟨g, 8, none⟩ (.int .i64 (K.now + 1)) = W := ⟨_, rfl⟩
  rw [hWW] at h1 k1
  have hwrap : IntKind.i64.wrap (K.now + 1) = K.now + 1 := by have := hW.n0; have := hW.n1; rw [IntKind.wrap_i64]; omega
  have HW := hid hW
  have H1 := hid h1
  have HK1 := hid k1
  have HWW := hid hWW
  have hle := hW.le
  clear h h1 k1 hW hWW
  go_enter Tryz.func53, Tryz.ntmps53
  go_upto_region 2 with fail
  rw [HWW.out]
  clear HWW c8 f8
  go_wp2
  go_loopw [3] (fun i wr => ∃ (k : Nat) (tag' : Nat → Nat) (cs' : List Value), k ≤ K.calls.length ∧ i = .int .i64 k ∧ Hid (KSt P14 w tag wr tag') ∧ Hid (WdX wr tag' g p q n m v ce { K with now := K.now + 1, calls := K.seenTo k } pv (.slice (some ⟨ab, 0, none⟩) 1 ac) lv (.slice ca K.calls.length cc) hv ps cs' ls)) (fun i _ => K.calls.length - (Go.RowKit.intOf i).toNat)
  case atStart => exact ⟨0, tag, cs, Nat.zero_le _, rfl, HK1, by rw [seenTo_zero]; exact H1⟩
  case round =>
    clear H1 HK1
    obtain ⟨k, tag', cs', hk, rfl, HK, HD⟩ := hrel
    have d7 := HD.out.cellAt 7 rfl
    have lgr := HD.out.lt
    by_cases hlt : k < K.calls.length
    · have hltI : (k : Int) < (K.calls.length : Int) := by omega
      have hat := seenTo_at HW.out.len k hlt
      obtain ⟨c, hc⟩ : ∃ c, K.calls[k]? = some c := ⟨_, List.getElem?_eq_getElem hlt⟩
      obtain ⟨r, hr⟩ : ∃ r, K.X.res[k]? = some r := ⟨_, List.getElem?_eq_getElem (by rw [← HW.out.len]; exact hlt)⟩
      have HSL := hid (seenTo_len HW.out.len k hk)
      have Hcc := hid (hat.trans hc)
      have Hc := hid hc
      have Hr := hid hr
      have hrow := HD.out.ca.row
      simp only [HSL.out] at hrow
      obtain ⟨cb, rfl, tcb, lcb, hce, hfr⟩ := hrow.cells (by omega)
      obtain ⟨tv, rv, e0, e1, e2, e3, e4, e5, e6, e7, e8, e9, e10, e11, e12⟩ := HD.out.ca.c k c Hcc.out
      have d0 := (hce (k * 11) (by omega)).trans e0
      have d1 := (hce (k * 11 + 1) (by omega)).trans e1
      have d2 := (hce (k * 11 + 2) (by omega)).trans e2
      have d3 := (hce (k * 11 + 3) (by omega)).trans e3
      have d4 := (hce (k * 11 + 4) (by omega)).trans e4
      have d5 := (hce (k * 11 + 5) (by omega)).trans e5
      have d6 := (hce (k * 11 + 6) (by omega)).trans e6
      have dd7 := (hce (k * 11 + 7) (by omega)).trans e7
      have d8 := (hce (k * 11 + 8) (by omega)).trans e8
      have d9 := (hce (k * 11 + 9) (by omega)).trans e9
      have d10 := (hce (k * 11 + 10) (by omega)).trans e10
      obtain ⟨ta, tc, rfl⟩ := e11.shape
      obtain ⟨ra, rc, rfl⟩ := e12.shape
      rw [List.length_map] at d10 e12
      have Hrv := hid e12
      have Hfr := hid (hfr (k * 11 + 7))
      clear hce e0 e1 e2 e3 e4 e5 e6 e7 e8 e9 e10 e11 e12 hat hc hr hrow
      have c5r := HD.out.cellAt 5 rfl
      obtain ⟨ab', eab, _, lab, hace, _⟩ := HD.out.ac.cells (by decide)
      simp only [Option.some.injEq, Addr.mk.injEq, and_true] at eab
      subst eab
      have a0 := hace 0 (by decide)
      have a1 := hace 1 (by decide)
      have a2 := hace 2 (by decide)
      simp only [List.getElem?_cons_zero, List.getElem?_cons_succ] at a0 a1 a2
      obtain ⟨O, hO⟩ : ∃ O, Obj.cells #[Value.int .i64 0, .int .i64 k, .int .i64 c.kind, .int .i64 c.pos, .string (strOf c.value), .slice ta c.tokens.length tc, .int .i64 c.beg, .int .i64 c.fin, .int .i64 c.r.wh, .int .i64 c.r.ad, .slice ra c.r.val.length rc] 60 = O := ⟨_, rfl⟩
      obtain ⟨W5, hW5⟩ : ∃ W5, wr.alloc O = W5 := ⟨_, rfl⟩
      have bA := (Bl.refl wr).alloc O
      have hbox := heap_alloc_new wr O
      rw [hW5] at bA hbox
      have x5 := (bA.cell lgr).trans c5r
      have x0 := (bA.cell lab).trans a0
      have x1 := (bA.cell lab).trans a1
      have x2 := (bA.cell lab).trans a2
      have lab5 := Nat.lt_of_lt_of_le lab bA.lt
      have lg5 := Nat.lt_of_lt_of_le lgr bA.lt
      have lbx : wr.heap.size < W5.heap.size := (Array.getElem?_eq_some_iff.1 hbox).1
      rw [← hO] at hbox
      have y0 : W5.cell? ⟨wr.heap.size, 0, none⟩ = some (.int .i64 0) := cell_of_row W5 _ 0 _ 60 (0, 0) hbox
      have HBX := hid hbox
      have HB5 := hid bA
      have HO := hid hO
      have HW5 := hid hW5
      clear bA hbox a0 a1 a2 hace c5r hW5 hO
      go_upto_region 6 with fail
      rw [HO.out, HW5.out]
      clear HW5
      go_cut [5] from 15 to 107 (fun y wx => ∃ g5, y = .pointer (some ⟨g5, 0, none⟩) ∧ Hid (Bl W5 wx ∧ W5.heap.size ≤ g5 ∧ wx.heap[g5]? = some (.cells #[.int .i64 1000, .pointer (some ⟨p, 0, none⟩), .bool true] 126 (0, 0))))
      case first =>
        go_region
        all_goals (go_wp2_with fail; go_meet)
        all_goals (refine ⟨_, rfl, ?_, Nat.le_refl _, ?_⟩; (first | exact ((Bl.refl W5).alloc _).drew | exact ((Bl.refl W5).drew).alloc _ | exact (Bl.refl W5).alloc _); exact heap_alloc_new _ _)
      case rest =>
        obtain ⟨g5, rfl, HG5⟩ := hcut
        have hbw := HB5.out.trans HG5.out.1
        have lg5' : g5 < wc.heap.size := (Array.getElem?_eq_some_iff.1 HG5.out.2.2).1
        have z1 : wc.cell? ⟨g5, 1, none⟩ = some (.pointer (some ⟨p, 0, none⟩)) := cell_of_row wc _ 1 _ 126 (0, 0) HG5.out.2.2
        have z2 : wc.cell? ⟨g5, 2, none⟩ = some (.bool true) := cell_of_row wc _ 2 _ 126 (0, 0) HG5.out.2.2
        have hbx := (HG5.out.1.heap lbx).trans HBX.out
        have lbx2 : wr.heap.size < wc.heap.size := Nat.lt_of_lt_of_le lbx HG5.out.1.lt
        have y1 : wc.cell? ⟨wr.heap.size, 1, none⟩ = some (.int .i64 k) := cell_of_row wc _ 1 _ 60 (0, 0) hbx
        have HBX2 := hid hbx
        have HBW := hid hbw
        have hlr : r.val.length ≤ 255 := HW.out.val r (List.mem_of_getElem? Hr.out)
        have HRS : Hid (Calls Tryz.prog 23 #[.pointer (some ⟨p, 0, none⟩), .int .i64 k] wc fun en w' => ∃ va vc, en = .returned (.tuple #[.agg #[.int .i64 r.wh, .int .i64 r.ad, .slice va r.val.length vc], .int .i64 0]) ∧ Bl wc w' ∧ w'.ownsRow wc.heap.size 5 1 (.slice va r.val.length vc) r.val.length (r.val.map B8)) := by
          obtain ⟨lv, rv, vv, nv, av, bm, born, clk, hcl⟩ := HD.out.cl.bl hbw (fun b hb e => e)
          exact fcl_result hcl k r Hr.out (by rw [← HW.out.len]; omega) (by omega)
        have HDD := hid (And.intro dd7 (And.intro d8 (And.intro d9 d10)))
        clear hbw hbx HBX HG5 y0 x0 x1 x2 x5 d0 d1 d2 d3 d4 d5 d6 d8 d9 d10 dd7 d7
        go_upto_region 11 with (go_at_call 23; refine HRS.out.mono ?_; rintro en w8 ⟨va, vc, rfl, hb8, ho8⟩; have HB8 := hid hb8; have HO8 := hid ho8; clear hb8 ho8)
        obtain ⟨W9, hW9⟩ : ∃ W9, w8.alloc (.cells #[.int .i64 r.wh, .int .i64 r.ad, .slice va r.val.length vc] 43) = W9 := ⟨_, rfl⟩
        have b9 := (Bl.refl w8).alloc (.cells #[.int .i64 r.wh, .int .i64 r.ad, .slice va r.val.length vc] 43)
        have hrb := heap_alloc_new w8 (.cells #[.int .i64 r.wh, .int .i64 r.ad, .slice va r.val.length vc] 43)
        rw [hW9] at b9 hrb ⊢
        have bW9 := HBW.out.trans (HB8.out.trans b9)
        have D9 := HD.out.bl (tag' := tagTo tag' wr.heap.size 99) bW9 (fun b hb => tagTo_old _ _ _ _ hb)
        have K9 : KSt P14 w tag W9 (tagTo tag' wr.heap.size 99) := HK.out.trans (KSt.of_bl bW9 99)
        have lrb : w8.heap.size < W9.heap.size := (Array.getElem?_eq_some_iff.1 hrb).1
        have hbx9 := ((HB8.out.trans b9).heap lbx2).trans HBX2.out
        have lbx9 : wr.heap.size < W9.heap.size := (Array.getElem?_eq_some_iff.1 hbx9).1
        have y7 : W9.cell? ⟨wr.heap.size, 7, none⟩ = some (.int .i64 c.fin) := cell_of_row W9 _ 7 _ 60 (0, 0) hbx9
        have y8 : W9.cell? ⟨wr.heap.size, 8, none⟩ = some (.int .i64 c.r.wh) := cell_of_row W9 _ 8 _ 60 (0, 0) hbx9
        have y9 : W9.cell? ⟨wr.heap.size, 9, none⟩ = some (.int .i64 c.r.ad) := cell_of_row W9 _ 9 _ 60 (0, 0) hbx9
        have y10 : W9.cell? ⟨wr.heap.size, 10, none⟩ = some (.slice ra c.r.val.length rc) := cell_of_row W9 _ 10 _ 60 (0, 0) hbx9
        have q0 : W9.cell? ⟨w8.heap.size, 0, none⟩ = some (.int .i64 r.wh) := cell_of_row W9 _ 0 _ 43 (0, 0) hrb
        have q1 : W9.cell? ⟨w8.heap.size, 1, none⟩ = some (.int .i64 r.ad) := cell_of_row W9 _ 1 _ 43 (0, 0) hrb
        have q2 : W9.cell? ⟨w8.heap.size, 2, none⟩ = some (.slice va r.val.length vc) := cell_of_row W9 _ 2 _ 43 (0, 0) hrb
        have hRd : Rd W9 (tagTo tag' wr.heap.size 99) 99 5 (.slice va r.val.length vc) (r.val.map B8) := (Rd.of_own HO8.out fun b hb => tagTo_new _ _ _ _ (Nat.le_trans HBW.out.lt (HO8.out.lt b hb).1)).bl b9 (fun _ _ e => e)
        have hRd0 : Rd W9 (tagTo tag' wr.heap.size 99) 99 5 (.slice ra c.r.val.length rc) (c.r.val.map B8) := Hrv.out.bl bW9 (fun b hb e => by rw [tagTo_old _ _ _ _ hb]; exact e)
        have lgb : w8.heap.size ≠ cb := by have := Nat.lt_of_lt_of_le lcb (Nat.le_trans HBW.out.lt HB8.out.lt); omega
        have lg9 := D9.lt
        have g7 := D9.cellAt 7 rfl
        have g8 := D9.cellAt 8 rfl
        have lcb9 : cb < W9.heap.size := Nat.lt_of_lt_of_le lcb bW9.lt
        have cfr : ∀ j, W9.frozen? ⟨cb, j, none⟩ = false := fun j => (bW9.frozen lcb).trans (hfr j)
        have cf7 := cfr (k * 11 + 7)
        have w7 := (bW9.cell lcb).trans HDD.out.1
        have w80 := (bW9.cell lcb).trans HDD.out.2.1
        have w90 := (bW9.cell lcb).trans HDD.out.2.2.1
        have w10 := (bW9.cell lcb).trans HDD.out.2.2.2
        have HRd := hid hRd
        have HRd0 := hid hRd0
        have HD9 := hid D9
        have HK9 := hid K9
        have Hcfr := hid cfr
        clear b9 hrb bW9 D9 K9 hbx9 hRd hRd0 cfr hW9 HBW HB8 HO8 HRS HBX2 HB5 HD HK Hrv Hfr hfr z1 z2 y1
        by_cases hfin : c.fin = 0
        · by_cases hwh : r.wh = 0
          · have hsee := hid (seenTo_no HW.out.len Hc.out Hr.out (by unfold PK.see; rw [if_neg (fun e => e.2 hwh)]))
            rw [hfin] at y7
            rw [hwh] at q0
            go_wp2
            go_roundw
            case rel => exact ⟨k + 1, _, cs', by omega, by go_num, HK9, by rw [hsee.out]; exact HD9.out⟩
            case measure => simp [Go.RowKit.intOf]; omega
          · have hsee := hid (seenTo_succ HW.out.len Hc.out Hr.out)
            rw [hfin] at y7
            have cf8 := Hcfr.out (k * 11 + 8)
            have cf9 := Hcfr.out (k * 11 + 9)
            have cf10 := Hcfr.out (k * 11 + 10)
            go_upto_region 12 with fail
            go_region
            all_goals (go_wp2_with fail)
            obtain ⟨W10, hW10⟩ : ∃ W10, (W9.setCell ⟨cb, k * 11 + 7, none⟩ (.int .i64 (K.now + 1))).drew = W10 := ⟨_, rfl⟩
            have O10 : Only (fun b => b = cb) W9 W10 := by
              rw [← hW10]
              exact ((Only.refl (fun b => b = cb) W9).setCell ⟨cb, k * 11 + 7, none⟩ (.inl rfl) _).trans (Only.of_bl (Bl.refl _).drew)
            have hgcb : g ≠ cb := fun e => own_ne_block HD9.out.ca.row.own HD9.out.hg (by decide) (by rw [e]; rfl)
            have g7' := (O10.cell lg9 hgcb (o := 7)).trans g7
            have q0' := (O10.cell lrb lgb (o := 0)).trans q0
            have q1' := (O10.cell lrb lgb (o := 1)).trans q1
            have q2' := (O10.cell lrb lgb (o := 2)).trans q2
            have w80' : W10.cell? ⟨cb, k * 11 + 8, none⟩ = some (.int .i64 c.r.wh) := by rw [← hW10]; exact (World.cell?_setCell_other _ _ _ _ (by simp)).trans w80
            have w90' : W10.cell? ⟨cb, k * 11 + 9, none⟩ = some (.int .i64 c.r.ad) := by rw [← hW10]; exact (World.cell?_setCell_other _ _ _ _ (by simp)).trans w90
            have w10' : W10.cell? ⟨cb, k * 11 + 10, none⟩ = some (.slice ra c.r.val.length rc) := by rw [← hW10]; exact (World.cell?_setCell_other _ _ _ _ (by simp)).trans w10
            have f8' : W10.frozen? ⟨cb, k * 11 + 8, none⟩ = false := by rw [← hW10]; exact (World.frozen?_setCell _ _ _ _).trans cf8
            have f9' : W10.frozen? ⟨cb, k * 11 + 9, none⟩ = false := by rw [← hW10]; exact (World.frozen?_setCell _ _ _ _).trans cf9
            have f10' : W10.frozen? ⟨cb, k * 11 + 10, none⟩ = false := by rw [← hW10]; exact (World.frozen?_setCell _ _ _ _).trans cf10
            have lg10 := Nat.lt_of_lt_of_le lg9 O10.size
            have lcb10 := Nat.lt_of_lt_of_le lcb9 O10.size
            have lrb10 := Nat.lt_of_lt_of_le lrb O10.size
            rw [hW10]
            have HW10 := hid hW10
            clear hW10 O10 g7 g8 q0 q1 q2 w7 w80 w90 w10 y7 y8 y9 y10 cf7 cf8 cf9 cf10
            go_region
            all_goals (go_wp2_with fail)
            have hWF : (((W10.setCell ⟨cb, k * 11 + 8, none⟩ (.int .i64 r.wh)).setCell ⟨cb, k * 11 + 8 + 1, none⟩ (.int .i64 r.ad)).setCell ⟨cb, k * 11 + 8 + 2, none⟩ (.slice va r.val.length vc)).drew = (puts W9 cb (k * 11 + 7) [.int .i64 (K.now + 1), .int .i64 r.wh, .int .i64 r.ad, .slice va r.val.length vc]).drew.drew := by
              rw [← HW10.out]; rfl
            rw [hWF]
            have hC := HD9.out.ca.see HSL.out Hcc.out (K.now + 1) r _ HRd.out
            have tcb9 : tagTo tag' wr.heap.size 99 cb = 4 := HD9.out.ca.row.tag cb rfl
            have hP : KSt (fun s => s = 4) W9 (tagTo tag' wr.heap.size 99) (puts W9 cb (k * 11 + 7) [.int .i64 (K.now + 1), .int .i64 r.wh, .int .i64 r.ad, .slice va r.val.length vc]) (tagTo tag' wr.heap.size 99) := kst_puts tcb9 _ _
            have hD := HD9.out.reCalls (hP.mono fun t e => .inl e) hC hnm
            have hD2 := hD.bl (tag' := tagTo tag' wr.heap.size 99) ((Bl.refl _).drew.drew) (fun _ _ => rfl)
            have hS2 : c.see (K.now + 1) r = { c with fin := K.now + 1, r := r } := by unfold PK.see; rw [if_pos ⟨hfin, hwh⟩]
            rw [hS2] at hsee
            rw [← hsee.out] at hD2
            exact ⟨⟨k + 1, _, _, by omega, by go_num, (HK9.out.trans (hP.mono fun t e => .inr e)).trans (KSt.of_bl' ((Bl.refl _).drew.drew) (fun _ _ => rfl)), hD2⟩, by simp [Go.RowKit.intOf]; omega⟩
        · have hcr := HW.out.same k c r Hc.out Hr.out hfin
          have hsee := hid (seenTo_no HW.out.len Hc.out Hr.out (see_old hfin r))
          rw [hcr] at y8 y9 y10 HRd0
          clear w7 w80 w90 w10
          have v1 := conv_any _ r.val W9 HRd.out.bs.sl
          have v2 := conv_any _ r.val W9 HRd0.out.bs.sl
          go_wp2
          refine ⟨⟨k + 1, _, cs', by omega, by go_num, HK9, by rw [hsee.out]; exact HD9.out⟩, by simp [Go.RowKit.intOf]; omega⟩
    · have hge : ¬ ((k : Int) < (K.calls.length : Int)) := by omega
      have hkn : k = K.calls.length := by omega
      subst hkn
      go_wp2
      go_ret
      refine ⟨rfl, tag', HK.out, cs', ?_⟩
      have := HD.out
      rw [seenTo_all HW.out.len] at this
      exact this
end
end Go.Proofs.YtnhjmiglegdamaaGreat

namespace Go.Proofs.YtnhjmiglegdamaaGreat
open Go.RowKit Go.Maps
/-- A message that may be handed in. -/
inductive HandOk (n m v : Nat) (ce : Int) (K : KW) : Ms → Prop
  | req (u kd nr pl : Int) (ct : Ct) (h0 : 0 ≤ u) (h1 : u < (n * m : Nat)) (ok : Rc.Ok reqShs ⟨kd, [nr, 0, pl, ct.kd, ct.cl, ct.ca], ct.val⟩) (hkd : kd = 1 ∨ kd = 2 ∨ kd = 3 ∨ kd = 4) (hys : Byt ct.val) (hc : kd = 2 → isC ct.kd ct.val.length = true) (hU : ∀ U, K.us[u.toNat]? = some U → (uAns n m v ce u.toNat U.s kd pl ct).1.ct.val.length ≤ 255 ∧ U.q.length ≤ 100) : HandOk n m v ce K (.req u kd nr pl ct)
  | rep (u : Nat) (nr : Int) (A : An) (h1 : u < n * m) (hR : RecvOk n m v ce K.X u nr A) (ok : Rc.Ok repShs ⟨101, [nr, A.wh, A.ep, A.mark, A.ct.kd, A.ct.cl, A.ct.ca], A.ct.val⟩) : HandOk n m v ce K (.rep u nr A)
/-- Messages are handed in one behind the other. -/
inductive Runs (n m v : Nat) (ce : Int) : KW → List Ms → KW → Prop
  | nil (K : KW) : Runs n m v ce K [] K
  | cons (K : KW) (l : Ms) (ls : List Ms) (K' : KW) (h : HandOk n m v ce K l) (hW : WatchOk { K.recv n m v ce l with now := K.now + 1 }) (r : Runs n m v ce (K.hand n m v ce l) ls K') : Runs n m v ce K (l :: ls) K'
section
variable {n m v : Nat} {ce : Int}
theorem Runs.append {K K1 K2 : KW} {l1 l2 : List Ms} (h : Runs n m v ce K l1 K1) (k : Runs n m v ce K1 l2 K2) : Runs n m v ce K (l1 ++ l2) K2 := by
  induction h with
  | nil K => exact k
  | cons K l ls K' h hW r ih => exact .cons K l _ _ h hW (ih k)
theorem Runs.one {K : KW} {l : Ms} (h : HandOk n m v ce K l) (hW : WatchOk { K.recv n m v ce l with now := K.now + 1 }) : Runs n m v ce K [l] (K.hand n m v ce l) := .cons K l [] _ h hW (.nil _)
theorem runs_flat (N : Nat) (gs : Nat → List Ms) (I : Nat → KW → Prop) (h : ∀ u, u < N → ∀ K, I u K → ∃ K', Runs n m v ce K (gs u) K' ∧ I (u + 1) K') {K : KW} (h0 : I 0 K) : ∃ K', Runs n m v ce K ((List.range N).flatMap gs) K' ∧ I N K' := by
  induction N with
  | zero => exact ⟨K, .nil K, h0⟩
  | succ N ih =>
    obtain ⟨K1, r1, i1⟩ := ih fun u hu => h u (by omega)
    obtain ⟨K2, r2, i2⟩ := h N (by omega) K1 i1
    refine ⟨K2, ?_, i2⟩
    rw [List.range_succ, List.flatMap_append]
    simpa using r1.append r2
end
/-- The units, told by a function. -/
def usOf (N : Nat) (f : Nat → UQ) : List UQ := (List.range N).map f
theorem usOf_get {N : Nat} (f : Nat → UQ) {u : Nat} (h : u < N) : (usOf N f)[u]? = some (f u) := by
  unfold usOf; rw [List.getElem?_map, List.getElem?_range h]; rfl
theorem usOf_len (N : Nat) (f : Nat → UQ) : (usOf N f).length = N := by simp [usOf]
theorem usOf_congr {N : Nat} {f f' : Nat → UQ} (h : ∀ u, u < N → f u = f' u) : usOf N f = usOf N f' := by
  unfold usOf
  exact List.map_congr_left fun u hu => h u (List.mem_range.1 hu)
theorem usOf_set {N : Nat} (f : Nat → UQ) (u : Nat) (x : UQ) : (usOf N f).set u x = usOf N fun k => if k = u then x else f k := by
  apply List.ext_getElem?
  intro i
  by_cases hi : i < N
  · rw [usOf_get _ hi]
    by_cases e : u = i
    · subst e
      rw [List.getElem?_set_self (by rw [usOf_len]; exact hi)]; simp
    · rw [List.getElem?_set_ne e, usOf_get _ hi, if_neg (Ne.symm e)]
  · rw [List.getElem?_eq_none (by simp [usOf_len]; omega), List.getElem?_eq_none (by simp [usOf_len]; omega)]
/-- All give out. -/
theorem outs_is {n m v : Nat} {K : KW} {f : Nat → UQ} (hus : K.us = usOf (n * m) f) : K.outs n m v = { K with us := usOf (n * m) (fun u => ⟨(f u).s, []⟩), X := K.X.outX, pool := ((List.range (n * m)).flatMap fun u => (f u).q.map fun z => .rep u z.1 z.2) ++ K.X.outM } := by
  have key : ∀ k, k ≤ n * m → ({ K with pool := [] } : KW).outsTo n m v k = { K with us := usOf (n * m) (fun u => if u < k then ⟨(f u).s, []⟩ else f u), pool := (List.range k).flatMap fun u => (f u).q.map fun z => .rep u z.1 z.2 } := by
    intro k
    induction k with
    | zero => intro _; simp only [KW.outsTo, List.range_zero, List.foldl_nil, List.flatMap_nil, Nat.not_lt_zero, if_false, hus]
    | succ k ih =>
      intro hk
      rw [KW.outsTo_succ, ih (by omega)]
      unfold KW.outAt
      rw [if_pos (by omega)]
      unfold KW.outU
      rw [usOf_get _ (by omega : k < n * m)]
      simp only [Nat.lt_irrefl, if_false]
      rw [usOf_set, List.range_succ, List.flatMap_append]
      congr 1
      · apply usOf_congr
        intro u _
        by_cases e : u = k
        · subst e; simp
        · rw [if_neg e]
          by_cases h : u < k
          · rw [if_pos h, if_pos (by omega)]
          · rw [if_neg h, if_neg (by omega)]
      · simp
  have key2 : ∀ k, k ≤ v → ({ K with pool := [] } : KW).outsTo n m v (n * m + k) = ({ K with pool := [] } : KW).outsTo n m v (n * m) := by
    intro k
    induction k with
    | zero => intro _; rfl
    | succ k ih =>
      intro hk
      rw [← Nat.add_assoc, KW.outsTo_succ, ih (by omega)]
      unfold KW.outAt
      rw [if_neg (by omega), if_pos (by omega)]
  unfold KW.outs
  rw [KW.outsTo_succ, key2 v (Nat.le_refl _), key _ (Nat.le_refl _)]
  unfold KW.outAt
  rw [if_neg (by omega), if_neg (by omega)]
  unfold KW.outC
  have hc : usOf (n * m) (fun u => if u < n * m then ⟨(f u).s, []⟩ else f u) = usOf (n * m) (fun u => ⟨(f u).s, []⟩) := usOf_congr fun u hu => by rw [if_pos hu]
  simp only [hc]
/-- The last call is d, the others have ended. -/
structure Nt (past : List PK) (d : PK) (K : KW) : Prop where
  old : ∀ (i : Nat) (c : PK), past[i]? = some c → K.X.res[i]? = some c.r ∧ c.fin ≠ 0
  len : K.X.res.length = past.length + 1
  ex : ∃ c r, K.calls = past ++ [c] ∧ K.X.res[past.length]? = some r ∧ ((r.wh = 0 ∧ c = d) ∨ (r.wh ≠ 0 ∧ ∃ t, d.beg < t ∧ t ≤ K.now ∧ c = { d with fin := t, r := r }))
  d0 : d.fin = 0
  beg : d.beg ≤ K.now
  le : past.length ≤ 60
  n0 : 0 ≤ d.beg
  val : ∀ r ∈ K.X.res, r.val.length ≤ 255
theorem Nt.ok {past : List PK} {d : PK} {K : KW} (h : Nt past d K) (hn : K.now ≤ 400000) : WatchOk K := by
  obtain ⟨c, r, e1, e2, e3⟩ := h.ex
  refine ⟨by rw [e1, h.len]; simp, by rw [e1]; have := h.le; simp; omega, fun i c' r' hc hr hf => ?_, h.val, by have := h.n0; have := h.beg; omega, hn⟩
  rw [e1] at hc
  by_cases hi : i < past.length
  · rw [List.getElem?_append_left hi] at hc
    have := (h.old i c' hc).1
    rw [hr] at this
    simpa using this.symm
  · have hil := (List.getElem?_eq_some_iff.1 hc).1
    simp at hil
    have hi' : i = past.length := by omega
    subst hi'
    rw [List.getElem?_append_right (Nat.le_refl _)] at hc
    simp at hc
    subst hc
    rw [e2] at hr
    simp only [Option.some.injEq] at hr
    subst hr
    rcases e3 with ⟨_, rfl⟩ | ⟨_, t, _, _, rfl⟩
    · exact absurd h.d0 hf
    · rfl
/-- What the client tells of the call that goes on: as it was, or its end. -/
def ResGo (l : Nat) (R R' : List Rz) : Prop := R' = R ∨ ∃ r, (∃ r0, R[l]? = some r0 ∧ r0.wh = 0) ∧ r.wh ≠ 0 ∧ r.val.length ≤ 255 ∧ R' = R.set l r
theorem zip_old {t : Int} : ∀ (past : List PK) (R : List Rz), past.length ≤ R.length → (∀ c ∈ past, c.fin ≠ 0) → List.zipWith (PK.see t) past (R.take past.length) = past
  | [], _, _, _ => rfl
  | c :: past, [], h, _ => by simp at h
  | c :: past, r :: R, h, hp => by
    simp only [List.length_cons, List.take_succ_cons, List.zipWith_cons_cons]
    rw [see_old (hp c (List.mem_cons_self ..)), zip_old past R (by simpa using h) fun c hc => hp c (List.mem_cons_of_mem _ hc)]
theorem zip_last {t : Int} {past : List PK} {c : PK} {R : List Rz} {r : Rz} (hl : R.length = past.length + 1) (hr : R[past.length]? = some r) (hp : ∀ c ∈ past, c.fin ≠ 0) : List.zipWith (PK.see t) (past ++ [c]) R = past ++ [c.see t r] := by
  have hR : R = R.take past.length ++ [r] := by
    have h1 : R.take (past.length + 1) = R := List.take_of_length_le (by omega)
    refine h1.symm.trans ?_
    rw [List.take_add_one, hr]
    rfl
  rw [hR, List.zipWith_append (by simp; omega), zip_old past R (by omega) hp]
  rfl
theorem Nt.watch {past : List PK} {d : PK} {K : KW} (h : Nt past d K) {X' : CX} (hR : ResGo past.length K.X.res X'.res) (us : List UQ) (pool : List Ms) (now : Int) (hn : K.now ≤ now) (had : Nat) : Nt past d (KW.watch ⟨us, X', pool, K.calls, now, had⟩) := by
  obtain ⟨c, r, e1, e2, e3⟩ := h.ex
  have hp : ∀ c ∈ past, c.fin ≠ 0 := fun c hc => by
    obtain ⟨i, hi, rfl⟩ := List.mem_iff_getElem.1 hc
    exact (h.old i _ (List.getElem?_eq_getElem hi)).2
  have hl : X'.res.length = past.length + 1 := by
    rcases hR with e | ⟨r', _, _, _, e⟩
    · rw [e]; exact h.len
    · rw [e, List.length_set]; exact h.len
  refine ⟨fun i c' hc => ⟨?_, (h.old i c' hc).2⟩, hl, ?_, h.d0, by have := h.beg; simp only [KW.watch]; omega, h.le, h.n0, fun r' hr' => ?_⟩
  · simp only [KW.watch]
    have hi := (List.getElem?_eq_some_iff.1 hc).1
    rcases hR with e | ⟨r', _, _, _, e⟩
    · rw [e]; exact (h.old i c' hc).1
    · rw [e, List.getElem?_set_ne (by omega)]; exact (h.old i c' hc).1
  · simp only [KW.watch]
    rcases hR with e | ⟨r', ⟨r0, e0, e00⟩, h1, h2, e⟩
    · rw [e, e1, zip_last h.len e2 hp]
      refine ⟨_, r, rfl, e2, ?_⟩
      rcases e3 with ⟨g1, rfl⟩ | ⟨g1, t, g2, g3, rfl⟩
      · exact .inl ⟨g1, by unfold PK.see; rw [if_neg (fun e => e.2 g1)]⟩
      · refine .inr ⟨g1, t, g2, by omega, ?_⟩
        exact see_old (by have := h.n0; simp; omega) r
    · have e2' : X'.res[past.length]? = some r' := by rw [e, List.getElem?_set_self (by rw [h.len]; omega)]
      rw [e2] at e0
      simp only [Option.some.injEq] at e0
      subst e0
      rcases e3 with ⟨g1, rfl⟩ | ⟨g1, _⟩
      · refine ⟨_, r', by rw [e1, zip_last hl e2' hp], e2', .inr ⟨h1, now + 1, by have := h.beg; omega, by omega, ?_⟩⟩
        unfold PK.see
        rw [if_pos ⟨h.d0, h1⟩]
      · exact absurd e00 g1
  · rcases hR with e | ⟨r1, _, _, h2, e⟩
    · simp only [KW.watch, e] at hr'
      exact h.val r' hr'
    · simp only [KW.watch, e] at hr'
      rcases List.mem_or_eq_of_mem_set hr' with h3 | h3
      · exact h.val r' h3
      · rw [h3]; exact h2
end Go.Proofs.YtnhjmiglegdamaaGreat

namespace Go.Proofs.YtnhjmiglegdamaaGreat
open Go.RowKit Go.Maps
theorem ResGo.refl (l : Nat) (R : List Rz) : ResGo l R R := .inl rfl
theorem Nt.same {past : List PK} {d : PK} {K : KW} (h : Nt past d K) (us : List UQ) (pool : List Ms) (now : Int) (hn : K.now ≤ now) (had : Nat) : Nt past d ⟨us, K.X, pool, K.calls, now, had⟩ := by
  obtain ⟨c, r, e1, e2, e3⟩ := h.ex
  refine ⟨h.old, h.len, ⟨c, r, e1, e2, ?_⟩, h.d0, by have := h.beg; simp only; omega, h.le, h.n0, h.val⟩
  rcases e3 with e3 | ⟨g1, t, g2, g3, g4⟩
  · exact .inl e3
  · exact .inr ⟨g1, t, g2, by simp only; omega, g4⟩
theorem Nt.okR {past : List PK} {d : PK} {K : KW} (h : Nt past d K) {X' : CX} (hR : ResGo past.length K.X.res X'.res) (us : List UQ) (pool : List Ms) (now : Int) (hn : K.now ≤ now) (hn2 : now ≤ 400000) (had : Nat) : WatchOk ⟨us, X', pool, K.calls, now, had⟩ := by
  rcases hR with e | ⟨r', ⟨r0, e0, e00⟩, h1, h2, e⟩
  · have := (h.same us pool now hn had).ok hn2
    exact ⟨by rw [e]; exact this.len, this.le, fun i c r hc hr => this.same i c r hc (by rw [← e]; exact hr), fun r hr => this.val r (by rw [← e]; exact hr), this.n0, this.n1⟩
  · have := (h.same us pool now hn had).ok hn2
    refine ⟨by simp only [e, List.length_set]; exact this.len, this.le, fun i c r hc hr hf => ?_, fun r hr => ?_, this.n0, this.n1⟩
    · simp only [e] at hr
      by_cases hi : i = past.length
      · subst hi
        obtain ⟨c0, r1, e1, e2, e3⟩ := h.ex
        simp only [e1] at hc
        rw [List.getElem?_append_right (Nat.le_refl _)] at hc
        simp at hc
        subst hc
        rw [e2] at e0
        simp only [Option.some.injEq] at e0
        subst e0
        rcases e3 with ⟨_, rfl⟩ | ⟨g1, _⟩
        · exact absurd h.d0 hf
        · exact absurd e00 g1
      · rw [List.getElem?_set_ne (Ne.symm hi)] at hr
        exact this.same i c r hc hr hf
    · simp only [e] at hr
      rcases List.mem_or_eq_of_mem_set hr with h3 | h3
      · exact this.val r h3
      · rw [h3]; exact h2
/-- A request that a unit understands. -/
structure ReqOk (kd nr pl : Int) (ct : Ct) : Prop where
  ok : Rc.Ok reqShs ⟨kd, [nr, 0, pl, ct.kd, ct.cl, ct.ca], ct.val⟩
  hkd : kd = 1 ∨ kd = 2 ∨ kd = 3 ∨ kd = 4
  byt : Byt ct.val
  c : kd = 2 → isC ct.kd ct.val.length = true
/-- What unit u makes of a request. -/
def askF (n m v : Nat) (ce : Int) (f : Nat → UQ) (kd nr pl : Int) (ct : Ct) (u : Nat) : UQ := ⟨(uAns n m v ce u (f u).s kd pl ct).2, (f u).q ++ [(nr, (uAns n m v ce u (f u).s kd pl ct).1)]⟩
section
variable {n m v : Nat} {ce : Int} {past : List PK} {d : PK}
theorem runs_ask (lo len : Nat) (hN : lo + len ≤ n * m) {kd nr pl : Int} {ct : Ct} (hq : ReqOk kd nr pl ct) {K : KW} {f : Nat → UQ} (hus : K.us = usOf (n * m) f) (hA : ∀ u, lo ≤ u → u < lo + len → (uAns n m v ce u (f u).s kd pl ct).1.ct.val.length ≤ 255 ∧ (f u).q.length ≤ 100) (hNt : Nt past d K) (hn : K.now + 2 * len ≤ 400000) :
    ∃ K', Runs n m v ce K ((List.range len).map fun (j : Nat) => .req ((lo + j : Nat) : Int) kd nr pl ct) K' ∧ K'.us = usOf (n * m) (fun u => if lo ≤ u ∧ u < lo + len then askF n m v ce f kd nr pl ct u else f u) ∧ K'.X = K.X ∧ K'.pool = K.pool ∧ K'.now = K.now + 2 * len ∧ K'.had = K.had ∧ Nt past d K' := by
  induction len with
  | zero => exact ⟨K, .nil K, by rw [hus]; exact usOf_congr fun u _ => by rw [if_neg (by omega)], rfl, rfl, by simp, rfl, hNt⟩
  | succ len ih =>
    obtain ⟨K1, r1, e1, e2, e3, e4, e5, e6⟩ := ih (by omega) (fun u h1 h2 => hA u h1 (by omega)) (by omega)
    have hu1 : K1.us[((lo + len : Nat) : Int).toNat]? = some (f (lo + len)) := by
      rw [e1, Int.toNat_natCast, usOf_get _ (by omega), if_neg (by omega)]
    have hrec : K1.recv n m v ce (.req ((lo + len : Nat) : Int) kd nr pl ct) = { K1 with us := K1.us.set (lo + len) (askF n m v ce f kd nr pl ct (lo + len)) } := by
      rw [Int.toNat_natCast] at hu1
      simp only [KW.recv, Int.toNat_natCast, hu1]
      rfl
    have hH : HandOk n m v ce K1 (.req ((lo + len : Nat) : Int) kd nr pl ct) := .req _ _ _ _ _ (by omega) (by omega) hq.ok hq.hkd hq.byt hq.c fun U hU => by
      rw [hu1] at hU
      simp only [Option.some.injEq] at hU
      subst hU
      rw [Int.toNat_natCast]
      exact hA _ (by omega) (by omega)
    have hWo : WatchOk { K1.recv n m v ce (.req ((lo + len : Nat) : Int) kd nr pl ct) with now := K1.now + 1 } := by
      rw [hrec]
      exact e6.okR (ResGo.refl _ _) _ _ _ (by omega) (by omega) _
    refine ⟨K1.hand n m v ce (.req ((lo + len : Nat) : Int) kd nr pl ct), ?_, ?_, ?_, ?_, ?_, ?_, ?_⟩
    · rw [List.range_succ, List.map_append]
      exact r1.append (Runs.one hH hWo)
    · unfold KW.hand
      rw [hrec]
      simp only [KW.watch]
      rw [e1, usOf_set]
      apply usOf_congr
      intro u hu
      by_cases h : u = lo + len
      · subst h; rw [if_pos rfl, if_pos (by omega)]
      · rw [if_neg h]
        by_cases h2 : lo ≤ u ∧ u < lo + len
        · rw [if_pos h2, if_pos (by omega)]
        · rw [if_neg h2, if_neg (by omega)]
    · unfold KW.hand; rw [hrec]; exact e2
    · unfold KW.hand; rw [hrec]; exact e3
    · unfold KW.hand; rw [hrec]; simp only [KW.watch]; omega
    · unfold KW.hand; rw [hrec]; exact e5
    · unfold KW.hand
      rw [hrec]
      exact e6.watch (ResGo.refl _ _) _ _ _ (by omega) _
/-- A probe that goes on. -/
structure PrL (pr pr' : PQ) : Prop where
  nr : pr'.nr = pr.nr
  nodes : pr'.nodes = pr.nodes
  due : pr'.due = pr.due
theorem PrL.refl (pr : PQ) : PrL pr pr := ⟨rfl, rfl, rfl⟩
theorem awaits_nr {q : PQ} {nr fr : Int} (h : q.nr ≠ nr) : q.awaits nr fr = false := by simp [PQ.awaits, h]
/-- A reply that a client understands. -/
def RepOk (nr : Int) (A : An) : Prop := Rc.Ok repShs ⟨101, [nr, A.wh, A.ep, A.mark, A.ct.kd, A.ct.cl, A.ct.ca], A.ct.val⟩
theorem hand_rep {K : KW} {u : Nat} {nr : Int} {A : An} (hu : u < n * m) (hR : RecvOk n m v ce K.X u nr A) (ok : RepOk nr A) (hNt : Nt past d K) (hG : ResGo past.length K.X.res (K.X.recv n m u nr A).res) (hn : K.now + 1 ≤ 400000) :
    Runs n m v ce K [.rep u nr A] (K.hand n m v ce (.rep u nr A)) ∧ Nt past d (K.hand n m v ce (.rep u nr A)) :=
  ⟨Runs.one (.rep u nr A hu hR ok) (hNt.okR hG _ _ _ (by omega) hn _), hNt.watch hG _ _ _ (by omega) _⟩
/-- The answers come back: those to the call, and those to the probe. -/
theorem runs_back (lo len : Nat) (hN : lo + len ≤ n * m) (nr nrP : Int) (A : Nat → An) (PA : An) (b : Bool) (pr : PQ) (Z : Nat → CX) (hpn : pr.nodes.length ≤ 100) (hPA : PA.wh ≠ 5) (okA : ∀ u, lo ≤ u → u < lo + len → RepOk nr (A u)) (okP : b = true → RepOk nrP PA) (hnrP : b = true → pr.nr = nrP)
    (hz : ∀ k, k < len → ∀ pr', PrL pr pr' → RecvOk n m v ce { Z k with pr := pr' } (lo + k : Nat) nr (A (lo + k)) ∧ ({ Z k with pr := pr' } : CX).recv n m (lo + k : Nat) nr (A (lo + k)) = { Z (k + 1) with pr := pr' } ∧ ResGo past.length (Z k).res (Z (k + 1)).res)
    (hp : ∀ k, k ≤ len → 0 ≤ (Z k).asked ∧ (Z k).asked ≤ 1000000 ∧ ∀ c, (Z k).pend = some c → c.q.nodes.length ≤ 100 ∧ c.q.nr ≠ pr.nr)
    {K : KW} (hX : ∃ pr', K.X = { Z 0 with pr := pr' } ∧ PrL pr pr') (hNt : Nt past d K) (hn : K.now + 4 * (n * m : Nat) ≤ 400000) :
    ∃ K', Runs n m v ce K ((List.range (n * m)).flatMap fun u => (if lo ≤ u ∧ u < lo + len then [.rep u nr (A u)] else []) ++ (if b then [.rep u nrP PA] else [])) K' ∧ (∃ pr', K'.X = { Z len with pr := pr' } ∧ PrL pr pr') ∧ K'.us = K.us ∧ K'.pool = K.pool ∧ K'.had = K.had ∧ Nt past d K' ∧ K'.now ≤ K.now + 4 * (n * m : Nat) ∧ K.now ≤ K'.now := by
  obtain ⟨K', r, ⟨pr', e1, e2⟩, e3, e4, e5, e6, e7, e8⟩ := runs_flat (n := n) (m := m) (v := v) (ce := ce) (n * m) (fun u => (if lo ≤ u ∧ u < lo + len then [.rep u nr (A u)] else []) ++ (if b then [.rep u nrP PA] else []))
    (fun u K1 => (∃ pr', K1.X = { Z (min (u - lo) len) with pr := pr' } ∧ PrL pr pr') ∧ K1.us = K.us ∧ K1.pool = K.pool ∧ K1.had = K.had ∧ Nt past d K1 ∧ K1.now ≤ K.now + 4 * (u : Nat) ∧ K.now ≤ K1.now) (by
      intro u hu K1 ⟨⟨pr', f1, f2⟩, f3, f4, f5, f6, f7, f8⟩
      -- the call's answer
      have s1 : ∃ K2, Runs n m v ce K1 (if lo ≤ u ∧ u < lo + len then [.rep u nr (A u)] else []) K2 ∧ K2.X = { Z (min (u + 1 - lo) len) with pr := pr' } ∧ K2.us = K.us ∧ K2.pool = K.pool ∧ K2.had = K.had ∧ Nt past d K2 ∧ K2.now ≤ K1.now + 2 ∧ K1.now ≤ K2.now := by
        by_cases hin : lo ≤ u ∧ u < lo + len
        · rw [if_pos hin]
          have hk : min (u - lo) len = u - lo := by omega
          have hk1 : min (u + 1 - lo) len = u - lo + 1 := by omega
          rw [hk] at f1
          obtain ⟨g1, g2, g3⟩ := hz (u - lo) (by omega) pr' f2
          rw [show lo + (u - lo) = u by omega, ← f1] at g1 g2
          have g4 : ResGo past.length K1.X.res (K1.X.recv n m u nr (A u)).res := by
            rw [g2, f1]; exact g3
          obtain ⟨k1, k2⟩ := hand_rep hu g1 (okA u hin.1 hin.2) f6 g4 (by omega)
          refine ⟨K1.hand n m v ce (.rep u nr (A u)), k1, ?_, f3, f4, f5, k2, ?_, ?_⟩
          · rw [hk1]; exact g2
          · simp only [KW.hand, KW.watch, KW.recv]; omega
          · simp only [KW.hand, KW.watch, KW.recv]; omega
        · rw [if_neg hin]
          have hk1 : min (u + 1 - lo) len = min (u - lo) len := by omega
          exact ⟨K1, .nil _, by rw [hk1]; exact f1, f3, f4, f5, f6, by omega, by omega⟩
      obtain ⟨K2, k1, k2, k3, k4, k5, k6, k7, k8⟩ := s1
      cases hb : b
      · exact ⟨K2, by simpa using k1, ⟨pr', k2, f2⟩, k3, k4, k5, k6, by omega, by omega⟩
      · obtain ⟨p1, p2, p3⟩ := hp (min (u + 1 - lo) len) (by omega)
        have hpr : pr'.nr = nrP := f2.nr.trans (hnrP hb)
        have hrec : ∃ pr'', K2.X.recv n m u nrP PA = { Z (min (u + 1 - lo) len) with pr := pr'' } ∧ PrL pr pr'' := by
          rw [k2]
          unfold CX.recv
          simp only
          by_cases haw : pr'.awaits nrP u = true
          · rw [if_pos haw]
            exact ⟨_, rfl, f2.nr, f2.nodes, f2.due⟩
          · rw [if_neg haw]
            refine ⟨pr', ?_, f2⟩
            cases hc : (Z (min (u + 1 - lo) len)).pend with
            | none => simp only
            | some c =>
              have := (p3 c hc).2
              have haq : c.q.awaits nrP (u : Int) = false := awaits_nr (by rw [← hnrP hb]; exact this)
              simp only [haq, if_neg, Bool.false_eq_true, not_false_eq_true]
        obtain ⟨pr'', h1, h2⟩ := hrec
        have hR : RecvOk n m v ce K2.X u nrP PA := by
          rw [k2]
          exact ⟨by simp only [f2.nodes]; exact hpn, fun c hc => (p3 c hc).1, hPA, p1, p2, fun c hc _ hq => by
            rw [awaits_nr (by rw [← hnrP hb]; exact (p3 c hc).2)] at hq
            simp at hq⟩
        have hG : ResGo past.length K2.X.res (K2.X.recv n m u nrP PA).res := by
          rw [h1, k2]; exact ResGo.refl _ _
        obtain ⟨j1, j2⟩ := hand_rep hu hR (okP hb) k6 hG (by omega)
        refine ⟨K2.hand n m v ce (.rep u nrP PA), by simpa using k1.append j1, ⟨pr'', h1, h2⟩, k3, k4, k5, j2, ?_, ?_⟩
        · simp only [KW.hand, KW.watch, KW.recv]; omega
        · simp only [KW.hand, KW.watch, KW.recv]; omega) (K := K) ⟨by simpa using hX, rfl, rfl, rfl, hNt, by omega, by omega⟩
  refine ⟨K', r, ⟨pr', ?_, e2⟩, e3, e4, e5, e6, e7, e8⟩
  rw [e1, show min (n * m - lo) len = len by omega]
end
end Go.Proofs.YtnhjmiglegdamaaGreat
