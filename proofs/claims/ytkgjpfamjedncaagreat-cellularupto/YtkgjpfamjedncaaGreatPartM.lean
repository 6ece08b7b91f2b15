-- A unit from the beginning of an image.
import Derived.Test.YtkgjpfamjedncaaGreatPartFCopiedAt
import Derived.Test.YtkgjpfamjedncaaGreatCellHFrAccByte4AgainC
import Derived.Deep.DeepCutAuto
namespace Go.Proofs.YtkgjpfamjedncaaGreat
open Go.RowKit Go.Maps
attribute [local go_sem ↓] Go.wp_at_zero Go.wp_at_succ

set_option maxRecDepth 100000 in
set_option maxHeartbeats 4000000 in
theorem part_any (bw j q : Nat) (m nn : Nat) (rs : List Rc) (S : Nat → St) (tag : Nat → Nat) (ka kb kc kd u ch : Int) (a b c q1 q2 q3 q4 : Int) (la : Option Addr) (ln lc : Nat) (ua : Option Addr) (un uc : Nat) (s : ByteArray) (t1 t2 t3 : Int) (va : Option Addr) (vn vc : Nat) (w : World)
    (hO : ObC w tag j q ka kb kc kd u ch rs S m nn) (hl : (flat rs).length ≤ 29000000) (hm : m ≤ 4000000) (haw : (Lit.int .i64 a).wf = true) (hbw : (Lit.int .i64 b).wf = true) (hc : -9223372036854775808 ≤ c ∧ c ≤ 9223372036854775807) :
    Calls Tryz.prog 13 #[.pointer (some ⟨bw, 0, none⟩), .agg (opR 13 a b c q1 q2 q3 q4 la ln lc ua un uc s t1 t2 t3 va vn vc), .pointer (some ⟨q, 0, none⟩)] w fun en w' => en = .returned (.bool true) ∧ Bl w w' := by
  obtain ⟨hcha, p, y, ⟨pv, sv, G, ks, e1, e2, e3, e4, e5, e6, e7, e8⟩, hKt, ⟨lv, ny, Fy, hy0, hCw, hy2⟩⟩ := hO
  have lq := (Array.getElem?_eq_some_iff.1 e1).1
  have cx : w.cell? ⟨q, 0, none⟩ = some (.pointer (some ⟨p, 0, none⟩)) := cell_of_row w q 0 _ 80 (0, 0) e1
  have cy : w.cell? ⟨q, 1, none⟩ = some (.pointer (some ⟨y, 0, none⟩)) := cell_of_row w q 1 _ 80 (0, 0) e1
  have c2 : w.cell? ⟨q, 2, none⟩ = some pv := cell_of_row w q 2 _ 80 (0, 0) e1
  have c3 : w.cell? ⟨q, 3, none⟩ = some sv := cell_of_row w q 3 _ 80 (0, 0) e1
  obtain ⟨y0, y1, y2, y3, y4, _⟩ := hCw.cells
  have ly := hCw.lt
  have bA := (Bl.refl w).alloc (.cells (opR 13 a b c q1 q2 q3 q4 la ln lc ua un uc s t1 t2 t3 va vn vc) 44)
  have HI := hid (kt_image (hKt.bl bA) (by omega))
  have hway := hid hKt.way
  have HbA := hid bA
  have hsv := hid e5
  have Hks := hid e7
  have Hpast := hid (And.intro e3 e8)
  have Hcha := hid hcha
  obtain ⟨sa, sc, esv⟩ := (ownsRow_sl e5).len
  rw [ownsRow_len e5] at esv
  have cyw := hid cy
  have Yw := hid (And.intro y0 (And.intro y1 (And.intro y2 (And.intro y3 y4))))
  have lqw := lq
  have lyw := ly
  clear e1 e2 e3 e4 e5 e6 e7 e8 hKt hCw hy2 hcha bA
  subst esv
  unfold opR at HI HbA ⊢
  go_enter Tryz.func13, Tryz.ntmps13
  go_wp2_with fail
  refine HI.out.mono ?_
  rintro en w2 ⟨av, rfl, hb2, hav⟩
  obtain ⟨ia, ic, rfl⟩ := owned_slice' hav
  have B2 := HbA.out.trans hb2
  obtain ⟨OP, o1, o2, o3, hOP⟩ : ∃ OP : Array Value, OP[1]? = some (.int .i64 a) ∧ OP[2]? = some (.int .i64 b) ∧ OP[3]? = some (.int .i64 c) ∧ w2.heap[w.heap.size]? = some (.cells OP 44 (0, 0)) := ⟨_, rfl, rfl, rfl, (hb2.heap (by simp)).trans (heap_alloc_new w _)⟩
  have l0 : w.heap.size < w2.heap.size := (Array.getElem?_eq_some_iff.1 hOP).1
  have u2 : w2.cell? ⟨w.heap.size, 2, none⟩ = some (.int .i64 b) := (cell_of_row _ _ 2 _ 44 (0, 0) hOP).trans o2
  have u3 : w2.cell? ⟨w.heap.size, 3, none⟩ = some (.int .i64 c) := (cell_of_row _ _ 3 _ 44 (0, 0) hOP).trans o3
  have HOP := hid hOP
  have d1 := (B2.cell lq).trans cy
  have d2 := (B2.cell lq).trans c2
  have d3 := (B2.cell lq).trans c3
  have Y := hid (And.intro ((B2.cell ly).trans y0) (And.intro ((B2.cell ly).trans y1) (And.intro ((B2.cell ly).trans y2) (And.intro ((B2.cell ly).trans y3) ((B2.cell ly).trans y4)))))
  have lq2 := Nat.lt_of_lt_of_le lq B2.lt
  have ly2 := Nat.lt_of_lt_of_le ly B2.lt
  have HPk := hid (pick_nat c ((flat rs).length + 1) w2 hc (by omega) (by omega))
  have hpk := pk_lt c ((flat rs).length + 1) (by omega)
  rw [show (((flat rs).length + 1 : Nat) : Int) = ((flat rs).length : Int) + 1 from by omega] at HPk hpk
  obtain ⟨nL, hnL⟩ : ∃ nL, nL = (pk c (((flat rs).length : Int) + 1)).toNat := ⟨_, rfl⟩
  rw [← hnL] at HPk hpk
  clear hnL
  have HLs := hid (last_any (.slice sa m sc) (szs rs ks m) nL w2 (by
    have h := (ownsRow_sl ((Only.of_bl (S := fun _ => False) B2).owns hsv.out fun _ _ e => e))
    unfold szs
    rw [List.map_map]
    exact h) (by rw [szs_len]; exact hm))
  rw [szs_len] at HLs
  have Hcut := hid ((cut_own hav).le (n := nL) (by omega))
  have HB2 := hid B2
  have Hav := hid hav
  clear HI hb2 hav B2 hOP cx cy c2 c3 HbA y0 y1 y2 y3 y4
  have hsl0 := slice_cut Hav.out (m := nL) (by omega)
  rw [← List.map_take] at hsl0
  have HC : Hid (∀ W, Bl w2 W → _) := fun W hW => conv_any _ ((flat rs).take nL) W (hsl0.bl hW)
  have htl : ((flat rs).take nL).length = nL := by rw [List.length_take]; omega
  have hby : Byt ((flat rs).take nL) := fun d hd => hway.out.byt d (List.mem_of_mem_take hd)
  have HLn : Hid (∀ W bb, _) := fun W bb => lent_any ((flat rs).take nL) bb W hby (by omega)
  have HBk : Hid (∀ (W : World) (base : Nat) (r : Value), LentB base W r ((flat rs).take nL) → _) := fun W base r hr => back_any base r ((flat rs).take nL) W hr (by omega)
  have Htl := hid htl
  clear hsl0 htl hby
  generalize hst : strOf ((flat rs).take nL) = st at HC HLn HBk
  clear hst
  generalize hL : (flat rs).length = L at *
  have HL := hid hL
  clear hL
  go_upto_region 3 with fail
  refine HPk.out.mono ?_
  rintro en w' ⟨rfl, rfl⟩
  go_upto_region 4 with fail
  refine HLs.out.mono ?_
  rintro en w'' ⟨rfl, rfl⟩
  clear HPk HLs
  obtain ⟨i, hi⟩ : ∃ i, i = lastTo (szs rs ks m) nL m := ⟨_, rfl⟩
  rw [← hi]
  have Hi := hid hi
  clear hi
  have hbc : Hid (nL ≤ ic ∧ (ic : Int) ≤ 9223372036854775807 ∧ (ic = 0 → nL = 0)) := ⟨Hcut.out.nc, by have := Hcut.out.c1; omega, fun h => by have := Hcut.out.nc; omega⟩
  go_upto_region 4 with fail
  go_cut [10] from 38 to 46 (fun r wx => ∃ ra rc, r = .slice ra nL rc ∧ Hid (Bl w'' wx) ∧ Hid (LentB w''.heap.size wx (.slice ra nL rc) ((flat rs).take nL)))
  case first =>
    have hlI : (nL : Int) ≤ ic := by have := hbc.out.1; omega
    have hic := hbc.out.2.1
    have K1 := HC.out w'' (Bl.refl w'')
    have K2 := HC.out w''.drew (Bl.refl w'').drew
    have K3 := fun n => HC.out (w''.drewN n) ((Bl.refl w'').drewN n)
    by_cases hc0 : ic = 0
    · have hz := hbc.out.2.2 hc0
      subst hc0 hz
      go_region_held (fun W => W.cell? ⟨w.heap.size, 2, none⟩ = some (.int .i64 b)) (go_keep)
        (first | (go_at_call 30; refine (HLn.out _ _).mono ?_; rintro en w3 ⟨r, rfl, hb3, hL3⟩; have hB3 : Bl w'' w3 := Bl.trans (by first | exact (Bl.refl _).drewN _ | exact (Bl.refl _).drew | exact Bl.refl _) hb3; obtain ⟨ra, rc, rfl⟩ := lent_slice hL3; rw [Htl.out] at hL3; have z2 := (hB3.cell l0).trans u2; have HB3 := hid hB3; have HL3 := hid hL3; clear hb3 hB3 hL3))
      all_goals (go_wp2_with fail; go_meet)
      all_goals exact ⟨ra, rc, by first | rfl | rw [Htl.out] | rw [← List.length_take, Htl.out], HB3.out, HL3.out⟩
    · go_region_held (fun W => W.cell? ⟨w.heap.size, 2, none⟩ = some (.int .i64 b)) (go_keep)
        (first | (go_at_call 30; refine (HLn.out _ _).mono ?_; rintro en w3 ⟨r, rfl, hb3, hL3⟩; have hB3 : Bl w'' w3 := Bl.trans (by first | exact (Bl.refl _).drewN _ | exact (Bl.refl _).drew | exact Bl.refl _) hb3; obtain ⟨ra, rc, rfl⟩ := lent_slice hL3; rw [Htl.out] at hL3; have z2 := (hB3.cell l0).trans u2; have HB3 := hid hB3; have HL3 := hid hL3; clear hb3 hB3 hL3))
      all_goals (go_wp2_with fail; go_meet)
      all_goals exact ⟨ra, rc, by first | rfl | rw [Htl.out] | rw [← List.length_take, Htl.out], HB3.out, HL3.out⟩
  case rest =>
    obtain ⟨ra, rc, rfl, HB3, HL3⟩ := hcut
    obtain ⟨W3, rfl⟩ : ∃ W3, W3 = wc := ⟨wc, rfl⟩
    have lB3 := HB3.out.lt
    have hown3 : W3.ownsRow w''.heap.size 5 1 (.slice ra nL rc) nL (((flat rs).take nL).map B8) := by
      have h := HL3.out.own
      rwa [Htl.out] at h
    obtain ⟨tagS, htS⟩ : ∃ tagS : Nat → Nat, tagS = fun g => if g < w.heap.size then 12 else if g = w.heap.size then 3 else 4 := ⟨_, rfl⟩
    have HtS := hid htS
    have HO' : Hid (∀ W, Bl W3 W → _) := fun W hW => kt_open hway.out u Hcha.out ra nL rc (by rw [HL.out]; omega) (cut_take (by rw [HL.out]; omega) ((Only.of_bl (S := fun _ => False) hW).owns hown3 fun _ _ e => e)) tagS 10
    have z1 := (HB3.out.cell lq2).trans d1
    have lq3 := Nat.lt_of_lt_of_le lq2 lB3
    have ly3 := Nat.lt_of_lt_of_le ly2 lB3
    obtain ⟨y0', y1', y2', y3', y4'⟩ := Y.out
    have y0 := (HB3.out.cell ly2).trans y0'
    have y1 := (HB3.out.cell ly2).trans y1'
    have y2 := (HB3.out.cell ly2).trans y2'
    have y3 := (HB3.out.cell ly2).trans y3'
    have y4 := (HB3.out.cell ly2).trans y4'
    clear hown3 htS y0' y1' y2' y3' y4' u2 u3 HLn
    go_upto_region 5 with fail
    go_cut [11, 12] from 47 to 65 (fun x e wx => ∃ px k, x = .pointer (some ⟨px, 0, none⟩) ∧ e = .int .i64 0 ∧ Hid (k ≤ rs.length ∧ off rs k ≤ nL ∧ ∀ h : k < rs.length, nL < off rs k + rs[k].bytes.length) ∧ Hid (W3.heap.size ≤ px ∧ Bl W3 wx) ∧ Hid (Kt wx (tagTo tagS W3.heap.size 10) 10 px ka kb kc kd ch (rs.take k) S))
    case first =>
      go_region_held3 (fun W => W.cell? ⟨q, 1, none⟩ = some (.pointer (some ⟨y, 0, none⟩)) ∧ W.cell? ⟨y, 0, none⟩ = some (.int .i64 ka) ∧ W.cell? ⟨y, 1, none⟩ = some (.int .i64 kb) ∧ W.cell? ⟨y, 2, none⟩ = some (.int .i64 kc) ∧ W.cell? ⟨y, 3, none⟩ = some (.int .i64 kd) ∧ W.cell? ⟨y, 4, none⟩ = some (.int .i64 u)) (go_keep)
        (first | (go_at_call 29; refine (HO'.out _ ?hb).mono ?_; (case hb => first | exact (Bl.refl _).drewN _ | exact (Bl.refl _).drew | exact Bl.refl _); rintro en w4 ⟨k, px, rfl, hk1, hk2, hk3, hp', hb4, hv4⟩; have hbb : Bl W3 w4 := Bl.trans (by first | exact (Bl.refl _).drewN _ | exact (Bl.refl _).drew | exact Bl.refl _) hb4; have z1 := (hbb.cell lq3).trans z1; have x0 := (hbb.cell ly3).trans y0; have x1 := (hbb.cell ly3).trans y1; have x2 := (hbb.cell ly3).trans y2; have x3 := (hbb.cell ly3).trans y3; have x4 := (hbb.cell ly3).trans y4; have HK := hid (And.intro hk1 (And.intro hk2 hk3)); have HX := hid (And.intro hp' (And.intro hbb hv4)); clear hk1 hk2 hk3 hbb hv4 hb4 hp'))
      all_goals (go_wp2_with fail; go_meet)
      all_goals exact ⟨px, k, rfl, rfl, HK.out, ⟨HX.out.1, HX.out.2.1⟩, HX.out.2.2⟩
    case rest =>
      obtain ⟨px, k, rfl, rfl, HK, HBx, HVx⟩ := hcut
      obtain ⟨W4, rfl⟩ : ∃ W4, W4 = wc := ⟨wc, rfl⟩
      have B4 := hid (HB3.out.trans HBx.out.2)
      have HBk4 := hid (HBk.out W4 w''.heap.size (.slice ra nL rc) (HL3.out.bl HBx.out.2))
      clear HO' z1 y0 y1 y2 y3 y4
      go_upto_region 6 with fail
      go_cut [13] from 66 to 71 (fun r wx => r = .bool true ∧ Hid (Only (fun g => (Value.slice ra nL rc).ownBlock = some g) W4 wx))
      case first =>
        have hlI : (nL : Int) ≤ ic := by have := hbc.out.1; omega
        have hic := hbc.out.2.1
        have K1 := HC.out W4 B4.out
        by_cases hc0 : ic = 0
        · have hz := hbc.out.2.2 hc0
          subst hc0 hz
          go_wp2_with fail
          refine HBk4.out.mono ?_
          rintro en w5 ⟨rfl, O5⟩
          have HO5 := hid O5
          clear O5
          go_wp2_with fail
          go_meet
          exact ⟨rfl, HO5.out⟩
        · go_wp2_with fail
          refine HBk4.out.mono ?_
          rintro en w5 ⟨rfl, O5⟩
          have HO5 := hid O5
          clear O5
          go_wp2_with fail
          go_meet
          exact ⟨rfl, HO5.out⟩
      case rest =>
        obtain ⟨rfl, HO5⟩ := hcut
        obtain ⟨W5, rfl⟩ : ∃ W5, W5 = wc := ⟨wc, rfl⟩
        have hlt3 := HL3.out.lt
        have B5 : Bl w'' W5 := B4.out.trans_only HO5.out (fun n e => (hlt3 n e).1)
        have hKt5 : Kt W5 (tagTo tagS W3.heap.size 10) 10 px ka kb kc kd ch (rs.take k) S := HVx.out.only HO5.out (fun g _ e => by
          rw [tagTo_old _ _ _ _ (hlt3 g e).2, HtS.out]
          have := (hlt3 g e).1
          dsimp only
          rw [if_neg (by omega), if_neg (by omega)]
          decide) (fun _ _ => rfl)
        have l4 := HBx.out.2.lt
        have l5 := HO5.out.size
        obtain ⟨hi1, hi2⟩ := Hks.out.picks k nL HK.out.1 HK.out.2.1 HK.out.2.2
        rw [← Hi.out] at hi1 hi2
        obtain ⟨hpv, hpast⟩ := Hpast.out
        obtain ⟨hG1, hG2, hP⟩ := hpast i hi1
        rw [hi2] at hG1 hG2 hP
        obtain ⟨n', F, hn', hrow, hMt, _, hval⟩ := hP
        obtain ⟨gp, pc, hpe⟩ : ∃ gp pc, pv = .slice (some ⟨gp, 0, none⟩) m pc := by
          rcases hpv.2 with ⟨e, e'⟩ | ⟨g, cap, cur, e, _⟩
          · omega
          · exact ⟨g, cap, e⟩
        subst hpe
        have Bw := HB2.out.trans B5
        have hpv5 := (Only.of_bl (S := fun _ => False) Bw).owns hpv fun _ _ e => e
        have lgp : gp < W5.heap.size := (hpv5.lt gp rfl).2
        have hrc : ∀ r, r < 8 → W5.cell? ⟨gp, i * 8 + r, none⟩ = ([Value.int .i64 ka, .int .i64 kb, .int .i64 kc, .int .i64 kd, .int .i64 u, .int .i64 (S k).ep, .int .i64 (S k).mark, (G i).2.2] : List Value)[r]? := fun r hr => by
          rw [hpv5.cellAt (i * 8 + r) (by omega), rowC_get ka kb kc kd u G r hr m i hi1, hG1, hG2]
        have hrow5 := (Only.of_bl (S := fun _ => False) Bw).owns hrow fun _ _ e => e
        have HCp := hid (refCopiedAt_any gp (i * 8) ka kb kc kd u (S k).ep (S k).mark (G i).2.2 n' F W5 lgp (hrc 0 (by decide)) (hrc 1 (by decide)) (hrc 2 (by decide)) (hrc 3 (by decide)) (hrc 4 (by decide)) (hrc 5 (by decide)) (hrc 6 (by decide)) (hrc 7 (by decide)) hrow5 (row5_one fun i hi => (hval i hi).1) (by omega))
        have e2' := (B5.cell lq2).trans d2
        have e3' := (B5.cell lq2).trans d3
        have lq5 := Nat.lt_of_lt_of_le lq2 B5.lt
        have hi1I : (i : Int) < m := by omega
        have hmI : (m : Int) ≤ 9223372036854775807 := by omega
        have HBw := hid Bw
        have HB5 := hid B5
        have HKt5 := hid hKt5
        have Hval := hid hval
        have HMt := hid hMt
        have Hi2 := hid hi2
        clear Bw B5 hKt5 hval hMt hrc hrow hrow5 hpv hpast hG1 hG2 hpv5 hlt3 HVx hi2 HBk4 HBk
        go_upto_region 10 with fail
        refine HCp.out.mono ?_
        rintro en W6 ⟨ca, cc, rfl, hb6, hr6⟩
        have b7 := hb6.alloc (.cells #[.int .i64 ka, .int .i64 kb, .int .i64 kc, .int .i64 kd, .int .i64 u, .int .i64 (S k).ep, .int .i64 (S k).mark, .slice ca n' cc] 77)
        have bX := (Bl.refl W6).alloc (.cells #[.int .i64 ka, .int .i64 kb, .int .i64 kc, .int .i64 kd, .int .i64 u, .int .i64 (S k).ep, .int .i64 (S k).mark, .slice ca n' cc] 77)
        have hY := heap_alloc_new W6 (.cells #[.int .i64 ka, .int .i64 kb, .int .i64 kc, .int .i64 kd, .int .i64 u, .int .i64 (S k).ep, .int .i64 (S k).mark, .slice ca n' cc] 77)
        have hr7 := (Only.of_bl (S := fun _ => False) bX).owns hr6 fun _ _ e => e
        have l6 := hb6.lt
        go_upto_region 10 with fail
        generalize W6.alloc (.cells #[.int .i64 ka, .int .i64 kb, .int .i64 kc, .int .i64 kd, .int .i64 u, .int .i64 (S k).ep, .int .i64 (S k).mark, .slice ca n' cc] 77) = W7 at b7 bX hY hr7 ⊢
        have hgy : W5.heap.size ≤ W6.heap.size := l6
        generalize W6.heap.size = gy at hY hgy ⊢
        have hk : (rs.take k).length = k := by rw [List.length_take]; have := HK.out.1; omega
        have hBw7 := HBw.out.trans b7
        obtain ⟨tag7, ht7⟩ : ∃ tag7, tag7 = tagTo (tagTo tagS W3.heap.size 10) W5.heap.size 11 := ⟨_, rfl⟩
        have HH : Hid (Pf w W7 tag7 px gy ka kb kc kd u ch (rs.take k) S (S (rs.take k).length) n' [(w.heap.size, OP, 44)]) := by
          have lw := HB2.out.lt
          refine ⟨hBw7, fun g hg => ?_, HKt5.out.only (Only.of_bl (S := fun _ => False) b7) (fun _ _ e => e.elim) (fun g hg => ?_), ⟨_, n', F, Nat.le_refl _, ⟨by rw [hk]; exact hY, ownsRow_base hr7 fun _ _ => Nat.zero_le _, fun i hi => (Only.of_bl (S := fun _ => False) hBw7).owns (Hval.out i hi).1 fun _ _ e => e⟩, by rw [hk]; exact HMt.out, ?_, fun g hg => ?_, fun i hi g hg => ?_⟩, fun x hx => ?_⟩
          · rw [ht7, tagTo_old _ _ _ _ (by omega), tagTo_old _ _ _ _ (by omega), HtS.out]
            dsimp only
            rw [if_pos hg]
          · rw [ht7, tagTo_old _ _ _ _ hg]
          · rw [ht7, tagTo_new _ _ _ _ hgy]
          · rw [ht7, tagTo_new _ _ _ _ (hr7.lt g hg).1]
          · have hlt := ((Hval.out i hi).1.lt g hg).2
            rw [ht7, tagTo_old _ _ _ _ (by omega), tagTo_old _ _ _ _ (by omega), HtS.out]
            dsimp only
            rw [if_pos hlt]
          · simp at hx
            rw [hx]
            refine ⟨((HB5.out.trans b7).heap l0).trans HOP.out, ?_⟩
            rw [ht7, HtS.out]
            dsimp only
            rw [tagTo_old _ _ _ _ (by omega), tagTo_old _ _ _ _ (by omega), if_neg (by omega), if_pos rfl]
        have HI7 : Hid (∀ W, Bl W7 W → _) := fun W hW => kt_image (HH.out.kt.bl hW) (by have := off_mono rs k rs.length HK.out.1 (Nat.le_refl _); rw [off_all, HL.out] at this; unfold off at this; omega)
        have hsv0 := hsv.out
        obtain ⟨gs, rfl⟩ : ∃ gs, sa = some ⟨gs, 0, none⟩ := by
          rcases hsv0.2 with ⟨e, e'⟩ | ⟨g, cap, cur, e, _⟩
          · simp only [Value.slice.injEq] at e; omega
          · simp only [Value.slice.injEq] at e; exact ⟨g, e.1⟩
        have hsc := (Only.of_bl (S := fun _ => False) hBw7).owns hsv0 fun _ _ e => e
        have si : W7.cell? ⟨gs, i, none⟩ = some (.int .i64 (off rs k : Nat)) := by
          have h := hsc.cellAt i (by omega)
          simp [hi1, Hi2.out] at h
          exact h
        have lgs : gs < W7.heap.size := (hsc.lt gs rfl).2
        have d3c := (b7.cell lq5).trans e3'
        have lqc := Nat.lt_of_lt_of_le lq5 b7.lt
        have hat := (Only.of_bl (S := fun _ => False) (HB5.out.trans b7)).owns Hav.out fun _ _ e => e
        have hoff : off rs k ≤ nL := HK.out.2.1
        have hofI : ((off rs k : Nat) : Int) ≤ ic := by have := hbc.out.1; omega
        have hicI := hbc.out.2.1
        have hsl := slice_cut hat (m := off rs k) (by omega)
        rw [← List.map_take, ← off_flat] at hsl
        have HC2 : Hid (∀ W, Bl W7 W → _) := fun W hW => conv_any _ (flat (rs.take k)) W (hsl.bl hW)
        have hz : Hid (ic = 0 → off rs k = 0) := fun h => by have := hbc.out.1; omega
        have hl0 : (flat (rs.take k)).length ≤ L + 0 := by
          have h1 := off_mono rs k rs.length HK.out.1 (Nat.le_refl _)
          rw [off_all, HL.out] at h1; exact h1
        clear hsv0 hsc hat hsl hoff b7 bX hY hr7 hb6 hr6 ht7 hBw7 HCp e2' e3' HKt5 Hval HMt hgy HC
        generalize hst : strOf (flat (rs.take k)) = st2 at HC2
        generalize off rs k = ok at si hofI HC2 hz
        have Hst := hid hst
        clear hst
        go_upto_region 10 with fail
        go_cut [102] from 89 to 102 (fun r wx => r = .bool false ∧ Hid (Bl W7 wx))
        case first =>
          have K1 := HC2.out W7 (Bl.refl W7)
          have K2 := HC2.out W7.drew (Bl.refl W7).drew
          by_cases hc0 : ic = 0
          · have hz0 := hz.out hc0
            subst hc0 hz0
            go_region_held (fun W => W.cell? ⟨q, 3, none⟩ = some (.slice (some ⟨gs, 0, none⟩) m sc) ∧ W.cell? ⟨gs, i, none⟩ = some (.int .i64 (0 : Nat))) (go_keep)
              (first | (go_at_call 35; refine Calls.mono (HI7.out _ (by first | exact (Bl.refl _).drewN _ | exact (Bl.refl _).drew | exact Bl.refl _)) ?_; rintro en w4 ⟨iv, rfl, hb4, hiv⟩; obtain ⟨xa, xc, rfl⟩ := owned_slice' hiv; have kc4 := conv_any _ (flat (rs.take k)) w4 (ownsRow_sl hiv); rw [Hst.out] at kc4; have kd4 := HC2.out w4 (by first | exact ((Bl.refl _).drewN _).trans hb4 | exact ((Bl.refl _).drew).trans hb4 | exact hb4); have e3 := (hb4.cell lqc).trans d3c; have e4 := (hb4.cell lgs).trans si; have HB4 := hid hb4; clear hb4 hiv))
            all_goals (go_wp2_with fail; go_meet)
            all_goals exact ⟨rfl, by first | exact ((Bl.refl _).drewN _).trans HB4.out | exact ((Bl.refl _).drew).trans HB4.out | exact HB4.out⟩
          · go_region_held (fun W => W.cell? ⟨q, 3, none⟩ = some (.slice (some ⟨gs, 0, none⟩) m sc) ∧ W.cell? ⟨gs, i, none⟩ = some (.int .i64 (ok : Nat))) (go_keep)
              (first | (go_at_call 35; refine Calls.mono (HI7.out _ (by first | exact (Bl.refl _).drewN _ | exact (Bl.refl _).drew | exact Bl.refl _)) ?_; rintro en w4 ⟨iv, rfl, hb4, hiv⟩; obtain ⟨xa, xc, rfl⟩ := owned_slice' hiv; have kc4 := conv_any _ (flat (rs.take k)) w4 (ownsRow_sl hiv); rw [Hst.out] at kc4; have kd4 := HC2.out w4 (by first | exact ((Bl.refl _).drewN _).trans hb4 | exact ((Bl.refl _).drew).trans hb4 | exact hb4); have e3 := (hb4.cell lqc).trans d3c; have e4 := (hb4.cell lgs).trans si; have HB4 := hid hb4; clear hb4 hiv))
            all_goals (go_wp2_with fail; go_meet)
            all_goals exact ⟨rfl, by first | exact ((Bl.refl _).drewN _).trans HB4.out | exact ((Bl.refl _).drew).trans HB4.out | exact HB4.out⟩
        case rest =>
        obtain ⟨rfl, HB8⟩ := hcut
        have HH0 := hid (HH.out.bl' HB8.out 4)
        generalize tagTo tag7 W7.heap.size 4 = tag0 at HH0
        clear HH HB8 HC2 HI7 si d3c hofI hz hicI
        obtain ⟨R1, hR⟩ : ∃ R, R = readA ka kb kc kd ch (S (rs.take k).length) b a := ⟨_, rfl⟩
        have HK := hid (pf_k (R := R1) HH0.out (by rw [hR]; exact kc_read HH0.out.kt b a hbw (by omega)))
        have HD : Hid (∀ (W : World) (tagW : Nat → Nat), Dt W tagW 11 12 gy ka kb kc kd u (S (rs.take k).length) (n') → DCallN 41 #[.pointer (some ⟨gy, 0, none⟩), .int .i64 b, .int .i64 a] W tagW 11 12 gy ka kb kc kd u (n') R1) := fun W tagW hW => by rw [hR]; exact dn_read hW Hcha.out (by omega) (by decide) b a
        have u1 := (HH0.out.bo.cell (.head _) 1).trans o1
        have u2 := (HH0.out.bo.cell (.head _) 2).trans o2
        have lOP := HH0.out.bo.lt (.head _)
        clear hR
        go_wp2_with fail
        refine HK.out.mono ?_
        rintro en wA ⟨xa1, xc1, rs1, S1, tagA, rfl, hoA, htA, hEA, hsA, _, _, hHA⟩
        have lA := hHA.bo.lt (.head _)
        have hHA2 := hHA.newBox #[.int .i64 R1.1.wh, .int .i64 R1.1.ep, .int .i64 R1.1.mark, .int .i64 R1.1.ct.kd, .int .i64 R1.1.ct.cl, .int .i64 R1.1.ct.ca, .slice xa1 R1.1.ct.val.length xc1] 98
        have bX := (Bl.refl wA).alloc (.cells #[.int .i64 R1.1.wh, .int .i64 R1.1.ep, .int .i64 R1.1.mark, .int .i64 R1.1.ct.kd, .int .i64 R1.1.ct.cl, .int .i64 R1.1.ct.ca, .slice xa1 R1.1.ct.val.length xc1] 98)
        have hoA2 := (Only.of_bl (S := fun _ => False) bX).owns hoA fun _ _ e => e
        have htA2 : ∀ g, (Value.slice xa1 R1.1.ct.val.length xc1).ownBlock = some g → tagTo tagA wA.heap.size 3 g = 1 := fun g hg => by rw [tagTo_old _ _ _ _ (hoA.lt g hg).2]; exact htA g hg
        simp only [List.cons_append, List.nil_append] at hHA2
        have HHA := hid hHA2
        have HoA := hid hoA2
        have HtA := hid htA2
        have HEA := hid (And.intro hEA hsA)
        clear HK hHA hHA2 bX hoA hoA2 htA htA2 hEA hsA u1 u2 lOP
        unfold An.val reply
        go_upto_region 13 with fail
        generalize wA.alloc (.cells #[.int .i64 R1.1.wh, .int .i64 R1.1.ep, .int .i64 R1.1.mark, .int .i64 R1.1.ct.kd, .int .i64 R1.1.ct.cl, .int .i64 R1.1.ct.ca, .slice xa1 R1.1.ct.val.length xc1] 98) = WA at HHA HoA ⊢
        generalize tagTo tagA wA.heap.size 3 = tagB at HHA HtA
        have lg15 : w.heap.size < wA.heap.size := lA
        generalize wA.heap.size = g15 at HHA lg15 ⊢
        clear lA
        have HP := hid (pf_d HHA.out (HD.out _ _ HHA.out.dt))
        have u1 := (HHA.out.bo.cell (.head _) 1).trans o1
        have u2 := (HHA.out.bo.cell (.head _) 2).trans o2
        have lOP := HHA.out.bo.lt (.head _)
        have l15 := HHA.out.bo.lt (.tail _ (.head _))
        clear HD HHA
        go_wp2_with fail
        refine HP.out.mono ?_
        rintro en wC ⟨ya1, yc1, tagC, rfl, hoC, htC, OC, hHC⟩
        have hxC := OC.owns HoA.out fun g hg e => by have h1 : tagB g = 1 := HtA.out g hg; have h2 : tagB g = 11 := e; omega
        rw [← HEA.out.1] at hHC
        have lC := hHC.bo.lt (.tail _ (.head _))
        have hHC2 := hHC.newBox #[.int .i64 R1.1.wh, .int .i64 R1.1.ep, .int .i64 R1.1.mark, .int .i64 R1.1.ct.kd, .int .i64 R1.1.ct.cl, .int .i64 R1.1.ct.ca, .slice ya1 R1.1.ct.val.length yc1] 98
        have bX := (Bl.refl wC).alloc (.cells #[.int .i64 R1.1.wh, .int .i64 R1.1.ep, .int .i64 R1.1.mark, .int .i64 R1.1.ct.kd, .int .i64 R1.1.ct.cl, .int .i64 R1.1.ct.ca, .slice ya1 R1.1.ct.val.length yc1] 98)
        have hs1 := (Only.of_bl (S := fun _ => False) bX).owns hxC fun _ _ e => e
        have hs2 := (Only.of_bl (S := fun _ => False) bX).owns hoC fun _ _ e => e
        simp only [List.cons_append, List.nil_append] at hHC2
        have HHC := hid hHC2
        have Hs1 := hid hs1
        have Hs2 := hid hs2
        clear HP hHC hHC2 bX hoC htC OC hxC hs1 hs2 u1 u2 lOP HoA HtA l15
        unfold An.val reply
        go_upto_region 14 with fail
        generalize wC.alloc (.cells #[.int .i64 R1.1.wh, .int .i64 R1.1.ep, .int .i64 R1.1.mark, .int .i64 R1.1.ct.kd, .int .i64 R1.1.ct.cl, .int .i64 R1.1.ct.ca, .slice ya1 R1.1.ct.val.length yc1] 98) = WC at HHC Hs1 Hs2 ⊢
        generalize tagTo tagC wC.heap.size 3 = tagD at HHC
        have lg16 : g15 < wC.heap.size := lC
        generalize wC.heap.size = g16 at HHC lg16 ⊢
        clear lC
        obtain ⟨⟨n0, n1, n2, n3, n4, n5, n6⟩, _, lN⟩ := HHC.out.bo.row7 (.tail _ (.head _))
        obtain ⟨⟨m0, m1, m2, m3, m4, m5, m6⟩, _, lM⟩ := HHC.out.bo.row7 (.tail _ (.tail _ (.head _)))
        have HSame := hid (sameReply_any R1.1.wh R1.1.ep R1.1.mark R1.1.ct.kd R1.1.ct.cl R1.1.ct.ca (.slice xa1 R1.1.ct.val.length xc1) (.slice ya1 R1.1.ct.val.length yc1) R1.1.ct.val WC (ownsRow_sl Hs1.out) (ownsRow_sl Hs2.out))
        unfold reply at HSame
        have hl1 : (flat rs1).length ≤ L + 60 := by have := HEA.out.2; omega
        clear HEA Hs1 Hs2
        go_wp2_with fail
        refine HSame.out.mono ?_
        rintro en wI ⟨rfl, hbI⟩
        have HH1 := hid (HHC.out.bl' hbI 4)
        generalize tagTo tagD WC.heap.size 4 = tag1 at HH1
        clear HSame hbI HHC n0 n1 n2 n3 n4 n5 n6 lN m0 m1 m2 m3 m4 m5 m6 lM HH0
        obtain ⟨R2, hR⟩ : ∃ R, R = writeA ka kb kc kd ch (S1 rs1.length) b a 9 3 0 [] := ⟨_, rfl⟩
        have HK := hid (pf_k (R := R2) HH1.out (by rw [hR]; exact kc_write HH1.out.kt b a 9 3 0 none 0 [] hbw haw (by decide) (by decide) (by decide) (by omega) (.inl ⟨rfl, rfl⟩) (fun g e => by simp [Value.ownBlock] at e) (fun d hd => by simp at hd) (by simp)))
        have HD : Hid (∀ (W : World) (tagW : Nat → Nat), Dt W tagW 11 12 gy ka kb kc kd u (S1 rs1.length) (n') → DCallN 44 #[.pointer (some ⟨gy, 0, none⟩), .int .i64 b, .int .i64 a, .agg #[.int .i64 9, .int .i64 3, .int .i64 0, .slice none 0 0]] W tagW 11 12 gy ka kb kc kd u (n' + 1) R2) := fun W tagW hW => by rw [hR]; exact (dc_write hW Hcha.out (by omega) (by decide) b a 9 3 0 none 0 [] (.inl ⟨rfl, rfl⟩) (fun g e => by simp [Value.ownBlock] at e) (by simp)).n
        have u1 := (HH1.out.bo.cell (.head _) 1).trans o1
        have u2 := (HH1.out.bo.cell (.head _) 2).trans o2
        have lOP := HH1.out.bo.lt (.head _)
        clear hR
        go_wp2_with fail
        refine HK.out.mono ?_
        rintro en wA ⟨xa2, xc2, rs2, S2, tagA, rfl, hoA, htA, hEA, hsA, _, _, hHA⟩
        obtain ⟨⟨n0, n1, n2, n3, n4, n5, n6⟩, ⟨f0, f1, f2, f3, f4, f5, f6⟩, lN⟩ := hHA.bo.row7 (.tail _ (.head _))
        have hgA : wA.heap[g15]? = some (.cells #[.int .i64 R1.1.wh, .int .i64 R1.1.ep, .int .i64 R1.1.mark, .int .i64 R1.1.ct.kd, .int .i64 R1.1.ct.cl, .int .i64 R1.1.ct.ca, .slice xa1 R1.1.ct.val.length xc1] 98 (0, 0)) := (hHA.bo _ (.tail _ (.head _))).1
        have hHA2 := hHA.set7 (b1 := [(w.heap.size, OP, 44)]) (b2 := [(g16, #[.int .i64 R1.1.wh, .int .i64 R1.1.ep, .int .i64 R1.1.mark, .int .i64 R1.1.ct.kd, .int .i64 R1.1.ct.cl, .int .i64 R1.1.ct.ca, .slice ya1 R1.1.ct.val.length yc1], 98)]) (by intro x hx; simp at hx; rcases hx with rfl | rfl <;> (dsimp only; omega)) (.int .i64 R2.1.wh) (.int .i64 R2.1.ep) (.int .i64 R2.1.mark) (.int .i64 R2.1.ct.kd) (.int .i64 R2.1.ct.cl) (.int .i64 R2.1.ct.ca) (.slice xa2 R2.1.ct.val.length xc2)
        have hoA2 := (Only.set7 (w := wA) (S := fun g => g = g15) (g := g15) rfl (.int .i64 R2.1.wh) (.int .i64 R2.1.ep) (.int .i64 R2.1.mark) (.int .i64 R2.1.ct.kd) (.int .i64 R2.1.ct.cl) (.int .i64 R2.1.ct.ca) (.slice xa2 R2.1.ct.val.length xc2)).owns hoA fun g hg e => own_ne_block hoA hgA (by decide) (by rw [hg, e])
        simp only [List.cons_append, List.nil_append] at hHA2
        have HHA := hid hHA2
        have HoA := hid hoA2
        have HtA := hid htA
        have HEA := hid (And.intro hEA hsA)
        clear HK hHA hHA2 hgA hoA hoA2 htA hEA hsA u1 u2 lOP
        unfold An.val reply
        go_upto_region 16 with fail
        generalize (((((((wA.setCell ⟨g15, 0, none⟩ (.int .i64 R2.1.wh)).setCell ⟨g15, 1, none⟩ (.int .i64 R2.1.ep)).setCell ⟨g15, 2, none⟩ (.int .i64 R2.1.mark)).setCell ⟨g15, 3, none⟩ (.int .i64 R2.1.ct.kd)).setCell ⟨g15, 4, none⟩ (.int .i64 R2.1.ct.cl)).setCell ⟨g15, 5, none⟩ (.int .i64 R2.1.ct.ca)).setCell ⟨g15, 6, none⟩ (.slice xa2 R2.1.ct.val.length xc2)) = WA at HHA HoA ⊢
        generalize tagA = tagB at HHA HtA
        clear n0 n1 n2 n3 n4 n5 n6 f0 f1 f2 f3 f4 f5 f6 lN
        have HP := hid (pf_d HHA.out (HD.out _ _ HHA.out.dt))
        have u1 := (HHA.out.bo.cell (.head _) 1).trans o1
        have u2 := (HHA.out.bo.cell (.head _) 2).trans o2
        have lOP := HHA.out.bo.lt (.head _)
        clear HD HHA
        go_wp2_with fail
        refine HP.out.mono ?_
        rintro en wC ⟨ya2, yc2, tagC, rfl, hoC, htC, OC, hHC⟩
        have hxC := OC.owns HoA.out fun g hg e => by have h1 : tagB g = 1 := HtA.out g hg; have h2 : tagB g = 11 := e; omega
        rw [← HEA.out.1] at hHC
        obtain ⟨⟨n0, n1, n2, n3, n4, n5, n6⟩, ⟨f0, f1, f2, f3, f4, f5, f6⟩, lN⟩ := hHC.bo.row7 (.tail _ (.tail _ (.head _)))
        have hgC : wC.heap[g16]? = some (.cells #[.int .i64 R1.1.wh, .int .i64 R1.1.ep, .int .i64 R1.1.mark, .int .i64 R1.1.ct.kd, .int .i64 R1.1.ct.cl, .int .i64 R1.1.ct.ca, .slice ya1 R1.1.ct.val.length yc1] 98 (0, 0)) := (hHC.bo _ (.tail _ (.tail _ (.head _)))).1
        have hHC2 := hHC.set7 (b1 := [(w.heap.size, OP, 44), (g15, #[.int .i64 R2.1.wh, .int .i64 R2.1.ep, .int .i64 R2.1.mark, .int .i64 R2.1.ct.kd, .int .i64 R2.1.ct.cl, .int .i64 R2.1.ct.ca, .slice xa2 R2.1.ct.val.length xc2], 98)]) (b2 := []) (by intro x hx; simp at hx; rcases hx with rfl | rfl <;> (dsimp only; omega)) (.int .i64 R2.1.wh) (.int .i64 R2.1.ep) (.int .i64 R2.1.mark) (.int .i64 R2.1.ct.kd) (.int .i64 R2.1.ct.cl) (.int .i64 R2.1.ct.ca) (.slice ya2 R2.1.ct.val.length yc2)
        have O7 := Only.set7 (w := wC) (S := fun g => g = g16) (g := g16) rfl (.int .i64 R2.1.wh) (.int .i64 R2.1.ep) (.int .i64 R2.1.mark) (.int .i64 R2.1.ct.kd) (.int .i64 R2.1.ct.cl) (.int .i64 R2.1.ct.ca) (.slice ya2 R2.1.ct.val.length yc2)
        have hs1 := O7.owns hxC fun g hg e => own_ne_block hxC hgC (by decide) (by rw [hg, e])
        have hs2 := O7.owns hoC fun g hg e => own_ne_block hoC hgC (by decide) (by rw [hg, e])
        simp only [List.cons_append, List.nil_append] at hHC2
        have HHC := hid hHC2
        have Hs1 := hid hs1
        have Hs2 := hid hs2
        clear HP hHC hHC2 hgC O7 hoC htC OC hxC hs1 hs2 u1 u2 lOP HoA HtA
        unfold An.val reply
        go_upto_region 17 with fail
        generalize (((((((wC.setCell ⟨g16, 0, none⟩ (.int .i64 R2.1.wh)).setCell ⟨g16, 1, none⟩ (.int .i64 R2.1.ep)).setCell ⟨g16, 2, none⟩ (.int .i64 R2.1.mark)).setCell ⟨g16, 3, none⟩ (.int .i64 R2.1.ct.kd)).setCell ⟨g16, 4, none⟩ (.int .i64 R2.1.ct.cl)).setCell ⟨g16, 5, none⟩ (.int .i64 R2.1.ct.ca)).setCell ⟨g16, 6, none⟩ (.slice ya2 R2.1.ct.val.length yc2)) = WC at HHC Hs1 Hs2 ⊢
        generalize tagC = tagD at HHC
        clear n0 n1 n2 n3 n4 n5 n6 f0 f1 f2 f3 f4 f5 f6 lN
        obtain ⟨⟨n0, n1, n2, n3, n4, n5, n6⟩, _, lN⟩ := HHC.out.bo.row7 (.tail _ (.head _))
        obtain ⟨⟨m0, m1, m2, m3, m4, m5, m6⟩, _, lM⟩ := HHC.out.bo.row7 (.tail _ (.tail _ (.head _)))
        have HSame := hid (sameReply_any R2.1.wh R2.1.ep R2.1.mark R2.1.ct.kd R2.1.ct.cl R2.1.ct.ca (.slice xa2 R2.1.ct.val.length xc2) (.slice ya2 R2.1.ct.val.length yc2) R2.1.ct.val WC (ownsRow_sl Hs1.out) (ownsRow_sl Hs2.out))
        unfold reply at HSame
        have hl2 : (flat rs2).length ≤ L + 120 := by have := HEA.out.2; omega
        clear HEA Hs1 Hs2
        go_wp2_with fail
        refine HSame.out.mono ?_
        rintro en wI ⟨rfl, hbI⟩
        have HH2 := hid (HHC.out.bl' hbI 4)
        generalize tagTo tagD WC.heap.size 4 = tag2 at HH2
        clear HSame hbI HHC n0 n1 n2 n3 n4 n5 n6 lN m0 m1 m2 m3 m4 m5 m6 lM HH1
        have HImg : Hid (∀ W, Bl wI W → Calls Tryz.prog 35 #[.pointer (some ⟨px, 0, none⟩)] W fun en w' => ∃ ia ic tag', en = .returned (.slice ia (flat rs2).length ic) ∧ Cut w' ia (flat rs2).length ic rs2 ∧ Bl W w' ∧ Pf w w' tag' px gy ka kb kc kd u ch rs2 S2 (S2 rs2.length) (n' + 1) [(w.heap.size, OP, 44), (g15, #[.int .i64 R2.1.wh, .int .i64 R2.1.ep, .int .i64 R2.1.mark, .int .i64 R2.1.ct.kd, .int .i64 R2.1.ct.cl, .int .i64 R2.1.ct.ca, .slice xa2 R2.1.ct.val.length xc2], 98), (g16, #[.int .i64 R2.1.wh, .int .i64 R2.1.ep, .int .i64 R2.1.mark, .int .i64 R2.1.ct.kd, .int .i64 R2.1.ct.cl, .int .i64 R2.1.ct.ca, .slice ya2 R2.1.ct.val.length yc2], 98)]) := fun W hW => by
          refine (pf_image (HH2.out.bl' hW 4) (by omega)).mono ?_
          rintro en w' ⟨ia, ic, rfl, h1, h2, h3⟩
          exact ⟨ia, ic, _, rfl, h1, h2, h3⟩
        have HOpn : Hid (∀ (w2 : World) (tagO : Nat → Nat) (ia : Option Addr) (ic : Nat), Pf w w2 tagO px gy ka kb kc kd u ch rs2 S2 (S2 rs2.length) (n' + 1) [(w.heap.size, OP, 44), (g15, #[.int .i64 R2.1.wh, .int .i64 R2.1.ep, .int .i64 R2.1.mark, .int .i64 R2.1.ct.kd, .int .i64 R2.1.ct.cl, .int .i64 R2.1.ct.ca, .slice xa2 R2.1.ct.val.length xc2], 98), (g16, #[.int .i64 R2.1.wh, .int .i64 R2.1.ep, .int .i64 R2.1.mark, .int .i64 R2.1.ct.kd, .int .i64 R2.1.ct.cl, .int .i64 R2.1.ct.ca, .slice ya2 R2.1.ct.val.length yc2], 98)] → Cut w2 ia (flat rs2).length ic rs2 → ∀ W, Bl w2 W → Calls Tryz.prog 29 #[.agg #[.int .i64 ka, .int .i64 kb, .int .i64 kc, .int .i64 kd], .int .i64 u, .slice ia (flat rs2).length ic] W fun en w' => ∃ p' tag', en = .returned (.tuple #[.pointer (some ⟨p', 0, none⟩), .int .i64 0]) ∧ Bl W w' ∧ Pf w w' tag' p' gy ka kb kc kd u ch rs2 S2 (S2 rs2.length) (n' + 1) [(w.heap.size, OP, 44), (g15, #[.int .i64 R2.1.wh, .int .i64 R2.1.ep, .int .i64 R2.1.mark, .int .i64 R2.1.ct.kd, .int .i64 R2.1.ct.cl, .int .i64 R2.1.ct.ca, .slice xa2 R2.1.ct.val.length xc2], 98), (g16, #[.int .i64 R2.1.wh, .int .i64 R2.1.ep, .int .i64 R2.1.mark, .int .i64 R2.1.ct.kd, .int .i64 R2.1.ct.cl, .int .i64 R2.1.ct.ca, .slice ya2 R2.1.ct.val.length yc2], 98)]) := fun w2 tagO ia ic hP hC W hW => by
          refine (pf_open (hP.bl' hW 4) Hcha.out ia ic (hC.bl hW) (by omega)).mono ?_
          rintro en w' ⟨p', rfl, h1, h2⟩
          exact ⟨p', _, rfl, h1, h2⟩
        have hbI := HH2.out.bl
        have zq := (hbI.cell lqw).trans cyw.out
        have z0 := (hbI.cell lyw).trans Yw.out.1
        have z1 := (hbI.cell lyw).trans Yw.out.2.1
        have z2 := (hbI.cell lyw).trans Yw.out.2.2.1
        have z3 := (hbI.cell lyw).trans Yw.out.2.2.2.1
        have z4 := (hbI.cell lyw).trans Yw.out.2.2.2.2
        have lqI := Nat.lt_of_lt_of_le lqw hbI.lt
        have lyI := Nat.lt_of_lt_of_le lyw hbI.lt
        clear hbI HH2
        go_upto_region 18 with fail
        go_cut [11, 12] from 133 to 152 (fun x e wx => ∃ px2 tag', x = .pointer (some ⟨px2, 0, none⟩) ∧ e = .int .i64 0 ∧ Hid (Pf w wx tag' px2 gy ka kb kc kd u ch rs2 S2 (S2 rs2.length) (n' + 1) [(w.heap.size, OP, 44), (g15, #[.int .i64 R2.1.wh, .int .i64 R2.1.ep, .int .i64 R2.1.mark, .int .i64 R2.1.ct.kd, .int .i64 R2.1.ct.cl, .int .i64 R2.1.ct.ca, .slice xa2 R2.1.ct.val.length xc2], 98), (g16, #[.int .i64 R2.1.wh, .int .i64 R2.1.ep, .int .i64 R2.1.mark, .int .i64 R2.1.ct.kd, .int .i64 R2.1.ct.cl, .int .i64 R2.1.ct.ca, .slice ya2 R2.1.ct.val.length yc2], 98)]))
        case first =>
          go_region_held3 (fun W => W.cell? ⟨q, 1, none⟩ = some (.pointer (some ⟨y, 0, none⟩)) ∧ W.cell? ⟨y, 0, none⟩ = some (.int .i64 ka) ∧ W.cell? ⟨y, 1, none⟩ = some (.int .i64 kb) ∧ W.cell? ⟨y, 2, none⟩ = some (.int .i64 kc) ∧ W.cell? ⟨y, 3, none⟩ = some (.int .i64 kd) ∧ W.cell? ⟨y, 4, none⟩ = some (.int .i64 u)) (go_keep)
            (first | (go_at_call 35; refine (HImg.out _ ?hb).mono ?_; (case hb => first | exact (Bl.refl _).drewN _ | exact (Bl.refl _).drew | exact Bl.refl _); rintro en w2 ⟨ja, jc, tagO, rfl, hC2, hb2, hP2⟩; have hB2 : Bl wI w2 := Bl.trans (by first | exact (Bl.refl _).drewN _ | exact (Bl.refl _).drew | exact Bl.refl _) hb2; have i1 := (hB2.cell lqI).trans zq; have i0 := (hB2.cell lyI).trans z0; have i2 := (hB2.cell lyI).trans z1; have i3 := (hB2.cell lyI).trans z2; have i4 := (hB2.cell lyI).trans z3; have i5 := (hB2.cell lyI).trans z4; have HO2 := hid (HOpn.out w2 tagO ja jc hP2 hC2); have HB2' := hid hB2; clear hb2 hB2 hC2 hP2) | (go_at_call 29; refine (HO2.out _ ?hb).mono ?_; (case hb => first | exact (Bl.refl _).drewN _ | exact (Bl.refl _).drew | exact Bl.refl _); rintro en w3 ⟨px2, tagP, rfl, hb3, hP3⟩; have hB3 : Bl wI w3 := HB2'.out.trans (Bl.trans (by first | exact (Bl.refl _).drewN _ | exact (Bl.refl _).drew | exact Bl.refl _) hb3); have k1 := (hB3.cell lqI).trans zq; have k0 := (hB3.cell lyI).trans z0; have k2 := (hB3.cell lyI).trans z1; have k3 := (hB3.cell lyI).trans z2; have k4 := (hB3.cell lyI).trans z3; have k5 := (hB3.cell lyI).trans z4; have HP3 := hid hP3; clear hb3 hB3 hP3))
          all_goals (go_wp2_with fail; go_meet)
          all_goals exact ⟨px2, tagP, rfl, rfl, HP3.out⟩
        case rest =>
          obtain ⟨px2, tagR, rfl, rfl, HH2b⟩ := hcut
          clear HImg HOpn zq z0 z1 z2 z3 z4 lqI lyI
          obtain ⟨R3, hR⟩ : ∃ R, R = readA ka kb kc kd ch (S2 rs2.length) b a := ⟨_, rfl⟩
          have HK := hid (pf_k (R := R3) HH2b.out (by rw [hR]; exact kc_read HH2b.out.kt b a hbw (by omega)))
          have HD : Hid (∀ (W : World) (tagW : Nat → Nat), Dt W tagW 11 12 gy ka kb kc kd u (S2 rs2.length) (n' + 1) → DCallN 41 #[.pointer (some ⟨gy, 0, none⟩), .int .i64 b, .int .i64 a] W tagW 11 12 gy ka kb kc kd u (n' + 1) R3) := fun W tagW hW => by rw [hR]; exact dn_read hW Hcha.out (by omega) (by decide) b a
          have u1 := (HH2b.out.bo.cell (.head _) 1).trans o1
          have u2 := (HH2b.out.bo.cell (.head _) 2).trans o2
          have lOP := HH2b.out.bo.lt (.head _)
          clear hR
          go_wp2_with fail
          refine HK.out.mono ?_
          rintro en wA ⟨xa3, xc3, rs3, S3, tagA, rfl, hoA, htA, hEA, hsA, _, _, hHA⟩
          obtain ⟨⟨n0, n1, n2, n3, n4, n5, n6⟩, ⟨f0, f1, f2, f3, f4, f5, f6⟩, lN⟩ := hHA.bo.row7 (.tail _ (.head _))
          have hgA : wA.heap[g15]? = some (.cells #[.int .i64 R2.1.wh, .int .i64 R2.1.ep, .int .i64 R2.1.mark, .int .i64 R2.1.ct.kd, .int .i64 R2.1.ct.cl, .int .i64 R2.1.ct.ca, .slice xa2 R2.1.ct.val.length xc2] 98 (0, 0)) := (hHA.bo _ (.tail _ (.head _))).1
          have hHA2 := hHA.set7 (b1 := [(w.heap.size, OP, 44)]) (b2 := [(g16, #[.int .i64 R2.1.wh, .int .i64 R2.1.ep, .int .i64 R2.1.mark, .int .i64 R2.1.ct.kd, .int .i64 R2.1.ct.cl, .int .i64 R2.1.ct.ca, .slice ya2 R2.1.ct.val.length yc2], 98)]) (by intro x hx; simp at hx; rcases hx with rfl | rfl <;> (dsimp only; omega)) (.int .i64 R3.1.wh) (.int .i64 R3.1.ep) (.int .i64 R3.1.mark) (.int .i64 R3.1.ct.kd) (.int .i64 R3.1.ct.cl) (.int .i64 R3.1.ct.ca) (.slice xa3 R3.1.ct.val.length xc3)
          have hoA2 := (Only.set7 (w := wA) (S := fun g => g = g15) (g := g15) rfl (.int .i64 R3.1.wh) (.int .i64 R3.1.ep) (.int .i64 R3.1.mark) (.int .i64 R3.1.ct.kd) (.int .i64 R3.1.ct.cl) (.int .i64 R3.1.ct.ca) (.slice xa3 R3.1.ct.val.length xc3)).owns hoA fun g hg e => own_ne_block hoA hgA (by decide) (by rw [hg, e])
          simp only [List.cons_append, List.nil_append] at hHA2
          have HHA := hid hHA2
          have HoA := hid hoA2
          have HtA := hid htA
          have HEA := hid (And.intro hEA hsA)
          clear HK hHA hHA2 hgA hoA hoA2 htA hEA hsA u1 u2 lOP
          unfold An.val reply
          go_upto_region 22 with fail
          generalize (((((((wA.setCell ⟨g15, 0, none⟩ (.int .i64 R3.1.wh)).setCell ⟨g15, 1, none⟩ (.int .i64 R3.1.ep)).setCell ⟨g15, 2, none⟩ (.int .i64 R3.1.mark)).setCell ⟨g15, 3, none⟩ (.int .i64 R3.1.ct.kd)).setCell ⟨g15, 4, none⟩ (.int .i64 R3.1.ct.cl)).setCell ⟨g15, 5, none⟩ (.int .i64 R3.1.ct.ca)).setCell ⟨g15, 6, none⟩ (.slice xa3 R3.1.ct.val.length xc3)) = WA at HHA HoA ⊢
          generalize tagA = tagB at HHA HtA
          clear n0 n1 n2 n3 n4 n5 n6 f0 f1 f2 f3 f4 f5 f6 lN
          have HP := hid (pf_d HHA.out (HD.out _ _ HHA.out.dt))
          have u1 := (HHA.out.bo.cell (.head _) 1).trans o1
          have u2 := (HHA.out.bo.cell (.head _) 2).trans o2
          have lOP := HHA.out.bo.lt (.head _)
          clear HD HHA
          go_wp2_with fail
          refine HP.out.mono ?_
          rintro en wC ⟨ya3, yc3, tagC, rfl, hoC, htC, OC, hHC⟩
          have hxC := OC.owns HoA.out fun g hg e => by have h1 : tagB g = 1 := HtA.out g hg; have h2 : tagB g = 11 := e; omega
          rw [← HEA.out.1] at hHC
          obtain ⟨⟨n0, n1, n2, n3, n4, n5, n6⟩, ⟨f0, f1, f2, f3, f4, f5, f6⟩, lN⟩ := hHC.bo.row7 (.tail _ (.tail _ (.head _)))
          have hgC : wC.heap[g16]? = some (.cells #[.int .i64 R2.1.wh, .int .i64 R2.1.ep, .int .i64 R2.1.mark, .int .i64 R2.1.ct.kd, .int .i64 R2.1.ct.cl, .int .i64 R2.1.ct.ca, .slice ya2 R2.1.ct.val.length yc2] 98 (0, 0)) := (hHC.bo _ (.tail _ (.tail _ (.head _)))).1
          have hHC2 := hHC.set7 (b1 := [(w.heap.size, OP, 44), (g15, #[.int .i64 R3.1.wh, .int .i64 R3.1.ep, .int .i64 R3.1.mark, .int .i64 R3.1.ct.kd, .int .i64 R3.1.ct.cl, .int .i64 R3.1.ct.ca, .slice xa3 R3.1.ct.val.length xc3], 98)]) (b2 := []) (by intro x hx; simp at hx; rcases hx with rfl | rfl <;> (dsimp only; omega)) (.int .i64 R3.1.wh) (.int .i64 R3.1.ep) (.int .i64 R3.1.mark) (.int .i64 R3.1.ct.kd) (.int .i64 R3.1.ct.cl) (.int .i64 R3.1.ct.ca) (.slice ya3 R3.1.ct.val.length yc3)
          have O7 := Only.set7 (w := wC) (S := fun g => g = g16) (g := g16) rfl (.int .i64 R3.1.wh) (.int .i64 R3.1.ep) (.int .i64 R3.1.mark) (.int .i64 R3.1.ct.kd) (.int .i64 R3.1.ct.cl) (.int .i64 R3.1.ct.ca) (.slice ya3 R3.1.ct.val.length yc3)
          have hs1 := O7.owns hxC fun g hg e => own_ne_block hxC hgC (by decide) (by rw [hg, e])
          have hs2 := O7.owns hoC fun g hg e => own_ne_block hoC hgC (by decide) (by rw [hg, e])
          simp only [List.cons_append, List.nil_append] at hHC2
          have HHC := hid hHC2
          have Hs1 := hid hs1
          have Hs2 := hid hs2
          clear HP hHC hHC2 hgC O7 hoC htC OC hxC hs1 hs2 u1 u2 lOP HoA HtA
          unfold An.val reply
          go_upto_region 23 with fail
          generalize (((((((wC.setCell ⟨g16, 0, none⟩ (.int .i64 R3.1.wh)).setCell ⟨g16, 1, none⟩ (.int .i64 R3.1.ep)).setCell ⟨g16, 2, none⟩ (.int .i64 R3.1.mark)).setCell ⟨g16, 3, none⟩ (.int .i64 R3.1.ct.kd)).setCell ⟨g16, 4, none⟩ (.int .i64 R3.1.ct.cl)).setCell ⟨g16, 5, none⟩ (.int .i64 R3.1.ct.ca)).setCell ⟨g16, 6, none⟩ (.slice ya3 R3.1.ct.val.length yc3)) = WC at HHC Hs1 Hs2 ⊢
          generalize tagC = tagD at HHC
          clear n0 n1 n2 n3 n4 n5 n6 f0 f1 f2 f3 f4 f5 f6 lN
          obtain ⟨⟨n0, n1, n2, n3, n4, n5, n6⟩, _, lN⟩ := HHC.out.bo.row7 (.tail _ (.head _))
          obtain ⟨⟨m0, m1, m2, m3, m4, m5, m6⟩, _, lM⟩ := HHC.out.bo.row7 (.tail _ (.tail _ (.head _)))
          have HSame := hid (sameReply_any R3.1.wh R3.1.ep R3.1.mark R3.1.ct.kd R3.1.ct.cl R3.1.ct.ca (.slice xa3 R3.1.ct.val.length xc3) (.slice ya3 R3.1.ct.val.length yc3) R3.1.ct.val WC (ownsRow_sl Hs1.out) (ownsRow_sl Hs2.out))
          unfold reply at HSame
          have hl3 : (flat rs3).length ≤ L + 180 := by have := HEA.out.2; omega
          clear HEA Hs1 Hs2
          go_wp2_with fail
          refine HSame.out.mono ?_
          rintro en wI ⟨rfl, hbI⟩
          have HH3 := hid (HHC.out.bl' hbI 4)
          generalize tagTo tagD WC.heap.size 4 = tag3 at HH3
          clear HSame hbI HHC n0 n1 n2 n3 n4 n5 n6 lN m0 m1 m2 m3 m4 m5 m6 lM HH2b
          obtain ⟨R4, hR⟩ : ∃ R, R = trimA (S3 rs3.length) b 0 := ⟨_, rfl⟩
          have HK := hid (pf_k (R := R4) HH3.out (by rw [hR]; exact kc_trim HH3.out.kt b 0 hbw (by decide) (by omega)))
          have HD : Hid (∀ (W : World) (tagW : Nat → Nat), Dt W tagW 11 12 gy ka kb kc kd u (S3 rs3.length) (n' + 1) → DCallN 46 #[.pointer (some ⟨gy, 0, none⟩), .int .i64 b, .int .i64 0] W tagW 11 12 gy ka kb kc kd u (n' + 2) R4) := fun W tagW hW => by rw [hR]; exact (dc_trim hW b 0).n
          have u1 := (HH3.out.bo.cell (.head _) 1).trans o1
          have u2 := (HH3.out.bo.cell (.head _) 2).trans o2
          have lOP := HH3.out.bo.lt (.head _)
          clear hR
          go_wp2_with fail
          refine HK.out.mono ?_
          rintro en wA ⟨xa4, xc4, rs4, S4, tagA, rfl, hoA, htA, hEA, hsA, _, _, hHA⟩
          obtain ⟨⟨n0, n1, n2, n3, n4, n5, n6⟩, ⟨f0, f1, f2, f3, f4, f5, f6⟩, lN⟩ := hHA.bo.row7 (.tail _ (.head _))
          have hgA : wA.heap[g15]? = some (.cells #[.int .i64 R3.1.wh, .int .i64 R3.1.ep, .int .i64 R3.1.mark, .int .i64 R3.1.ct.kd, .int .i64 R3.1.ct.cl, .int .i64 R3.1.ct.ca, .slice xa3 R3.1.ct.val.length xc3] 98 (0, 0)) := (hHA.bo _ (.tail _ (.head _))).1
          have hHA2 := hHA.set7 (b1 := [(w.heap.size, OP, 44)]) (b2 := [(g16, #[.int .i64 R3.1.wh, .int .i64 R3.1.ep, .int .i64 R3.1.mark, .int .i64 R3.1.ct.kd, .int .i64 R3.1.ct.cl, .int .i64 R3.1.ct.ca, .slice ya3 R3.1.ct.val.length yc3], 98)]) (by intro x hx; simp at hx; rcases hx with rfl | rfl <;> (dsimp only; omega)) (.int .i64 R4.1.wh) (.int .i64 R4.1.ep) (.int .i64 R4.1.mark) (.int .i64 R4.1.ct.kd) (.int .i64 R4.1.ct.cl) (.int .i64 R4.1.ct.ca) (.slice xa4 R4.1.ct.val.length xc4)
          have hoA2 := (Only.set7 (w := wA) (S := fun g => g = g15) (g := g15) rfl (.int .i64 R4.1.wh) (.int .i64 R4.1.ep) (.int .i64 R4.1.mark) (.int .i64 R4.1.ct.kd) (.int .i64 R4.1.ct.cl) (.int .i64 R4.1.ct.ca) (.slice xa4 R4.1.ct.val.length xc4)).owns hoA fun g hg e => own_ne_block hoA hgA (by decide) (by rw [hg, e])
          simp only [List.cons_append, List.nil_append] at hHA2
          have HHA := hid hHA2
          have HoA := hid hoA2
          have HtA := hid htA
          have HEA := hid (And.intro hEA hsA)
          clear HK hHA hHA2 hgA hoA hoA2 htA hEA hsA u1 u2 lOP
          unfold An.val reply
          go_upto_region 25 with fail
          generalize (((((((wA.setCell ⟨g15, 0, none⟩ (.int .i64 R4.1.wh)).setCell ⟨g15, 1, none⟩ (.int .i64 R4.1.ep)).setCell ⟨g15, 2, none⟩ (.int .i64 R4.1.mark)).setCell ⟨g15, 3, none⟩ (.int .i64 R4.1.ct.kd)).setCell ⟨g15, 4, none⟩ (.int .i64 R4.1.ct.cl)).setCell ⟨g15, 5, none⟩ (.int .i64 R4.1.ct.ca)).setCell ⟨g15, 6, none⟩ (.slice xa4 R4.1.ct.val.length xc4)) = WA at HHA HoA ⊢
          generalize tagA = tagB at HHA HtA
          clear n0 n1 n2 n3 n4 n5 n6 f0 f1 f2 f3 f4 f5 f6 lN
          have HP := hid (pf_d HHA.out (HD.out _ _ HHA.out.dt))
          have u1 := (HHA.out.bo.cell (.head _) 1).trans o1
          have u2 := (HHA.out.bo.cell (.head _) 2).trans o2
          have lOP := HHA.out.bo.lt (.head _)
          clear HD HHA
          go_wp2_with fail
          refine HP.out.mono ?_
          rintro en wC ⟨ya4, yc4, tagC, rfl, hoC, htC, OC, hHC⟩
          have hxC := OC.owns HoA.out fun g hg e => by have h1 : tagB g = 1 := HtA.out g hg; have h2 : tagB g = 11 := e; omega
          rw [← HEA.out.1] at hHC
          obtain ⟨⟨n0, n1, n2, n3, n4, n5, n6⟩, ⟨f0, f1, f2, f3, f4, f5, f6⟩, lN⟩ := hHC.bo.row7 (.tail _ (.tail _ (.head _)))
          have hgC : wC.heap[g16]? = some (.cells #[.int .i64 R3.1.wh, .int .i64 R3.1.ep, .int .i64 R3.1.mark, .int .i64 R3.1.ct.kd, .int .i64 R3.1.ct.cl, .int .i64 R3.1.ct.ca, .slice ya3 R3.1.ct.val.length yc3] 98 (0, 0)) := (hHC.bo _ (.tail _ (.tail _ (.head _)))).1
          have hHC2 := hHC.set7 (b1 := [(w.heap.size, OP, 44), (g15, #[.int .i64 R4.1.wh, .int .i64 R4.1.ep, .int .i64 R4.1.mark, .int .i64 R4.1.ct.kd, .int .i64 R4.1.ct.cl, .int .i64 R4.1.ct.ca, .slice xa4 R4.1.ct.val.length xc4], 98)]) (b2 := []) (by intro x hx; simp at hx; rcases hx with rfl | rfl <;> (dsimp only; omega)) (.int .i64 R4.1.wh) (.int .i64 R4.1.ep) (.int .i64 R4.1.mark) (.int .i64 R4.1.ct.kd) (.int .i64 R4.1.ct.cl) (.int .i64 R4.1.ct.ca) (.slice ya4 R4.1.ct.val.length yc4)
          have O7 := Only.set7 (w := wC) (S := fun g => g = g16) (g := g16) rfl (.int .i64 R4.1.wh) (.int .i64 R4.1.ep) (.int .i64 R4.1.mark) (.int .i64 R4.1.ct.kd) (.int .i64 R4.1.ct.cl) (.int .i64 R4.1.ct.ca) (.slice ya4 R4.1.ct.val.length yc4)
          have hs1 := O7.owns hxC fun g hg e => own_ne_block hxC hgC (by decide) (by rw [hg, e])
          have hs2 := O7.owns hoC fun g hg e => own_ne_block hoC hgC (by decide) (by rw [hg, e])
          simp only [List.cons_append, List.nil_append] at hHC2
          have HHC := hid hHC2
          have Hs1 := hid hs1
          have Hs2 := hid hs2
          clear HP hHC hHC2 hgC O7 hoC htC OC hxC hs1 hs2 u1 u2 lOP HoA HtA
          unfold An.val reply
          go_upto_region 26 with fail
          generalize (((((((wC.setCell ⟨g16, 0, none⟩ (.int .i64 R4.1.wh)).setCell ⟨g16, 1, none⟩ (.int .i64 R4.1.ep)).setCell ⟨g16, 2, none⟩ (.int .i64 R4.1.mark)).setCell ⟨g16, 3, none⟩ (.int .i64 R4.1.ct.kd)).setCell ⟨g16, 4, none⟩ (.int .i64 R4.1.ct.cl)).setCell ⟨g16, 5, none⟩ (.int .i64 R4.1.ct.ca)).setCell ⟨g16, 6, none⟩ (.slice ya4 R4.1.ct.val.length yc4)) = WC at HHC Hs1 Hs2 ⊢
          generalize tagC = tagD at HHC
          clear n0 n1 n2 n3 n4 n5 n6 f0 f1 f2 f3 f4 f5 f6 lN
          obtain ⟨⟨n0, n1, n2, n3, n4, n5, n6⟩, _, lN⟩ := HHC.out.bo.row7 (.tail _ (.head _))
          obtain ⟨⟨m0, m1, m2, m3, m4, m5, m6⟩, _, lM⟩ := HHC.out.bo.row7 (.tail _ (.tail _ (.head _)))
          have HSame := hid (sameReply_any R4.1.wh R4.1.ep R4.1.mark R4.1.ct.kd R4.1.ct.cl R4.1.ct.ca (.slice xa4 R4.1.ct.val.length xc4) (.slice ya4 R4.1.ct.val.length yc4) R4.1.ct.val WC (ownsRow_sl Hs1.out) (ownsRow_sl Hs2.out))
          unfold reply at HSame
          have hl4 : (flat rs4).length ≤ L + 240 := by have := HEA.out.2; omega
          clear HEA Hs1 Hs2
          go_wp2_with fail
          refine HSame.out.mono ?_
          rintro en wI ⟨rfl, hbI⟩
          have HH4 := hid (HHC.out.bl' hbI 4)
          generalize tagTo tagD WC.heap.size 4 = tag4 at HH4
          clear HSame hbI HHC n0 n1 n2 n3 n4 n5 n6 lN m0 m1 m2 m3 m4 m5 m6 lM HH3
          have HBf := hid HH4.out.bl
          clear HH4
          go_wp2
          go_ret
          exact ⟨rfl, HBf.out⟩
end Go.Proofs.YtkgjpfamjedncaaGreat
