-- A voter from the beginning of an image.
import Derived.Test.YtkgjpfamjedncaaGreatHalfFHalfCNewV
namespace Go.Proofs.YtkgjpfamjedncaaGreat
open Go.RowKit Go.Maps
attribute [local go_sem ↓] Go.wp_at_zero Go.wp_at_succ

theorem step_append_row {P : Program} {ops : Array Oper} {o : Oper} {a : Act} {w : World} {K : Act → World → Prop} {Q : Exit → Act → World → Prop} {Z : Prop}
    (hg : o.guard = none) (s y : Operand) (t : TypeId) (hop : o.op = Op.call { callee := Callee.builtin Builtin.append, args := #[s, y], argTypes := #[t, t] })
    (base : Nat) (e : TypeId) (i : TypeInfo) (z : Value) (size bytes : Nat) (h1 : P.underlying t = some (.slice e)) (h2 : P.info? e = some i) (h3 : i.zero = some z) (h4 : i.size = size) (h5 : i.bytes = bytes) (h6 : z.cells.size = size) (h7 : 0 < size)
    (v : Value) (n : Nat) (xs : List Value) (hs : a.eval s = v) (hown : w.ownsRow base e size v n xs) (u : Value) (m b0 : Nat) (news : List Value) (hu : a.eval y = u) (hy : w.ownsRow b0 e size u m news) (h1c : ∀ q ∈ news, q.oneCell' = true)
    (b1 : n + m ≤ maxLen) (b2 : (n + m) * bytes ≤ 140737488355328) (hb : base ≤ w.heap.size)
    (hK : ∀ v' w', w'.ownsRow base e size v' (n + m) (xs ++ news) → Only (fun b => v.ownBlock = some b) w w' → (∀ b, v'.ownBlock = some b → v.ownBlock = some b ∨ w.heap.size ≤ b) → K (a.put o.dst v') w') :
    if Region.wanted o (yielded ops a.tmps) = true then Oper.wp P o a w K Q else Z := by
  have hw : Region.wanted o (yielded ops a.tmps) = true := by simp [Region.wanted, hg]
  rw [if_pos hw]
  rcases hy.2 with ⟨hu0, hm0⟩ | ⟨g, cap, cur, hu1, _⟩
  · have hl := hy.1
    subst hm0
    obtain rfl : news = [] := List.length_eq_zero_iff.1 (by omega)
    have hrun := run_append_owned_none (P := P) (w := w) base t o.type e i size h1 h2 v n xs hown
    unfold Oper.wp
    simp [execOp, hop, resolve, invoke, builtin, hs, hu.trans hu0, hrun, Result.andThen]
    exact hK v w (by simpa using hown) (Only.refl _ _) (fun b hb => .inl hb)
  · obtain ⟨v', w', hr, r1, r2, _, r4⟩ := run_append_own_at (P := P) w base t o.type e i z size bytes h1 h2 h3 h4 h5 h6 h7 v n xs hown ⟨g, 0, none⟩ m cap news hy.1 (fun j x hj => by
      rw [add_eq, Nat.zero_add]
      subst hu1
      rw [hy.cellAt j (by have := (List.getElem?_eq_some_iff.1 hj).1; have := hy.1; omega)]
      exact hj) h1c b1 b2 hb
    unfold Oper.wp execOp
    simp only [hop, resolve, invoke, builtin, Sem.run_bind, Sem.run_pure, Result.andThen_ok, List.map_toArray, List.map_cons, List.map_nil, hs, hu.trans hu1, hr]
    refine hK v' w' r1 ((Only.of_grown r2).mono fun k _ e => e.symm) fun b hb' => ?_
    rcases r4 with r4 | r4
    · exact .inl (by rw [← r4]; exact hb')
    · rw [hb'] at r4; simp at r4; exact .inr (by omega)

theorem row4_one {w : World} {n : Nat} {F : Nat → Sq} (h : ∀ i, i < n → w.ownsRow 0 5 1 (F i).v (F i).s.val.length ((F i).s.val.map B8)) : ∀ q ∈ row4 F n, q.oneCell' = true := by
  have key : ∀ m, m ≤ n → ∀ q ∈ row4 F m, q.oneCell' = true := by
    intro m
    induction m with
    | zero => intro _ q hq; simp [row4] at hq
    | succ m ih =>
      intro hm q hq
      rw [row4, List.mem_append] at hq
      rcases hq with hq | hq
      · exact ih (by omega) q hq
      · simp only [sq4, List.mem_cons, List.not_mem_nil, or_false] at hq
        rcases hq with rfl | rfl | rfl | rfl
        · rfl
        · rfl
        · rfl
        · exact owns_oneCell (h m (by omega))
  exact key n (Nat.le_refl _)
abbrev halfB : List Int := [104, 97, 108, 102]
theorem halfB_byt : Byt halfB := by
  intro d hd
  simp [halfB] at hd
  omega
theorem bs_half {W : World} {g : Nat} {f : Nat × Nat} (h : W.heap[g]? = some (.cells #[.int .u8 104, .int .u8 97, .int .u8 108, .int .u8 102] 5 f)) : Bs W (.slice (some ⟨g, 0, none⟩) 4 4) (halfB.map B8) := by
  refine .inr ⟨⟨g, 0, none⟩, 4, rfl, fun j u hj => ?_⟩
  rw [add_eq, Nat.zero_add, cell_of_row _ _ j _ 5 f h, ← hj]
  match j with
  | 0 => rfl
  | 1 => rfl
  | 2 => rfl
  | 3 => rfl
  | j + 4 => simp
theorem heap_alloc_new' (w : World) (o o' : Go.Obj) : ((w.alloc o).alloc o').heap[w.heap.size + 1]? = some o' := by
  have := heap_alloc_new (w.alloc o) o'
  have e : (w.alloc o).heap.size = w.heap.size + 1 := by simp
  rwa [e] at this
theorem hf_boxSet {w0 w : World} {tag : Nat → Nat} {px gy : Nat} {rs1 : List Rc} {S1 : Nat → Int → Ep} {E : Int → Ep} {nn : Nat} {bx : List (Nat × Array Value × TypeId)} (h : Hf w0 w tag px gy rs1 S1 E nn bx) {g : Nat} (hg : w.heap[g]? = some (.cells blankV 105 (0, 0))) (ht : tag g = 3) (hd : ∀ x ∈ bx, x.1 ≠ g) (x0 x1 x2 x3 : Value) : Hf w0 ((((w.setCell ⟨g, 0, none⟩ x0).setCell ⟨g, 1, none⟩ x1).setCell ⟨g, 2, none⟩ x2).setCell ⟨g, 3, none⟩ x3) tag px gy rs1 S1 E nn (bx ++ [(g, #[x0, x1, x2, x3], 105)]) :=
  (h.addBox hg ht).set4 (b2 := []) (by simpa using hd) x0 x1 x2 x3
theorem hf_boxNew {w0 w : World} {tag : Nat → Nat} {px gy : Nat} {rs1 : List Rc} {S1 : Nat → Int → Ep} {E : Int → Ep} {nn : Nat} {bx : List (Nat × Array Value × TypeId)} (h : Hf w0 w tag px gy rs1 S1 E nn bx) (cs : Array Value) : Hf w0 (w.alloc (.cells cs 105)) (tagTo tag w.heap.size 3) px gy rs1 S1 E nn (bx ++ [(w.heap.size, cs, 105)]) :=
  (h.bl' ((Bl.refl w).alloc _) 3).addBox (heap_alloc_new w _) (tagTo_new _ _ _ _ (Nat.le_refl _))
theorem Cut.le {w : World} {ad : Option Addr} {L n c : Nat} {rs : List Rc} (h : Cut w ad L c rs) (hn : n ≤ L) : Cut w ad n c rs := by
  obtain ⟨h1, h2, h3, b, o, h4, h5⟩ := h
  exact ⟨by omega, by omega, h3, b, o, fun h => h4 (by omega), fun j d hj hd => h5 j d (by omega) hd⟩
theorem off_flat (rs : List Rc) (k : Nat) : flat (rs.take k) = (flat rs).take (off rs k) := by
  have h : flat rs = flat (rs.take k) ++ flat (rs.drop k) := by rw [← flat_append, List.take_append_drop]
  unfold off
  rw [h, List.take_left]

set_option maxRecDepth 100000 in
set_option maxHeartbeats 4000000 in
theorem half_any (j q : Nat) (m nn : Nat) (rs : List Rc) (S : Nat → Int → Ep) (tag : Nat → Nat) (a b c q1 q2 q3 q4 : Int) (la : Option Addr) (ln lc : Nat) (ua : Option Addr) (un uc : Nat) (s : ByteArray) (t1 t2 t3 : Int) (va : Option Addr) (vn vc : Nat) (w : World)
    (hO : Ob 0 w tag j q rs S m nn) (hl : (flat rs).length ≤ 29000000) (hm : m ≤ 4000000) (hn : rs.length ≤ 29000000) (hbw : (Lit.int .i64 b).wf = true) (hc : -9223372036854775808 ≤ c ∧ c ≤ 9223372036854775807) :
    Calls Tryz.prog 51 #[.pointer (some ⟨q, 0, none⟩), .agg (opR 14 a b c q1 q2 q3 q4 la ln lc ua un uc s t1 t2 t3 va vn vc)] w fun en w' => en = .returned (.bool true) ∧ Bl w w' := by
  obtain ⟨p, y, pv, sv, xs, ks, h1, h2, h3, h4, h5, h6, h7, h8, h9, h10⟩ := hO
  have lq := (Array.getElem?_eq_some_iff.1 h1).1
  have cx : w.cell? ⟨q, 0, none⟩ = some (.pointer (some ⟨p, 0, none⟩)) := cell_of_row w q 0 _ 91 (0, 0) h1
  have c2 : w.cell? ⟨q, 2, none⟩ = some pv := cell_of_row w q 2 _ 91 (0, 0) h1
  have c3 : w.cell? ⟨q, 3, none⟩ = some sv := cell_of_row w q 3 _ 91 (0, 0) h1
  have bA := (Bl.refl w).alloc (.cells (opR 14 a b c q1 q2 q3 q4 la ln lc ua un uc s t1 t2 t3 va vn vc) 44)
  have HI := hid (vt_image (h3.bl bA) (by omega))
  have hway := hid h3.way
  have HbA := hid bA
  have hsv := hid h7
  have Hks := hid h9
  have Hpast := hid (And.intro h5 h10)
  obtain ⟨sa, sc, esv⟩ := (ownsRow_sl h7).len
  rw [ownsRow_len h7] at esv
  clear h1 h2 h3 h4 h5 h6 h7 h8 h9 h10 bA
  subst esv
  unfold opR at HI HbA ⊢
  go_enter Tryz.func51, Tryz.ntmps51
  go_wp2_with fail
  refine HI.out.mono ?_
  rintro en w2 ⟨av, rfl, hb2, hav⟩
  obtain ⟨ia, ic, rfl⟩ := owned_slice' hav
  have B2 := HbA.out.trans hb2
  obtain ⟨OP, o2, o3, hOP⟩ : ∃ OP : Array Value, OP[2]? = some (.int .i64 b) ∧ OP[3]? = some (.int .i64 c) ∧ w2.heap[w.heap.size]? = some (.cells OP 44 (0, 0)) := ⟨_, rfl, rfl, (hb2.heap (by simp)).trans (heap_alloc_new w _)⟩
  have l0 : w.heap.size < w2.heap.size := (Array.getElem?_eq_some_iff.1 hOP).1
  have u2 : w2.cell? ⟨w.heap.size, 2, none⟩ = some (.int .i64 b) := (cell_of_row _ _ 2 _ 44 (0, 0) hOP).trans o2
  have u3 : w2.cell? ⟨w.heap.size, 3, none⟩ = some (.int .i64 c) := (cell_of_row _ _ 3 _ 44 (0, 0) hOP).trans o3
  have HOP := hid hOP
  have d2 := (B2.cell lq).trans c2
  have d3 := (B2.cell lq).trans c3
  have lq2 := Nat.lt_of_lt_of_le lq B2.lt
  have HPk := hid (pick_nat c ((flat rs).length + 1) w2 hc (by omega) (by omega))
  have hpk := pk_lt c ((flat rs).length + 1) (by omega)
  rw [show (((flat rs).length + 1 : Nat) : Int) = ((flat rs).length : Int) + 1 from by omega] at HPk hpk
  obtain ⟨nL, hnL⟩ : ∃ nL, nL = (pk c (((flat rs).length : Int) + 1)).toNat := ⟨_, rfl⟩
  rw [← hnL] at HPk hpk
  clear hnL
  have HLs := hid (last_any (.slice sa m sc) (szs rs ks m) nL w2 (by
    have h := (ownsRow_sl ((Only.of_bl (S := fun _ => False) B2).owns hsv.out fun _ _ e => e))
    unfold szs
    rw [List.map_map]
    exact h) (by rw [szs_len]; exact hm))
  rw [szs_len] at HLs
  have Hcut := hid ((cut_own hav).le (n := nL) (by omega))
  have HO' := hid (vt_open hway.out ia nL ic (by omega) Hcut.out (fun b => if b < w.heap.size then 12 else if b = w.heap.size then 3 else 4) 10)
  have HB2 := hid B2
  have Hav := hid hav
  clear HI hb2 hav B2 hOP cx c2 c3 HbA
  generalize hL : (flat rs).length = L at *
  have HL := hid hL
  clear hL
  go_upto_region 3 with fail
  refine HPk.out.mono ?_
  rintro en w' ⟨rfl, rfl⟩
  go_upto_region 4 with fail
  refine HLs.out.mono ?_
  rintro en w'' ⟨rfl, rfl⟩
  clear HPk HLs
  obtain ⟨i, hi⟩ : ∃ i, i = lastTo (szs rs ks m) nL m := ⟨_, rfl⟩
  rw [← hi]
  have Hi := hid hi
  clear hi
  have hbc : Hid (nL ≤ ic ∧ (ic : Int) ≤ 9223372036854775807 ∧ (ic = 0 → nL = 0)) := ⟨Hcut.out.nc, by have := Hcut.out.c1; omega, fun h => by have := Hcut.out.nc; omega⟩
  go_upto_region 4 with fail
  go_cut [8, 9] (fun r e wx => ∃ px k, r = .pointer (some ⟨px, 0, none⟩) ∧ e = .int .i64 0 ∧ Hid (k ≤ rs.length ∧ off rs k ≤ nL ∧ ∀ h : k < rs.length, nL < off rs k + rs[k].bytes.length) ∧ Hid (w''.heap.size ≤ px ∧ Bl w'' wx) ∧ Hid (Vt wx (tagTo (fun b => if b < w.heap.size then 12 else if b = w.heap.size then 3 else 4) w''.heap.size 10) 10 px (rs.take k) S))
  case first =>
    have hlI : (nL : Int) ≤ ic := by have := hbc.out.1; omega
    have hic := hbc.out.2.1
    by_cases hc0 : ic = 0
    · have hz := hbc.out.2.2 hc0
      subst hc0 hz
      go_wp2_with fail
      refine HO'.out.mono ?_
      rintro en w3 ⟨k, px, rfl, k1, k2, k3, k4, hb3, hv3⟩
      have HK := hid (And.intro k1 (And.intro k2 k3))
      have HB3 := hid (And.intro k4 hb3)
      have HV3 := hid hv3
      clear k1 k2 k3 k4 hb3 hv3
      go_wp2_with fail
      go_meet
      exact ⟨px, k, rfl, rfl, HK.out, HB3.out, HV3.out⟩
    · go_wp2_with fail
      refine HO'.out.mono ?_
      rintro en w3 ⟨k, px, rfl, k1, k2, k3, k4, hb3, hv3⟩
      have HK := hid (And.intro k1 (And.intro k2 k3))
      have HB3 := hid (And.intro k4 hb3)
      have HV3 := hid hv3
      clear k1 k2 k3 k4 hb3 hv3
      go_wp2_with fail
      go_meet
      exact ⟨px, k, rfl, rfl, HK.out, HB3.out, HV3.out⟩
  case rest =>
    obtain ⟨px, k, rfl, rfl, HK, HBx, HVx⟩ := hcut
    obtain ⟨W4, rfl⟩ : ∃ W4, W4 = wc := ⟨wc, rfl⟩
    obtain ⟨hi1, hi2⟩ := Hks.out.picks k nL HK.out.1 HK.out.2.1 HK.out.2.2
    rw [← Hi.out] at hi1 hi2
    have hsv0 := hsv.out
    obtain ⟨gs, rfl⟩ : ∃ gs, sa = some ⟨gs, 0, none⟩ := by
      rcases hsv0.2 with ⟨e, e'⟩ | ⟨g, cap, cur, e, _⟩
      · simp only [Value.slice.injEq] at e; omega
      · simp only [Value.slice.injEq] at e; exact ⟨g, e.1⟩
    have hBw := HB2.out.trans HBx.out.2
    have hsc := ((Only.of_bl (S := fun _ => False) hBw).owns hsv0 fun _ _ e => e)
    have si : W4.cell? ⟨gs, i, none⟩ = some (.int .i64 (off rs k : Nat)) := by
      have h := hsc.cellAt i (by omega)
      simp [hi1, hi2] at h
      exact h
    have lgs : gs < W4.heap.size := (hsc.lt gs rfl).2
    have hmI : (m : Int) ≤ 9223372036854775807 := by omega
    have d3c := (HBx.out.2.cell lq2).trans d3
    have lqc := Nat.lt_of_lt_of_le lq2 HBx.out.2.lt
    have hoff : off rs k ≤ nL := HK.out.2.1
    have hofI : ((off rs k : Nat) : Int) ≤ ic := by have := hbc.out.1; omega
    have hicI := hbc.out.2.1
    have hat := (Only.of_bl (S := fun _ => False) HBx.out.2).owns Hav.out fun _ _ e => e
    have hsl := slice_cut hat (m := off rs k) (by omega)
    rw [← List.map_take, ← off_flat] at hsl
    have HI2 : Hid (∀ W, Bl W4 W → _) := fun W hW => vt_image (HVx.out.bl hW) (by have := off_mono rs k rs.length HK.out.1 (Nat.le_refl _); rw [off_all, HL.out] at this; unfold off at this; omega)
    have HC2 : Hid (∀ W, Bl W4 W → _) := fun W hW => conv_any _ (flat (rs.take k)) W (hsl.bl hW)
    have K2 := HC2.out W4.drew (Bl.refl W4).drew
    have Hi2 := hid hi2
    have hi1I : (i : Int) < m := by omega
    have Hoff := hid hoff
    have hz : Hid (ic = 0 → off rs k = 0) := fun h => by have := hbc.out.1; omega
    clear hsv0 hsc hat hsl hi2 hBw hoff
    generalize hst : strOf (flat (rs.take k)) = st at K2 HC2
    generalize off rs k = ok at si hofI K2 HC2 hz
    have Hst := hid hst
    clear hst
    go_upto_region 5 with fail
    go_cut [60] (fun r wx => r = .bool false ∧ Hid (Bl W4 wx))
    case first =>
      by_cases hc0 : ic = 0
      · have hz0 := hz.out hc0
        subst hc0 hz0
        go_region_held (fun W => W.cell? ⟨q, 3, none⟩ = some (.slice (some ⟨gs, 0, none⟩) m sc) ∧ W.cell? ⟨gs, i, none⟩ = some (.int .i64 (0 : Nat))) (go_keep)
          (first | (go_at_call 50; refine Calls.mono (HI2.out _ (by first | exact (Bl.refl _).drewN _ | exact (Bl.refl _).drew | exact Bl.refl _)) ?_; rintro en w4 ⟨iv, rfl, hb4, hiv⟩; obtain ⟨xa, xc, rfl⟩ := owned_slice' hiv; have kc4 := conv_any _ (flat (rs.take k)) w4 (ownsRow_sl hiv); rw [Hst.out] at kc4; have kd4 := HC2.out w4 (by first | exact ((Bl.refl _).drewN _).trans hb4 | exact ((Bl.refl _).drew).trans hb4 | exact hb4); have e3 := (hb4.cell lqc).trans d3c; have e4 := (hb4.cell lgs).trans si; have HB4 := hid hb4; clear hb4 hiv))
        all_goals (go_wp2_with fail; go_meet)
        all_goals exact ⟨rfl, by first | exact ((Bl.refl _).drewN _).trans HB4.out | exact ((Bl.refl _).drew).trans HB4.out | exact HB4.out⟩
      · go_region_held (fun W => W.cell? ⟨q, 3, none⟩ = some (.slice (some ⟨gs, 0, none⟩) m sc) ∧ W.cell? ⟨gs, i, none⟩ = some (.int .i64 (ok : Nat))) (go_keep)
          (first | (go_at_call 50; refine Calls.mono (HI2.out _ (by first | exact (Bl.refl _).drewN _ | exact (Bl.refl _).drew | exact Bl.refl _)) ?_; rintro en w4 ⟨iv, rfl, hb4, hiv⟩; obtain ⟨xa, xc, rfl⟩ := owned_slice' hiv; have kc4 := conv_any _ (flat (rs.take k)) w4 (ownsRow_sl hiv); rw [Hst.out] at kc4; have kd4 := HC2.out w4 (by first | exact ((Bl.refl _).drewN _).trans hb4 | exact ((Bl.refl _).drew).trans hb4 | exact hb4); have e3 := (hb4.cell lqc).trans d3c; have e4 := (hb4.cell lgs).trans si; have HB4 := hid hb4; clear hb4 hiv))
        all_goals (go_wp2_with fail; go_meet)
        all_goals exact ⟨rfl, by first | exact ((Bl.refl _).drewN _).trans HB4.out | exact ((Bl.refl _).drew).trans HB4.out | exact HB4.out⟩
    case rest =>
      obtain ⟨rfl, HBy⟩ := hcut
      obtain ⟨W5, rfl⟩ : ∃ W5, W5 = wc := ⟨wc, rfl⟩
      obtain ⟨hpv, hpast⟩ := Hpast.out
      obtain ⟨l, hxl, hP⟩ := hpast i hi1
      rw [Hi2.out] at hP
      obtain ⟨n', F, hn', hrow, hRl, _, hval⟩ := hP
      obtain ⟨la', lc', hle⟩ := own_len4 hrow
      obtain ⟨gp, pc, hpe⟩ : ∃ gp pc, pv = .slice (some ⟨gp, 0, none⟩) m pc := by
        rcases hpv.2 with ⟨e, e'⟩ | ⟨g, cap, cur, e, _⟩
        · omega
        · exact ⟨g, cap, e⟩
      subst hpe hle
      have hBd := HB2.out.trans (HBx.out.2.trans HBy.out)
      have d2c := (HBx.out.2.cell lq2).trans d2
      have d2d := (HBy.out.cell lqc).trans d2c
      have pi : W5.cell? ⟨gp, i, none⟩ = some (.slice la' n' lc') := by
        have h := ((Only.of_bl (S := fun _ => False) hBd).owns hpv fun _ _ e => e).cellAt i (by omega)
        rw [h]; exact hxl
      have lgp : gp < W5.heap.size := ((Only.of_bl (S := fun _ => False) hBd).owns hpv fun _ _ e => e).lt gp rfl |>.2
      have lqd := Nat.lt_of_lt_of_le lqc HBy.out.lt
      have Hrow := hid ((Only.of_bl (S := fun _ => False) hBd).owns hrow fun _ _ e => e)
      have HRl := hid hRl
      have Hval := hid hval
      have HBd := hid hBd
      clear hpv hpast hxl hrow hRl hval hBd d2c K2 HC2 HI2 si d3c
      obtain ⟨i140, j140, z0, z1, z2⟩ := info_parts Tryz.info140
      have H1c := hid (row4_one (n := n') (F := F) fun i hi => (Hval.out i hi).1)
      have hm1 : Hid (0 + n' ≤ maxLen) := by unfold Hid maxLen; omega
      have hb1 : Hid ((0 + n') * 48 ≤ 140737488355328) := by unfold Hid; omega
      have nqy : ¬ W5.heap.size = q := by omega
      have nqp : ¬ W5.heap.size = gp := by omega
      go_upto_region 8 with fail
      go_cut [] (fun wx => ∃ ca cc, Hid (wx.heap[W5.heap.size]? = some (.cells #[.slice ca n' cc] 88 (0, 0))) ∧ Hid (wx.ownsRow W5.heap.size 140 4 (.slice ca n' cc) n' (row4 F n')) ∧ Hid (Bl W5 wx))
      case first =>
        have hrA := hid (((Only.of_bl (S := fun _ => False) (((Bl.refl W5).alloc (.cells #[.slice none 0 0] 88)).drew)).owns Hrow.out fun _ _ e => e))
        have lA : W5.heap.size < ((W5.alloc (.cells #[.slice none 0 0] 88)).drew).heap.size := by simp
        have q2A := ((((Bl.refl W5).alloc (.cells #[.slice none 0 0] 88)).drew).cell lqd).trans d2d
        have piA := ((((Bl.refl W5).alloc (.cells #[.slice none 0 0] 88)).drew).cell lgp).trans pi
        have hYA := hid (heap_alloc_new W5 (.cells #[.slice none 0 0] 88))
        go_region_law
          ((refine step_append_row (by rfl) _ _ _ (by rfl) W5.heap.size 140 i140 _ 4 48 Tryz.underlying86 j140 z0 z1 z2 rfl (by decide) _ 0 [] (by rfl) (World.ownsRow_nil _ _ _ _) _ n' 0 _ (by rfl) hrA.out H1c.out hm1.out hb1.out (by simp) ?_; intro v' w6 r1 r2 r3; have b6 := r2.to_bl (fun k _ e => by simp [Value.ownBlock] at e); obtain ⟨ca, cc, hlc⟩ := own_len4 r1; subst hlc; have hY6 := (b6.heap lA).trans hYA.out; have y0 := cell_of_row _ _ 0 _ 88 (0, 0) hY6; have yf := frozen_of_row _ _ 0 _ 88 hY6; simp at y0; have HY6 := hid hY6; have HR6 := hid r1; have HB6 := hid b6; clear r1 r2 r3 b6 hY6))
        all_goals (go_wp2_with fail; go_meet)
        all_goals
          have hr6 : w6.ownsRow W5.heap.size 140 4 (.slice ca n' cc) n' (row4 F n') := by simpa using HR6.out
          exact ⟨ca, cc, heap_setCell_same w6 W5.heap.size 0 _ 88 _ HY6.out, ownsRow_of hr6 fun b hb' => Below.heap_setCell _ _ _ _ (fun e => own_ne_block hr6 HY6.out (by decide) (by rw [hb', e])), (((Bl.refl W5).alloc _).drew.trans HB6.out).trans_only ((Only.refl (fun b => b = W5.heap.size) w6).setCell ⟨W5.heap.size, 0, none⟩ (.inl rfl) _) (fun n e => by omega)⟩
      case rest =>
        obtain ⟨ca, cc, HY, HR, HBz⟩ := hcut
        have hk : (rs.take k).length = k := by rw [List.length_take]; have := HK.out.1; omega
        have hBw := HBd.out.trans HBz.out
        have hB5 := HBy.out.trans HBz.out
        have lB := HB2.out.lt
        have l4 := HBx.out.2.lt
        have l5 := HBy.out.lt
        have l0' := l0
        obtain ⟨tagH, htH⟩ : ∃ tagH, tagH = tagTo (tagTo (fun b => if b < w.heap.size then 12 else if b = w.heap.size then 3 else 4) w''.heap.size 10) W5.heap.size 11 := ⟨_, rfl⟩
        have HH : Hid (Hf w wc tagH px W5.heap.size (rs.take k) S (S k) n' [(w.heap.size, OP, 44)]) := by
          refine ⟨hBw, fun b hb => ?_, HVx.out.only (Only.of_bl (S := fun _ => False) hB5) (fun _ _ e => e.elim) (fun b hb => ?_), ⟨_, n', F, Nat.le_refl _, ⟨HY.out, ownsRow_base HR.out fun _ _ => Nat.zero_le _, fun i hi => (Only.of_bl (S := fun _ => False) hBw).owns (Hval.out i hi).1 fun _ _ e => e⟩, HRl.out, ?_, fun b hb => ?_, fun i hi b hb => ?_⟩, fun x hx => ?_⟩
          · rw [htH, tagTo_old _ _ _ _ (by omega), tagTo_old _ _ _ _ (by omega), if_pos hb]
          · rw [htH, tagTo_old _ _ _ _ (by omega)]
          · rw [htH, tagTo_new _ _ _ _ (Nat.le_refl _)]; rfl
          · rw [htH, tagTo_new _ _ _ _ (HR.out.lt b hb).1]; rfl
          · have hlt := ((Hval.out i hi).1.lt b hb).2
            rw [htH, tagTo_old _ _ _ _ (by omega), tagTo_old _ _ _ _ (by omega), if_pos hlt]; rfl
          · simp at hx
            rw [hx]
            refine ⟨((HBx.out.2.trans hB5).heap l0).trans HOP.out, ?_⟩
            rw [htH]
            dsimp only
            rw [tagTo_old _ _ _ _ (by omega), tagTo_old _ _ _ _ (by omega), if_neg (by omega), if_pos rfl]
        have lqz := lqd
        clear HY HR HBz hB5 hBw htH HBd HBy HBx HVx Hval HRl Hrow H1c
        obtain ⟨W8, rfl⟩ : ∃ W8, W8 = wc := ⟨wc, rfl⟩
        generalize W5.heap.size = gy at *
        have u2z := (HH.out.bo.cell (.head _) 2).trans o2
        have u3z := (HH.out.bo.cell (.head _) 3).trans o3
        have lOP := HH.out.bo.lt (.head _)
        have HPk : Hid (∀ W, _) := fun W => pick_nat c 20 W hc (by omega) (by omega)
        have hP20 := pk_lt c 20 (by omega)
        simp only [Int.cast_ofNat_Int] at HPk hP20
        generalize (pk c 20).toNat = nP at *
        have Hwr : Hid ((Lit.int .i64 (IntKind.i64.wrap (1 + (nP : Int)))).wf = true) := by
          unfold Hid
          rw [IntWalk.i64_in (1 + (nP : Int)) ⟨by omega, by omega⟩]
          exact Go.WalkArith.wf_i64 (by omega)
        have hkl : (flat (rs.take k)).length ≤ L := by
          have h1 := off_mono rs k rs.length HK.out.1 (Nat.le_refl _)
          rw [off_all, HL.out] at h1; exact h1
        have hkr : (rs.take k).length ≤ rs.length := by have := HK.out.1; omega
        have HA : Hid (∀ W v, Bl W8 W → Bs W v (halfB.map B8) → (∀ g, v.ownBlock = some g → W8.heap.size ≤ g ∧ g < W.heap.size) → Calls Tryz.prog 54 #[.pointer (some ⟨px, 0, none⟩), .int .i64 b, .int .i64 (IntKind.i64.wrap (1 + (nP : Int))), v] W fun en w' => ∃ wh pr E' rs' S' tag', en = .returned (voteR wh pr 0 (.slice none 0 0)) ∧ AccAns (S k) b (IntKind.i64.wrap (1 + (nP : Int))) halfB wh pr E' ∧ S' rs'.length = E' ∧ (flat rs').length ≤ (flat (rs.take k)).length + 24 + 4 ∧ rs'.length ≤ (rs.take k).length + 1 ∧ (∀ g, W8.heap.size ≤ g → g < W.heap.size → w'.heap[g]? = W.heap[g]? ∧ tag' g = 3) ∧ Hf w w' tag' px gy rs' S' (S k) n' [(w.heap.size, OP, 44)]) := by
          intro W v hW hbs hvb
          refine (hf_accept (HH.out.bl' hW 3) b (IntKind.i64.wrap (1 + (nP : Int))) v halfB hbw Hwr.out (by omega) (by omega) hbs (fun g e => ⟨(hvb g e).2, by rw [tagTo_new _ _ _ _ (hvb g e).1]; omega⟩) (by decide) halfB_byt).mono ?_
          rintro en w' ⟨wh, pr, E', rs', S', tag', rfl, hA, hE, hs1, hs2, ht, O, hH⟩
          rw [hk] at hA
          exact ⟨wh, pr, E', rs', S', tag', rfl, hA, hE, hs1, hs2, fun g h1 h2 => ⟨O.block g h2 (by rw [tagTo_new _ _ _ _ h1]; omega), by rw [ht g h2, tagTo_new _ _ _ _ h1]⟩, hH⟩
        have lW8 := HH.out.bl.lt
        have nN0 : W8.heap.size ≠ w.heap.size := Nat.ne_of_gt lOP
        have nN1 : W8.heap.size + 1 ≠ w.heap.size := by omega
        have hszA := hid (fun o => (by simp : W8.heap.size < ((W8.alloc o).drew).heap.size))
        have HHs := HH
        clear HH
        go_upto_region 9 with fail
        go_cut [11] (fun r wx => ∃ g wh pr E' rs' S' tag', r = .pointer (some ⟨g, 0, none⟩) ∧ w.heap.size < g ∧ Hid (AccAns (S k) b (IntKind.i64.wrap (1 + (nP : Int))) halfB wh pr E' ∧ S' rs'.length = E' ∧ (flat rs').length ≤ (flat (rs.take k)).length + 24 + 4 ∧ rs'.length ≤ (rs.take k).length + 1) ∧ Hid (Hf w wx tag' px gy rs' S' (S k) n' [(w.heap.size, OP, 44), (g, #[.int .i64 wh, .int .i64 pr, .int .i64 0, .slice none 0 0], 105)]))
        case first =>
          have kc1 := conv_top W8 #[.int .u8 104, .int .u8 97, .int .u8 108, .int .u8 102] 4 4
          have kc2 := fun o => conv_over W8 o #[.int .u8 104, .int .u8 97, .int .u8 108, .int .u8 102] 4 4
          have kc3 := fun o => conv_under W8 o #[.int .u8 104, .int .u8 97, .int .u8 108, .int .u8 102] 4 4
          go_region_held (fun W => W.cell? ⟨w.heap.size, 2, none⟩ = some (.int .i64 b) ∧ W.cell? ⟨w.heap.size, 3, none⟩ = some (.int .i64 c)) (go_keep)
            (first | (go_at_call 11; refine Calls.mono (HPk.out _) ?_; rintro en w' ⟨rfl, rfl⟩) | (go_at_call 54; refine Calls.mono (HA.out _ _ ?h1 ?h2 ?h3) ?_; (case h1 => repeat (first | exact Bl.refl _ | refine Bl.drew ?_ | refine Bl.drewN ?_ _ | refine Bl.alloc ?_ _)); (case h2 => first | exact bs_half (heap_alloc_new _ _) | exact bs_half (heap_alloc_new' _ _ _) | exact bs_half (heap_first _ _ _)); (case h3 => intro g hg; simp [Value.ownBlock] at hg; subst hg; constructor <;> simp <;> omega); rintro en w9 ⟨wh, pr, E', rs', S', tag', rfl, hA, hE, hs1, hs2, hkeep, hH⟩; have z2 := (hH.bo.cell (.head _) 2).trans o2; have z3 := (hH.bo.cell (.head _) 3).trans o3; have zl := hH.bo.lt (.head _); (first | (have hN : w9.heap[W8.heap.size]? = some (.cells blankV 105 (0, 0)) ∧ tag' W8.heap.size = 3 := ⟨(hkeep _ (Nat.le_refl _) (by simp; try omega)).1.trans (heap_first W8 _ _), (hkeep _ (Nat.le_refl _) (by simp; try omega)).2⟩; obtain ⟨n0, n1, n2, n3, f0, f1, f2, f3⟩ := blankV_row hN.1; have lN : W8.heap.size < w9.heap.size := (Array.getElem?_eq_some_iff.1 hN.1).1; have HN := hid hN; clear hN) | (have hN : w9.heap[W8.heap.size + 1]? = some (.cells blankV 105 (0, 0)) ∧ tag' (W8.heap.size + 1) = 3 := ⟨(hkeep _ (Nat.le_succ _) (by simp; try omega)).1.trans (heap_alloc_new' W8 _ _), (hkeep _ (Nat.le_succ _) (by simp; try omega)).2⟩; obtain ⟨n0, n1, n2, n3, f0, f1, f2, f3⟩ := blankV_row hN.1; have lN : W8.heap.size + 1 < w9.heap.size := (Array.getElem?_eq_some_iff.1 hN.1).1; have HN := hid hN; clear hN) | skip); have HA9 := hid (And.intro hA (And.intro hE (And.intro hs1 hs2))); have HH9 := hid hH; clear hA hE hs1 hs2 hkeep hH; unfold voteR))
          all_goals (go_wp2_with fail; go_meet)
          all_goals first
            | exact ⟨_, wh, pr, E', rs', S', tag', rfl, by omega, HA9.out, hf_boxSet HH9.out HN.out.1 HN.out.2 (by intro x hx; simp at hx; rw [hx]; dsimp only; omega) _ _ _ _⟩
            | exact ⟨_, wh, pr, E', rs', S', _, rfl, by omega, HA9.out, hf_boxNew HH9.out _⟩
        case rest =>
          obtain ⟨g11, wh, pr, E', rs', S', tag9, rfl, hg11, HA9, HH9⟩ := hcut
          obtain ⟨W9, rfl⟩ : ∃ W9, W9 = wc := ⟨wc, rfl⟩
          have hlowk : Hid (b < 1 → S k b = nop) := fun h => hway.out.low k HK.out.1 b h
          have HR : Hid (∀ W v, Bl W9 W → Bs W v (halfB.map B8) → (∀ g, v.ownBlock = some g → W9.heap.size ≤ g ∧ g < W.heap.size) → Calls Tryz.prog 55 #[.pointer (some ⟨gy, 0, none⟩), .int .i64 b, .int .i64 (IntKind.i64.wrap (1 + (nP : Int))), v] W fun en w' => ∃ tag', en = .returned (voteR wh pr 0 (.slice none 0 0)) ∧ (∀ g, W9.heap.size ≤ g → g < W.heap.size → w'.heap[g]? = W.heap[g]? ∧ tag' g = 3) ∧ Hf w w' tag' px gy rs' S' (S' rs'.length) (n' + 1) [(w.heap.size, OP, 44), (g11, #[.int .i64 wh, .int .i64 pr, .int .i64 0, .slice none 0 0], 105)]) := by
            intro W v hW hbs hvb
            refine (hf_refAccept (HH9.out.bl' hW 3) b (IntKind.i64.wrap (1 + (nP : Int))) v halfB (by omega) hlowk.out hbs (fun g e => by rw [tagTo_new _ _ _ _ (hvb g e).1]; omega) (by decide)).mono ?_
            rintro en w' ⟨wh', pr', E'', tag', rfl, hA', ht, O, hH⟩
            obtain ⟨rfl, rfl, rfl⟩ := HA9.out.1.one hA'
            rw [← HA9.out.2.1] at hH
            exact ⟨tag', rfl, fun g h1 h2 => ⟨O.block g h2 (by rw [tagTo_new _ _ _ _ h1]; omega), by rw [ht g h2, tagTo_new _ _ _ _ h1]⟩, hH⟩
          have u2y := (HH9.out.bo.cell (.head _) 2).trans o2
          have u3y := (HH9.out.bo.cell (.head _) 3).trans o3
          have lOPy := HH9.out.bo.lt (.head _)
          have l11 := HH9.out.bo.lt (.tail _ (.head _))
          have nM0 : W9.heap.size ≠ w.heap.size := Nat.ne_of_gt lOPy
          have nM1 : W9.heap.size + 1 ≠ w.heap.size := by omega
          clear HA HHs HH9 nN0 nN1 hszA u2z u3z lOP
          go_upto_region 10 with fail
          go_cut [12] (fun r wx => ∃ g tag', r = .pointer (some ⟨g, 0, none⟩) ∧ g11 < g ∧ Hid (Hf w wx tag' px gy rs' S' (S' rs'.length) (n' + 1) [(w.heap.size, OP, 44), (g11, #[.int .i64 wh, .int .i64 pr, .int .i64 0, .slice none 0 0], 105), (g, #[.int .i64 wh, .int .i64 pr, .int .i64 0, .slice none 0 0], 105)]))
          case first =>
            have kc1 := conv_top W9 #[.int .u8 104, .int .u8 97, .int .u8 108, .int .u8 102] 4 4
            have kc2 := fun o => conv_over W9 o #[.int .u8 104, .int .u8 97, .int .u8 108, .int .u8 102] 4 4
            have kc3 := fun o => conv_under W9 o #[.int .u8 104, .int .u8 97, .int .u8 108, .int .u8 102] 4 4
            go_region_held (fun W => W.cell? ⟨w.heap.size, 2, none⟩ = some (.int .i64 b) ∧ W.cell? ⟨w.heap.size, 3, none⟩ = some (.int .i64 c)) (go_keep)
              (first | (go_at_call 11; refine Calls.mono (HPk.out _) ?_; rintro en w' ⟨rfl, rfl⟩) | (go_at_call 55; refine Calls.mono (HR.out _ _ ?h1 ?h2 ?h3) ?_; (case h1 => repeat (first | exact Bl.refl _ | refine Bl.drew ?_ | refine Bl.drewN ?_ _ | refine Bl.alloc ?_ _)); (case h2 => first | exact bs_half (heap_alloc_new _ _) | exact bs_half (heap_alloc_new' _ _ _) | exact bs_half (heap_first _ _ _)); (case h3 => intro g hg; simp [Value.ownBlock] at hg; subst hg; constructor <;> simp <;> omega); rintro en w9 ⟨tag', rfl, hkeep, hH⟩; have z2 := (hH.bo.cell (.head _) 2).trans o2; have z3 := (hH.bo.cell (.head _) 3).trans o3; have zl := hH.bo.lt (.head _); have zl11 := hH.bo.lt (.tail _ (.head _)); (first | (have hN : w9.heap[W9.heap.size]? = some (.cells blankV 105 (0, 0)) ∧ tag' W9.heap.size = 3 := ⟨(hkeep _ (Nat.le_refl _) (by simp; try omega)).1.trans (heap_first W9 _ _), (hkeep _ (Nat.le_refl _) (by simp; try omega)).2⟩; obtain ⟨n0, n1, n2, n3, f0, f1, f2, f3⟩ := blankV_row hN.1; have lN : W9.heap.size < w9.heap.size := (Array.getElem?_eq_some_iff.1 hN.1).1; have HN := hid hN; clear hN) | (have hN : w9.heap[W9.heap.size + 1]? = some (.cells blankV 105 (0, 0)) ∧ tag' (W9.heap.size + 1) = 3 := ⟨(hkeep _ (Nat.le_succ _) (by simp; try omega)).1.trans (heap_alloc_new' W9 _ _), (hkeep _ (Nat.le_succ _) (by simp; try omega)).2⟩; obtain ⟨n0, n1, n2, n3, f0, f1, f2, f3⟩ := blankV_row hN.1; have lN : W9.heap.size + 1 < w9.heap.size := (Array.getElem?_eq_some_iff.1 hN.1).1; have HN := hid hN; clear hN) | skip); have HHa := hid hH; clear hkeep hH; unfold voteR))
            all_goals (go_wp2_with fail; go_meet)
            all_goals first
              | exact ⟨_, tag', rfl, by omega, hf_boxSet HHa.out HN.out.1 HN.out.2 (by intro x hx; simp at hx; rcases hx with rfl | rfl <;> (dsimp only; omega)) _ _ _ _⟩
              | exact ⟨_, _, rfl, by omega, hf_boxNew HHa.out _⟩
          case rest =>
            obtain ⟨g12, tagA, rfl, hg12, HHa⟩ := hcut
            obtain ⟨n0, n1, n2, n3, _, _, _, _, lN⟩ := HHa.out.bo.row4 (.tail _ (.head _))
            obtain ⟨m0, m1, m2, m3, _, _, _, _, lM⟩ := HHa.out.bo.row4 (.tail _ (.tail _ (.head _)))
            have HSame := hid (sameVote_any wh pr 0 (.slice none 0 0) (.slice none 0 0) [] wc (ownsRow_sl (World.ownsRow_nil _ 0 5 1)) (ownsRow_sl (World.ownsRow_nil _ 0 5 1)))
            unfold voteR at HSame
            have hl' : (flat rs').length ≤ 30000000 := by have := HA9.out.2.2.1; omega
            have hr' : rs'.length ≤ 30000000 := by have := HA9.out.2.2.2; omega
            clear HR u2y u3y lOPy l11 nM0 nM1 HPk Hwr
            go_upto_region 12 with fail
            refine HSame.out.mono ?_
            rintro en wB ⟨rfl, hbB⟩
            have HHb := hid (HHa.out.bl' hbB 4)
            have HImg := hid (hf_image HHb.out hl')
            clear HSame hbB HHa n0 n1 n2 n3 lN m0 m1 m2 m3 lM HHb
            go_upto_region 12 with fail
            go_wp2_with fail
            refine HImg.out.mono ?_
            rintro en wC ⟨ja, jc, rfl, hcut, hHc⟩
            have HOp := hid (hf_open hHc ja jc hcut hl')
            clear HImg hcut hHc
            go_wp2_with fail
            refine HOp.out.mono ?_
            rintro en wD ⟨pD, rfl, hHd⟩
            have HPr := hid (hf_prepare hHd b 4611686018427387904 hbw (by decide) hl' hr')
            have uD := (hHd.bo.cell (.head _) 2).trans o2
            have lD := hHd.bo.lt (.head _)
            clear HOp hHd
            go_wp2_with fail
            refine HPr.out.mono ?_
            rintro en wE ⟨xh, xr, xb, xa, xc, ys, Ex, rsE, SE, tagE, rfl, hAE, hoE, htE, _, _, hHe⟩
            obtain ⟨n0, n1, n2, n3, f0, f1, f2, f3, lN⟩ := hHe.bo.row4 (.tail _ (.head _))
            have hgE : wE.heap[g11]? = some (.cells #[.int .i64 wh, .int .i64 pr, .int .i64 0, .slice none 0 0] 105 (0, 0)) := (hHe.bo _ (.tail _ (.head _))).1
            have hHe2 := hHe.set4 (b1 := [(w.heap.size, OP, 44)]) (b2 := [(g12, #[.int .i64 wh, .int .i64 pr, .int .i64 0, .slice none 0 0], 105)]) (by intro x hx; simp at hx; rcases hx with rfl | rfl <;> (dsimp only; omega)) (.int .i64 xh) (.int .i64 xr) (.int .i64 xb) (.slice xa ys.length xc)
            have hoE2 := (Only.set4 (w := wE) (S := fun b => b = g11) rfl (.int .i64 xh) (.int .i64 xr) (.int .i64 xb) (.slice xa ys.length xc)).owns hoE fun b hb e => own_ne_block hoE hgE (by decide) (by rw [hb, e])
            have HHe := hid hHe2
            have HoE := hid hoE2
            have HtE := hid htE
            have HAE := hid hAE
            clear HPr hAE hoE htE hHe hgE hHe2 hoE2 uD lD
            unfold voteR
            go_upto_region 16 with fail
            obtain ⟨WF, hWF⟩ : ∃ WF, WF = ((((wE.setCell ⟨g11, 0, none⟩ (.int .i64 xh)).setCell ⟨g11, 1, none⟩ (.int .i64 xr)).setCell ⟨g11, 2, none⟩ (.int .i64 xb)).setCell ⟨g11, 3, none⟩ (.slice xa ys.length xc)) := ⟨_, rfl⟩
            rw [← hWF] at HHe HoE
            rw [← hWF]
            have hlow2 : b < 1 → S' rs'.length b = nop := fun h => by
              rw [HA9.out.2.1]
              rcases HA9.out.1 with ⟨_, _, _, e⟩ | ⟨e, _⟩
              · rw [e]; exact hlowk.out h
              · exact absurd (.inl h) e
            have HRp := hid (hf_refPrepare HHe.out b 4611686018427387904 (by omega) hlow2)
            have uF := (HHe.out.bo.cell (.head _) 2).trans o2
            have lF := HHe.out.bo.lt (.head _)
            clear hWF n0 n1 n2 n3 f0 f1 f2 f3 lN hlow2
            go_wp2_with fail
            refine HRp.out.mono ?_
            rintro en wG ⟨xh', xr', xb', ya, yc, ys', Ey, tagG, rfl, hAG, hoG, htG, OG, hHg⟩
            obtain ⟨rfl, rfl, rfl, rfl, rfl⟩ := HAE.out.one hAG
            have hxG := OG.owns HoE.out fun b hb e => by have h1 : tagE b = 1 := HtE.out b hb; have h2 : tagE b = 11 := e; omega
            obtain ⟨n0, n1, n2, n3, f0, f1, f2, f3, lN⟩ := hHg.bo.row4 (.tail _ (.tail _ (.head _)))
            have hgG : wG.heap[g12]? = some (.cells #[.int .i64 wh, .int .i64 pr, .int .i64 0, .slice none 0 0] 105 (0, 0)) := (hHg.bo _ (.tail _ (.tail _ (.head _)))).1
            have hHg2 := hHg.set4 (b1 := [(w.heap.size, OP, 44), (g11, #[.int .i64 xh', .int .i64 xr', .int .i64 xb', .slice xa ys'.length xc], 105)]) (b2 := []) (by intro x hx; simp at hx; rcases hx with rfl | rfl <;> (dsimp only; omega)) (.int .i64 xh') (.int .i64 xr') (.int .i64 xb') (.slice ya ys'.length yc)
            have O4 := Only.set4 (w := wG) (S := fun b => b = g12) rfl (.int .i64 xh') (.int .i64 xr') (.int .i64 xb') (.slice ya ys'.length yc)
            have hs1 := O4.owns hxG fun b hb e => own_ne_block hxG hgG (by decide) (by rw [hb, e])
            have hs2 := O4.owns hoG fun b hb e => own_ne_block hoG hgG (by decide) (by rw [hb, e])
            have HHg := hid hHg2
            have Hs1 := hid hs1
            have Hs2 := hid hs2
            clear HRp hAG hoG htG OG hHg hgG hHg2 O4 hs1 hs2 hxG uF lF HHe HoE HtE HAE
            unfold voteR
            go_upto_region 17 with fail
            obtain ⟨WH, hWH⟩ : ∃ WH, WH = ((((wG.setCell ⟨g12, 0, none⟩ (.int .i64 xh')).setCell ⟨g12, 1, none⟩ (.int .i64 xr')).setCell ⟨g12, 2, none⟩ (.int .i64 xb')).setCell ⟨g12, 3, none⟩ (.slice ya ys'.length yc)) := ⟨_, rfl⟩
            rw [← hWH] at HHg Hs1 Hs2
            rw [← hWH]
            clear hWH n0 n1 n2 n3 f0 f1 f2 f3 lN
            obtain ⟨n0, n1, n2, n3, _, _, _, _, lN⟩ := HHg.out.bo.row4 (.tail _ (.head _))
            obtain ⟨m0, m1, m2, m3, _, _, _, _, lM⟩ := HHg.out.bo.row4 (.tail _ (.tail _ (.head _)))
            have HSame := hid (sameVote_any xh' xr' xb' (.slice xa ys'.length xc) (.slice ya ys'.length yc) ys' WH (ownsRow_sl Hs1.out) (ownsRow_sl Hs2.out))
            unfold voteR at HSame
            go_wp2_with fail
            refine HSame.out.mono ?_
            rintro en wI ⟨rfl, hbI⟩
            have HBf := hid (HHg.out.bl.trans hbI)
            clear HSame hbI
            go_wp2
            go_ret
            exact ⟨rfl, HBf.out⟩
end Go.Proofs.YtkgjpfamjedncaaGreat
