-- A step of a script of voters.
import Derived.Test.YtkgjpfamjedncaaGreatVotedStepNewKCellSeal
namespace Go.Proofs.YtkgjpfamjedncaaGreat
open Go.RowKit Go.Maps
attribute [local go_sem ↓] Go.wp_at_zero Go.wp_at_succ

theorem op_cells {W : World} {g : Nat} {x0 x1 x2 x3 x4 x5 x6 x7 x8 x9 x10 x11 x12 x13 x14 : Value} (h : W.heap[g]? = some (.cells #[x0, x1, x2, x3, x4, x5, x6, x7, x8, x9, x10, x11, x12, x13, x14] 44 (0, 0))) : W.cell? ⟨g, 0, none⟩ = some x0 ∧ W.cell? ⟨g, 1, none⟩ = some x1 ∧ W.cell? ⟨g, 2, none⟩ = some x2 ∧ W.cell? ⟨g, 3, none⟩ = some x3 ∧ W.cell? ⟨g, 4, none⟩ = some x4 ∧ W.cell? ⟨g, 5, none⟩ = some x5 ∧ W.cell? ⟨g, 6, none⟩ = some x6 ∧ W.cell? ⟨g, 7, none⟩ = some x7 ∧ W.cell? ⟨g, 8, none⟩ = some x8 ∧ W.cell? ⟨g, 9, none⟩ = some x9 ∧ W.cell? ⟨g, 10, none⟩ = some x10 ∧ W.cell? ⟨g, 11, none⟩ = some x11 ∧ W.cell? ⟨g, 12, none⟩ = some x12 ∧ W.cell? ⟨g, 13, none⟩ = some x13 ∧ W.cell? ⟨g, 14, none⟩ = some x14 :=
  ⟨cell_of_row W g 0 _ 44 (0, 0) h, cell_of_row W g 1 _ 44 (0, 0) h, cell_of_row W g 2 _ 44 (0, 0) h, cell_of_row W g 3 _ 44 (0, 0) h, cell_of_row W g 4 _ 44 (0, 0) h, cell_of_row W g 5 _ 44 (0, 0) h, cell_of_row W g 6 _ 44 (0, 0) h, cell_of_row W g 7 _ 44 (0, 0) h, cell_of_row W g 8 _ 44 (0, 0) h, cell_of_row W g 9 _ 44 (0, 0) h, cell_of_row W g 10 _ 44 (0, 0) h, cell_of_row W g 11 _ 44 (0, 0) h, cell_of_row W g 12 _ 44 (0, 0) h, cell_of_row W g 13 _ 44 (0, 0) h, cell_of_row W g 14 _ 44 (0, 0) h⟩

set_option maxRecDepth 100000 in
set_option maxHeartbeats 4000000 in
theorem stepNew_any (bw nv nb K T : Nat) (tag : Nat → Nat) (a b c q1 q2 q3 q4 : Int) (la : Option Addr) (ln lc : Nat) (ua : Option Addr) (un uc : Nat) (s : ByteArray) (t1 t2 t3 : Int) (va : Option Addr) (vn vc : Nat) (w : World)
    (hP : Ps w tag bw nv nb K T) (hnv : nv < 4000000) :
    Calls Tryz.prog 8 #[.pointer (some ⟨bw, 0, none⟩), .agg (opR 9 a b c q1 q2 q3 q4 la ln lc ua un uc s t1 t2 t3 va vn vc)] w fun en w' => en = .returned (.bool true) ∧
      (∃ tag', (∀ b, b < w.heap.size → tag' b = tag b) ∧ Ps w' tag' bw (nv + 1) nb K T) ∧ Only (fun b => tag b = 2 ∨ tag b = 6) w w' := by
  have bA := (Bl.refl w).alloc (.cells (opR 9 a b c q1 q2 q3 q4 la ln lc ua un uc s t1 t2 t3 va vn vc) 44)
  obtain ⟨vl, PV, h1, h2, h3, h4⟩ := hP.bl bA
  have HF := hid (freeVoter_any bw nv (.slice none 0 0) vl nb _ tag a b c q1 q2 q3 q4 la ln lc ua un uc s t1 t2 t3 va vn vc _ h1 h2 h3 hnv)
  have H4 := hid h4
  have HbA := hid bA
  clear hP bA h1 h2 h3 h4
  unfold opR at HF HbA H4 ⊢
  go_enter Tryz.func8, Tryz.ntmps8
  go_wp2_with fail
  refine HF.out.mono ?_
  rintro en w1 ⟨rfl, ⟨vl', q, tag', o1, k1, k2, k3, k4⟩, O⟩
  have hfin : Ps w1 tag' bw (nv + 1) nb K T := by
    refine ⟨vl', fun j => if j = nv then q else PV j, k1, ?_, k3, fun j hj => ?_⟩
    · have : (List.range (nv + 1)).map (fun j => Value.pointer (some ⟨if j = nv then q else PV j, 0, none⟩)) = ((List.range nv).map fun j => Value.pointer (some ⟨PV j, 0, none⟩)) ++ [.pointer (some ⟨q, 0, none⟩)] := by
        rw [List.range_succ, List.map_append]
        congr 1
        · refine List.map_congr_left fun i hi => ?_
          have hi' : i < nv := by simpa using hi
          rw [if_neg (by omega)]
        · simp
      rw [this]; exact k2
    · by_cases e : j = nv
      · dsimp only
        rw [if_pos e, e]
        exact ⟨[], S0, 1, 0, k4, by omega, by omega, by simp, by simp [flat]⟩
      · dsimp only
        rw [if_neg e]
        obtain ⟨rs, S, m, nn, r1, r2⟩ := H4.out j (by omega)
        exact ⟨rs, S, m, nn, r1.only O (fun b _ e => by rcases e with e | e <;> rw [e] <;> unfold Mine tP tR tV tD <;> omega) o1, r2⟩
  have hs := HbA.out.lt
  have hold : ∀ b, b < w.heap.size → tag' b = tag b := fun b hb => o1 b (by omega)
  have hO : Only (fun b => tag b = 2 ∨ tag b = 6) w w1 := (Only.of_bl HbA.out).trans O
  have HX := hid (And.intro hold (And.intro hfin hO))
  clear HF hfin hold hO O k1 k2 k3 k4 o1
  go_wp2
  go_ret
  exact ⟨rfl, ⟨tag', HX.out.1, HX.out.2.1⟩, HX.out.2.2⟩

set_option maxRecDepth 100000 in
set_option maxHeartbeats 4000000 in
theorem stepCall_any (kd : Int) (hkd : kd = 10 ∨ kd = 11 ∨ kd = 12 ∨ kd = 14) (bw nv nb K T : Nat) (tag : Nat → Nat) (a b c q1 q2 q3 q4 : Int) (la : Option Addr) (ln lc : Nat) (ua : Option Addr) (un uc : Nat) (ss : List Int) (t1 t2 t3 : Int) (va : Option Addr) (vn vc : Nat) (w : World)
    (hP : Ps w tag bw nv nb K T) (hnv : nv < 4000000) (hnb : nb + 1 < 4000000) (hK : K ≤ 1100000) (hT : T + ss.length ≤ 1100000) (ha : -9223372036854775808 ≤ a ∧ a ≤ 9223372036854775807) (hb : -9223372036854775808 ≤ b ∧ b ≤ 9223372036854775807) (hc : -9223372036854775808 ≤ c ∧ c ≤ 9223372036854775807) (hss : Byt ss) :
    Calls Tryz.prog 8 #[.pointer (some ⟨bw, 0, none⟩), .agg (opR kd a b c q1 q2 q3 q4 la ln lc ua un uc (strOf ss) t1 t2 t3 va vn vc)] w fun en w' => en = .returned (.bool true) ∧
      (∃ tag' nb', (∀ b, b < w.heap.size → tag' b = tag b) ∧ Ps w' tag' bw nv nb' (K + 1) (T + ss.length) ∧ nb' ≤ nb + 2) ∧ Only (fun b => tag b ≠ 0) w w' := by
  have bA := (Bl.refl w).alloc (.cells (opR kd a b c q1 q2 q3 q4 la ln lc ua un uc (strOf ss) t1 t2 t3 va vn vc) 44)
  obtain ⟨vl, PV, h1, h2, h3, h4⟩ := hP
  obtain ⟨c1, f1, lbw⟩ := h1.c1
  have cA := (bA.cell lbw).trans c1
  have nbw : ¬ bw = w.heap.size := by omega
  obtain ⟨ba, bc, hvl⟩ := (ownsRow_sl h2).len
  rw [ownsRow_len h2] at hvl
  by_cases hz : nv = 0
  · subst hz
    have HX : Hid (Ps (w.alloc (.cells (opR kd a b c q1 q2 q3 q4 la ln lc ua un uc (strOf ss) t1 t2 t3 va vn vc) 44)) tag bw 0 nb (K + 1) (T + ss.length)) := (Ps.bl ⟨vl, PV, h1, h2, h3, h4⟩ bA).mono (by omega) (by omega)
    have HO : Hid (Only (fun b => tag b ≠ 0) w (w.alloc (.cells (opR kd a b c q1 q2 q3 q4 la ln lc ua un uc (strOf ss) t1 t2 t3 va vn vc) 44))) := Only.of_bl bA
    subst hvl
    clear h1 h2 h3 h4 bA
    unfold opR at HX HO cA ⊢
    rcases hkd with rfl | rfl | rfl | rfl
    all_goals
      go_enter Tryz.func8, Tryz.ntmps8
      go_wp2
      go_ret
      exact ⟨rfl, ⟨tag, nb, fun _ _ => rfl, HX.out, by omega⟩, HO.out⟩
  · have hpos : 0 < nv := by omega
    obtain ⟨gv, rfl⟩ : ∃ gv, ba = some ⟨gv, 0, none⟩ := by
      rcases h2.2 with ⟨e, e'⟩ | ⟨g, cap, cur, e, _⟩
      · omega
      · rw [hvl] at e; simp only [Value.slice.injEq] at e; exact ⟨g, e.1⟩
    subst hvl
    have hj := pk_lt a nv hpos
    have HPk : Hid (∀ W, _) := fun W => pick_nat a nv W ha hpos (by omega)
    obtain ⟨jj, hjj⟩ : ∃ jj, jj = (pk a nv).toNat := ⟨_, rfl⟩
    rw [← hjj] at HPk hj
    clear hjj
    have lgv : gv < w.heap.size := (h2.lt gv rfl).2
    have ci : w.cell? ⟨gv, jj, none⟩ = some (.pointer (some ⟨PV jj, 0, none⟩)) := by
      rw [h2.cellAt jj (by omega)]
      simp [hj]
    have ciA := (bA.cell lgv).trans ci
    have ngv : ¬ gv = w.heap.size := by omega
    have hjI : (jj : Int) < nv := by omega
    have hnI : (nv : Int) ≤ 9223372036854775807 := by omega
    obtain ⟨rs, S, m, nn, r1, r2, r3, r4, r5⟩ := h4 jj hj
    have HV : Hid (∀ W, Bl w W → Calls Tryz.prog 15 #[.pointer (some ⟨bw, 0, none⟩), .agg (opR kd a b c q1 q2 q3 q4 la ln lc ua un uc (strOf ss) t1 t2 t3 va vn vc), .pointer (some ⟨PV jj, 0, none⟩)] W fun en w' => en = .returned (.bool true) ∧ (∃ tag' nb', (∀ b, b < w.heap.size → tag' b = tag b) ∧ Ps w' tag' bw nv nb' (K + 1) (T + ss.length) ∧ nb' ≤ nb + 2) ∧ Only (fun b => tag b ≠ 0) w w' ∧ w'.cell? ⟨bw, 1, none⟩ = some (.slice (some ⟨gv, 0, none⟩) nv bc) ∧ w'.cell? ⟨gv, jj, none⟩ = some (.pointer (some ⟨PV jj, 0, none⟩)) ∧ (w.heap.size < W.heap.size → w'.heap[w.heap.size]? = W.heap[w.heap.size]?)) := by
      intro W hW
      have OW : Only (fun _ => False) w W := Only.of_bl hW
      have oldW : ∀ b, b < w.heap.size → tagTo tag w.heap.size 1 b = tag b := fun b hb => tagTo_old _ _ _ _ hb
      have hBW := (h1.only (tag' := tagTo tag w.heap.size 1) OW (fun _ _ e => e.elim) oldW (Nat.le_refl _)).mono hW.lt
      have hOW := r1.only (tag' := tagTo tag w.heap.size 1) OW (fun _ _ e => e.elim) oldW
      refine (voted_any kd hkd bw jj (PV jj) (.slice none 0 0) (.slice (some ⟨gv, 0, none⟩) nv bc) nb m nn rs S _ a b c q1 q2 q3 q4 la ln lc ua un uc ss t1 t2 t3 va vn vc W hBW hOW (by omega) hnb (by omega) (by omega) (by omega) hb hc hss).mono ?_
      rintro en w' ⟨rfl, ⟨tag', rs', S', m', nn', nb', o1, k1, k2, k3, k4, k5, k6, k7⟩, O⟩
      have lW := hW.lt
      have old' : ∀ b, b < w.heap.size → tag' b = tag b := fun b hb => by rw [o1 b (by omega), oldW b hb]
      have hT6 : ∀ b, b < w.heap.size → tag b = 6 → ¬ (tagTo tag w.heap.size 1 b = 2 ∨ Mine jj (tagTo tag w.heap.size 1 b)) := fun b hb e e' => by
        rw [oldW b hb, e] at e'
        rcases e' with e' | e'
        · omega
        · exact (mine_zero jj 6 e').2.1 rfl
      have hrow : w'.ownsRow 0 51 1 (.slice (some ⟨gv, 0, none⟩) nv bc) nv ((List.range nv).map fun j => .pointer (some ⟨PV j, 0, none⟩)) := O.owns (OW.owns h2 fun _ _ e => e) fun b hb => hT6 b (h2.lt b hb).2 (h3 b hb)
      refine ⟨rfl, ⟨tag', nb', old', ⟨.slice (some ⟨gv, 0, none⟩) nv bc, PV, k1, hrow, fun b hb => by rw [old' b (h2.lt b hb).2]; exact h3 b hb, fun i hi => ?_⟩, k5⟩, ?_, k1.c1.1, ?_, fun hlt => O.block _ hlt (by rw [tagTo_new _ _ _ _ (Nat.le_refl _)]; rintro (e | e); exact absurd e (by decide); exact (mine_small jj).1 e)⟩
      · by_cases e : i = jj
        · subst e
          exact ⟨rs', S', m', nn', k2, by omega, by omega, by omega, by omega⟩
        · obtain ⟨rsi, Si, mi, ni, s1, s2, s3, s4, s5⟩ := h4 i hi
          refine ⟨rsi, Si, mi, ni, (s1.only (tag' := tagTo tag w.heap.size 1) OW (fun _ _ e => e.elim) oldW).only O (fun b _ e' => ?_) o1, by omega, by omega, by omega, by omega⟩
          rcases e' with e' | e'
          · rw [e']; exact (mine_small i).2.1
          · exact mine_ne jj i _ (Ne.symm e) e'
      · refine ⟨O.os.trans hW.os, O.tape.trans hW.tape, O.output.trans hW.output, by have := O.size; omega, fun x hx hn => ?_⟩
        rw [O.block x (by omega) fun e => hn ?_, hW.heap hx]
        rw [oldW x hx] at e
        rcases e with e | e
        · rw [e]; omega
        · exact (mine_zero jj _ e).1
      · rw [hrow.cellAt jj (by omega)]
        simp [hj]
    clear h1 h2 h3 h4 r1 r2 r3 r4 r5 c1 f1 ci
    unfold opR at HV cA ciA ⊢
    obtain ⟨p0, p1, p2, p3, p4, p5, p6, p7, p8, p9, p10, p11, p12, p13, p14⟩ := op_cells (heap_alloc_new w (.cells #[.int .i64 kd, .int .i64 a, .int .i64 b, .int .i64 c, .int .i64 q1, .int .i64 q2, .int .i64 q3, .int .i64 q4, .slice la ln lc, .slice ua un uc, .string (strOf ss), .int .i64 t1, .int .i64 t2, .int .i64 t3, .slice va vn vc] 44))
    rcases hkd with rfl | rfl | rfl | rfl
    · go_enter Tryz.func8, Tryz.ntmps8
      go_wp2_with fail
      go_region_held3 (fun W => W.cell? ⟨bw, 1, none⟩ = some (.slice (some ⟨gv, 0, none⟩) nv bc) ∧ W.cell? ⟨gv, jj, none⟩ = some (.pointer (some ⟨PV jj, 0, none⟩)) ∧ W.cell? ⟨w.heap.size, 0, none⟩ = some (.int .i64 10) ∧ W.cell? ⟨w.heap.size, 1, none⟩ = some (.int .i64 a) ∧ W.cell? ⟨w.heap.size, 2, none⟩ = some (.int .i64 b) ∧ W.cell? ⟨w.heap.size, 3, none⟩ = some (.int .i64 c) ∧ W.cell? ⟨w.heap.size, 4, none⟩ = some (.int .i64 q1) ∧ W.cell? ⟨w.heap.size, 5, none⟩ = some (.int .i64 q2) ∧ W.cell? ⟨w.heap.size, 6, none⟩ = some (.int .i64 q3) ∧ W.cell? ⟨w.heap.size, 7, none⟩ = some (.int .i64 q4) ∧ W.cell? ⟨w.heap.size, 8, none⟩ = some (.slice la ln lc) ∧ W.cell? ⟨w.heap.size, 9, none⟩ = some (.slice ua un uc) ∧ W.cell? ⟨w.heap.size, 10, none⟩ = some (.string (strOf ss)) ∧ W.cell? ⟨w.heap.size, 11, none⟩ = some (.int .i64 t1) ∧ W.cell? ⟨w.heap.size, 12, none⟩ = some (.int .i64 t2) ∧ W.cell? ⟨w.heap.size, 13, none⟩ = some (.int .i64 t3) ∧ W.cell? ⟨w.heap.size, 14, none⟩ = some (.slice va vn vc)) (go_keep)
        (first | (go_at_call 11; refine Calls.mono (HPk.out _) ?_; rintro en w' ⟨rfl, rfl⟩) | (go_at_call 15; refine Calls.mono (HV.out _ (by first | exact ((Bl.refl _).alloc _).drewN _ | exact ((Bl.refl _).alloc _).drew)) ?_; rintro en w1 ⟨rfl, hR, hO, e1, e2, e3⟩; obtain ⟨m0, m1, m2, m3, m4, m5, m6, m7, m8, m9, m10, m11, m12, m13, m14⟩ := op_cells ((e3 (by simp)).trans (heap_alloc_new w _)); have HR := hid (And.intro hR hO); clear hR hO e3))
      all_goals
        go_wp2
        go_ret
        exact ⟨rfl, HR.out.1, HR.out.2⟩
    · go_enter Tryz.func8, Tryz.ntmps8
      go_wp2_with fail
      go_region_held3 (fun W => W.cell? ⟨bw, 1, none⟩ = some (.slice (some ⟨gv, 0, none⟩) nv bc) ∧ W.cell? ⟨gv, jj, none⟩ = some (.pointer (some ⟨PV jj, 0, none⟩)) ∧ W.cell? ⟨w.heap.size, 0, none⟩ = some (.int .i64 11) ∧ W.cell? ⟨w.heap.size, 1, none⟩ = some (.int .i64 a) ∧ W.cell? ⟨w.heap.size, 2, none⟩ = some (.int .i64 b) ∧ W.cell? ⟨w.heap.size, 3, none⟩ = some (.int .i64 c) ∧ W.cell? ⟨w.heap.size, 4, none⟩ = some (.int .i64 q1) ∧ W.cell? ⟨w.heap.size, 5, none⟩ = some (.int .i64 q2) ∧ W.cell? ⟨w.heap.size, 6, none⟩ = some (.int .i64 q3) ∧ W.cell? ⟨w.heap.size, 7, none⟩ = some (.int .i64 q4) ∧ W.cell? ⟨w.heap.size, 8, none⟩ = some (.slice la ln lc) ∧ W.cell? ⟨w.heap.size, 9, none⟩ = some (.slice ua un uc) ∧ W.cell? ⟨w.heap.size, 10, none⟩ = some (.string (strOf ss)) ∧ W.cell? ⟨w.heap.size, 11, none⟩ = some (.int .i64 t1) ∧ W.cell? ⟨w.heap.size, 12, none⟩ = some (.int .i64 t2) ∧ W.cell? ⟨w.heap.size, 13, none⟩ = some (.int .i64 t3) ∧ W.cell? ⟨w.heap.size, 14, none⟩ = some (.slice va vn vc)) (go_keep)
        (first | (go_at_call 11; refine Calls.mono (HPk.out _) ?_; rintro en w' ⟨rfl, rfl⟩) | (go_at_call 15; refine Calls.mono (HV.out _ (by first | exact ((Bl.refl _).alloc _).drewN _ | exact ((Bl.refl _).alloc _).drew)) ?_; rintro en w1 ⟨rfl, hR, hO, e1, e2, e3⟩; obtain ⟨m0, m1, m2, m3, m4, m5, m6, m7, m8, m9, m10, m11, m12, m13, m14⟩ := op_cells ((e3 (by simp)).trans (heap_alloc_new w _)); have HR := hid (And.intro hR hO); clear hR hO e3))
      all_goals
        go_wp2
        go_ret
        exact ⟨rfl, HR.out.1, HR.out.2⟩
    · go_enter Tryz.func8, Tryz.ntmps8
      go_wp2_with fail
      go_region_held3 (fun W => W.cell? ⟨bw, 1, none⟩ = some (.slice (some ⟨gv, 0, none⟩) nv bc) ∧ W.cell? ⟨gv, jj, none⟩ = some (.pointer (some ⟨PV jj, 0, none⟩)) ∧ W.cell? ⟨w.heap.size, 0, none⟩ = some (.int .i64 12) ∧ W.cell? ⟨w.heap.size, 1, none⟩ = some (.int .i64 a) ∧ W.cell? ⟨w.heap.size, 2, none⟩ = some (.int .i64 b) ∧ W.cell? ⟨w.heap.size, 3, none⟩ = some (.int .i64 c) ∧ W.cell? ⟨w.heap.size, 4, none⟩ = some (.int .i64 q1) ∧ W.cell? ⟨w.heap.size, 5, none⟩ = some (.int .i64 q2) ∧ W.cell? ⟨w.heap.size, 6, none⟩ = some (.int .i64 q3) ∧ W.cell? ⟨w.heap.size, 7, none⟩ = some (.int .i64 q4) ∧ W.cell? ⟨w.heap.size, 8, none⟩ = some (.slice la ln lc) ∧ W.cell? ⟨w.heap.size, 9, none⟩ = some (.slice ua un uc) ∧ W.cell? ⟨w.heap.size, 10, none⟩ = some (.string (strOf ss)) ∧ W.cell? ⟨w.heap.size, 11, none⟩ = some (.int .i64 t1) ∧ W.cell? ⟨w.heap.size, 12, none⟩ = some (.int .i64 t2) ∧ W.cell? ⟨w.heap.size, 13, none⟩ = some (.int .i64 t3) ∧ W.cell? ⟨w.heap.size, 14, none⟩ = some (.slice va vn vc)) (go_keep)
        (first | (go_at_call 11; refine Calls.mono (HPk.out _) ?_; rintro en w' ⟨rfl, rfl⟩) | (go_at_call 15; refine Calls.mono (HV.out _ (by first | exact ((Bl.refl _).alloc _).drewN _ | exact ((Bl.refl _).alloc _).drew)) ?_; rintro en w1 ⟨rfl, hR, hO, e1, e2, e3⟩; obtain ⟨m0, m1, m2, m3, m4, m5, m6, m7, m8, m9, m10, m11, m12, m13, m14⟩ := op_cells ((e3 (by simp)).trans (heap_alloc_new w _)); have HR := hid (And.intro hR hO); clear hR hO e3))
      all_goals
        go_wp2
        go_ret
        exact ⟨rfl, HR.out.1, HR.out.2⟩
    · go_enter Tryz.func8, Tryz.ntmps8
      go_wp2_with fail
      go_region_held3 (fun W => W.cell? ⟨bw, 1, none⟩ = some (.slice (some ⟨gv, 0, none⟩) nv bc) ∧ W.cell? ⟨gv, jj, none⟩ = some (.pointer (some ⟨PV jj, 0, none⟩)) ∧ W.cell? ⟨w.heap.size, 0, none⟩ = some (.int .i64 14) ∧ W.cell? ⟨w.heap.size, 1, none⟩ = some (.int .i64 a) ∧ W.cell? ⟨w.heap.size, 2, none⟩ = some (.int .i64 b) ∧ W.cell? ⟨w.heap.size, 3, none⟩ = some (.int .i64 c) ∧ W.cell? ⟨w.heap.size, 4, none⟩ = some (.int .i64 q1) ∧ W.cell? ⟨w.heap.size, 5, none⟩ = some (.int .i64 q2) ∧ W.cell? ⟨w.heap.size, 6, none⟩ = some (.int .i64 q3) ∧ W.cell? ⟨w.heap.size, 7, none⟩ = some (.int .i64 q4) ∧ W.cell? ⟨w.heap.size, 8, none⟩ = some (.slice la ln lc) ∧ W.cell? ⟨w.heap.size, 9, none⟩ = some (.slice ua un uc) ∧ W.cell? ⟨w.heap.size, 10, none⟩ = some (.string (strOf ss)) ∧ W.cell? ⟨w.heap.size, 11, none⟩ = some (.int .i64 t1) ∧ W.cell? ⟨w.heap.size, 12, none⟩ = some (.int .i64 t2) ∧ W.cell? ⟨w.heap.size, 13, none⟩ = some (.int .i64 t3) ∧ W.cell? ⟨w.heap.size, 14, none⟩ = some (.slice va vn vc)) (go_keep)
        (first | (go_at_call 11; refine Calls.mono (HPk.out _) ?_; rintro en w' ⟨rfl, rfl⟩) | (go_at_call 15; refine Calls.mono (HV.out _ (by first | exact ((Bl.refl _).alloc _).drewN _ | exact ((Bl.refl _).alloc _).drew)) ?_; rintro en w1 ⟨rfl, hR, hO, e1, e2, e3⟩; obtain ⟨m0, m1, m2, m3, m4, m5, m6, m7, m8, m9, m10, m11, m12, m13, m14⟩ := op_cells ((e3 (by simp)).trans (heap_alloc_new w _)); have HR := hid (And.intro hR hO); clear hR hO e3))
      all_goals
        go_wp2
        go_ret
        exact ⟨rfl, HR.out.1, HR.out.2⟩
end Go.Proofs.YtkgjpfamjedncaaGreat
