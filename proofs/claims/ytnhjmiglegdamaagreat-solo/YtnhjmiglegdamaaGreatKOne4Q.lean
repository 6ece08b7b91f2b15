-- May a call have ended so, by itself?
import Derived.Test.YtnhjmiglegdamaaGreatKGlue1KGlue2KOne0Q
namespace Go.Proofs.YtnhjmiglegdamaaGreat
open Go.RowKit Go.Maps
attribute [local go_sem ↓] Go.wp_at_zero Go.wp_at_succ
section
set_option maxRecDepth 100000 in
set_option maxHeartbeats 4000000 in
/-- A read, a fill or a trim. -/
theorem fits_any (w : World) (g : Nat) (i kd po be fi wh : Int) (vs : ByteArray) (ta : Option Addr) (tn tc : Nat) (ra : Option Addr) (rn rc : Nat) (hk : (kd = 2 ∧ (wh = 8 ∨ wh = 9 ∨ wh = 3 ∨ wh = 4)) ∨ (kd = 3 ∧ (wh = 8 ∨ wh = 9 ∨ wh = 4)) ∨ (kd = 4 ∧ wh = 1)) (hr : rn = 0 ∨ wh = 8) :
    Calls Tryz.prog 59 #[.pointer (some ⟨g, 0, none⟩), callV i kd po vs ta tn tc be fi wh 0 ra rn rc] w fun en w' => en = .returned (.bool true) ∧ Bl w w' := by
  have hB := ((Bl.refl w).alloc (.cells #[.int .i64 0, .int .i64 i, .int .i64 kd, .int .i64 po, .string vs, .slice ta tn tc, .int .i64 be, .int .i64 fi, .int .i64 wh, .int .i64 0, .slice ra rn rc] 60)).alloc (.cells #[.int .i64 wh, .int .i64 0, .slice ra rn rc] 43)
  by_cases h0 : rn = 0
  · subst h0
    rcases hk with ⟨rfl, hk⟩ | ⟨rfl, hk⟩ | ⟨rfl, rfl⟩
    · rcases hk with rfl | rfl | rfl | rfl
      all_goals
        go_enter Tryz.func59, Tryz.ntmps59
        go_wp2
        go_ret
        exact ⟨rfl, hB⟩
    · rcases hk with rfl | rfl | rfl
      all_goals
        go_enter Tryz.func59, Tryz.ntmps59
        go_wp2
        go_ret
        exact ⟨rfl, hB⟩
    · go_enter Tryz.func59, Tryz.ntmps59
      go_wp2
      go_ret
      exact ⟨rfl, hB⟩
  · have h8 := hr.resolve_left h0
    subst h8
    have h0I : ¬ ((rn : Int) = 0) := by omega
    rcases hk with ⟨rfl, _⟩ | ⟨rfl, _⟩ | ⟨_, hk⟩
    · go_enter Tryz.func59, Tryz.ntmps59
      go_wp2
      go_ret
      exact ⟨rfl, hB⟩
    · go_enter Tryz.func59, Tryz.ntmps59
      go_wp2
      go_ret
      exact ⟨rfl, hB⟩
    · omega
end
theorem two1 (w : World) (X Y : Obj) : ((w.alloc X).alloc Y).heap[w.heap.size + 1]? = some Y := by
  have h := heap_alloc_new (w.alloc X) Y
  rw [show (w.alloc X).heap.size = w.heap.size + 1 by simp] at h
  exact h
theorem two0 (w : World) (X Y : Obj) : ((w.alloc X).alloc Y).heap[w.heap.size]? = some X := by
  rw [heap_alloc_old _ _ (show w.heap.size < _ by simp)]
  exact heap_alloc_new w X
section
variable {w : World} {tag : Nat → Nat} {g p q n m v : Nat} {ce : Int} {K : KW} {pv av lv cv hv : Value} {ps cs ls : List Value}
set_option maxRecDepth 100000 in
set_option maxHeartbeats 2000000 in
theorem total_q (h : WdX w tag g p q n m v ce K pv av lv cv hv ps cs ls) (hf : fit n m v ce = true) :
    Calls Tryz.prog 27 #[.pointer (some ⟨g, 0, none⟩)] w fun en w' => en = .returned (.int .i64 (n * ce)) ∧ ∃ k, w' = w.drewN k := by
  obtain ⟨f1, f2, f3, f4⟩ := fit_bd hf
  have c0 := h.cellAt 0 rfl
  have c3 := h.cellAt 3 rfl
  have lg := h.lt
  have hm := mul_bd f1 f2 f3 f4
  have hw : IntKind.i64.wrap ((n : Int) * ce) = n * ce := by rw [IntKind.wrap_i64]; omega
  clear h
  go_enter Tryz.func27, Tryz.ntmps27
  go_wp2_with fail
  go_quiet (fail)
  go_wp2
  go_ret
  exact ⟨rfl, _, rfl⟩
set_option maxRecDepth 100000 in
set_option maxHeartbeats 4000000 in
/-- An append that is done, or that was told that all is full. -/
theorem fitsA_any (h : WdX w tag g p q n m v ce K pv av lv cv hv ps cs ls) (hf : fit n m v ce = true) (i po be fi wh ad : Int) (vs : ByteArray) (ta : Option Addr) (tc : Nat) (tk : List Int) (ra : Option Addr) (rc : Nat) (htk : w.ownsRow 0 3 1 (.slice ta tk.length tc) tk.length (tk.map (Value.int .i64))) (hl : tk.length ≤ 1000)
    (hk : (wh = 1 ∧ ad ∈ tk ∧ 0 ≤ ad ∧ ad < n * ce) ∨ (wh = 7 ∧ ad = 0 ∧ ∃ t ∈ tk, n * ce ≤ t)) :
    Calls Tryz.prog 59 #[.pointer (some ⟨g, 0, none⟩), callV i 1 po vs ta tk.length tc be fi wh ad ra 0 rc] w fun en w' => en = .returned (.bool true) ∧ Bl w w' := by
  have hB := ((Bl.refl w).alloc (.cells #[.int .i64 0, .int .i64 i, .int .i64 1, .int .i64 po, .string vs, .slice ta tk.length tc, .int .i64 be, .int .i64 fi, .int .i64 wh, .int .i64 ad, .slice ra 0 rc] 60)).alloc (.cells #[.int .i64 wh, .int .i64 ad, .slice ra 0 rc] 43)
  obtain ⟨W2, hW2⟩ : ∃ W2, (w.alloc (.cells #[.int .i64 0, .int .i64 i, .int .i64 1, .int .i64 po, .string vs, .slice ta tk.length tc, .int .i64 be, .int .i64 fi, .int .i64 wh, .int .i64 ad, .slice ra 0 rc] 60)).alloc (.cells #[.int .i64 wh, .int .i64 ad, .slice ra 0 rc] 43) = W2 := ⟨_, rfl⟩
  have hb1 := two0 w (.cells #[.int .i64 0, .int .i64 i, .int .i64 1, .int .i64 po, .string vs, .slice ta tk.length tc, .int .i64 be, .int .i64 fi, .int .i64 wh, .int .i64 ad, .slice ra 0 rc] 60) (.cells #[.int .i64 wh, .int .i64 ad, .slice ra 0 rc] 43)
  have hb2 := two1 w (.cells #[.int .i64 0, .int .i64 i, .int .i64 1, .int .i64 po, .string vs, .slice ta tk.length tc, .int .i64 be, .int .i64 fi, .int .i64 wh, .int .i64 ad, .slice ra 0 rc] 60) (.cells #[.int .i64 wh, .int .i64 ad, .slice ra 0 rc] 43)
  rw [hW2] at hB hb1 hb2
  have H := hid (And.intro h hf)
  have HW2 := hid hW2
  have HT := hid ((Only.of_bl (S := fun _ => False) hB).owns htk fun _ _ e => e)
  have HB2 := hid hB
  have Hb1 := hid hb1
  have Hb2 := hid hb2
  have Hk := hid hk
  have hwk : Hid (wh = 1 ∨ wh = 7 ∧ ad = 0) := by rcases hk with hk | hk; exact .inl hk.1; exact .inr ⟨hk.1, hk.2.1⟩
  obtain ⟨f1, f2, f3, f4⟩ := fit_bd hf
  have hm := mul_bd f1 f2 f3 f4
  obtain ⟨T, hT⟩ : ∃ T : Int, n * ce = T := ⟨_, rfl⟩
  rw [hT] at hm
  have HTT := hid hT
  clear h hf hW2 htk hB hb1 hb2 hk f1 f2 f3 f4 hT
  go_enter Tryz.func59, Tryz.ntmps59
  go_upto_region 2 with fail
  rw [HW2.out]
  clear HW2
  have lb1 : w.heap.size < W2.heap.size := (Array.getElem?_eq_some_iff.1 Hb1.out).1
  have lb2 : w.heap.size + 1 < W2.heap.size := (Array.getElem?_eq_some_iff.1 Hb2.out).1
  have x2 : W2.cell? ⟨w.heap.size, 2, none⟩ = some (.int .i64 1) := cell_of_row W2 _ 2 _ 60 (0, 0) Hb1.out
  have y0 : W2.cell? ⟨w.heap.size + 1, 0, none⟩ = some (.int .i64 wh) := cell_of_row W2 _ 0 _ 43 (0, 0) Hb2.out
  have y1 : W2.cell? ⟨w.heap.size + 1, 1, none⟩ = some (.int .i64 ad) := cell_of_row W2 _ 1 _ 43 (0, 0) Hb2.out
  have y2 : W2.cell? ⟨w.heap.size + 1, 2, none⟩ = some (.slice ra 0 rc) := cell_of_row W2 _ 2 _ 43 (0, 0) Hb2.out
  by_cases ha0 : ad = 0
  · subst ha0
    by_cases hw1 : wh = 1
    · subst hw1
      go_upto_region 9 with fail
      clear x2 y2
      obtain ⟨ad, had00⟩ : ∃ ad : Int, (0 : Int) = ad := ⟨_, rfl⟩
      have Had : Hid (0 ≤ ad) := by unfold Hid; omega
      rw [had00] at y1 Hk
      clear had00
      go_loopw [6, 7, 8] (fun bo bi x wx => ∃ (t : Nat) (b1 b2 : Bool), t ≤ tk.length ∧ bo = .bool b1 ∧ bi = .bool b2 ∧ x = .int .i64 t ∧ Hid (Bl W2 wx) ∧ Hid ((∃ s ∈ tk.take t, T ≤ s) → b1 = true) ∧ Hid (ad ∈ tk.take t → b2 = true)) (fun _ _ x _ => tk.length - (Go.RowKit.intOf x).toNat)
      case atStart => exact ⟨0, false, false, Nat.zero_le _, rfl, rfl, rfl, Bl.refl _, (fun e => by obtain ⟨s, e, _⟩ := e; simp at e), (fun e => by simp at e)⟩
      case round =>
        obtain ⟨t, b1, b2, ht, rfl, rfl, rfl, HB, Hb, Hc⟩ := hrel
        have bw := HB2.out.trans HB.out
        have z5 : wr.cell? ⟨w.heap.size, 5, none⟩ = some (.slice ta tk.length tc) := (HB.out.cell (o := 5) lb1).trans (cell_of_row W2 _ 5 _ 60 (0, 0) Hb1.out)
        have lw1 := Nat.lt_of_lt_of_le lb1 HB.out.lt
        have lw2 := Nat.lt_of_lt_of_le lb2 HB.out.lt
        have z0 := (HB.out.cell (o := 0) lb2).trans y0
        have z1 := (HB.out.cell (o := 1) lb2).trans y1
        have hX := hid (H.out.1.bl (tag' := tag) bw fun _ _ => rfl)
        have Hw := hid bw
        clear bw
        by_cases htl : t < tk.length
        · have htI : (t : Int) < (tk.length : Int) := by omega
          have HTw := hid ((Only.of_bl (S := fun _ => False) HB.out).owns HT.out fun _ _ e => e)
          obtain ⟨gt, capt, curt, eqt, _, hgt, _⟩ := HTw.out.2.resolve_left (fun e => by omega)
          simp only [Value.slice.injEq, true_and] at eqt
          obtain ⟨rfl, rfl⟩ := eqt
          have lgt : gt < wr.heap.size := (Array.getElem?_eq_some_iff.1 hgt).1
          have q0 := (HTw.out.cellAt t (by omega)).trans (show (tk.map (Value.int .i64))[t]? = some (.int .i64 tk[t]) by rw [List.getElem?_map, List.getElem?_eq_getElem htl]; rfl)
          have htk : Hid (tk.take (t + 1) = tk.take t ++ [tk[t]]) := by unfold Hid; rw [List.take_add_one, List.getElem?_eq_getElem htl]; rfl
          generalize tk[t] = tt at *
          clear hgt
          have hend : Hid (∀ (e1 e2 : Bool) (W : World), Bl wr W → ((T ≤ tt ∨ b1 = true) → e1 = true) → ((tt = ad ∨ b2 = true) → e2 = true) → Hid (Bl W2 W) ∧ Hid ((∃ s ∈ tk.take (t + 1), T ≤ s) → e1 = true) ∧ Hid (ad ∈ tk.take (t + 1) → e2 = true)) := by
            intro e1 e2 W hW h1 h2
            refine ⟨HB.out.trans hW, ?_, ?_⟩
            · unfold Hid
              rw [htk.out]
              rintro ⟨s, e, es⟩
              rw [List.mem_append] at e
              rcases e with e | e
              · exact h1 (.inr (Hb.out ⟨s, e, es⟩))
              · simp at e; subst e; exact h1 (.inl es)
            · unfold Hid
              rw [htk.out, List.mem_append]
              rintro (e | e)
              · exact h2 (.inr (Hc.out e))
              · simp at e; exact h2 (.inl e.symm)
          clear htk
          have hdn : (tt = ad ∨ b2 = true) ∨ (¬ tt = ad ∧ b2 = false) := by cases b2 <;> by_cases e : tt = ad <;> simp [e]
          go_upto_region 12 with fail
          by_cases hsk : b1 = true ∨ tt < 0
          · have hsk2 : Hid (∀ e2 W, Bl wr W → ((tt = ad ∨ b2 = true) → e2 = true) → Hid (Bl W2 W) ∧ Hid ((∃ s ∈ tk.take (t + 1), T ≤ s) → true = true) ∧ Hid (ad ∈ tk.take (t + 1) → e2 = true)) := fun e2 W hW h2 => hend.out true e2 W hW (fun _ => rfl) h2
            clear hend
            cases b1
            · have htn : tt < 0 := by simpa using hsk
              cases b2
              · by_cases hte : tt = ad
                · subst hte
                  go_wp2
                  exact ⟨⟨t + 1, true, true, by omega, rfl, rfl, by go_num, hsk2.out true _ (Bl.refl _) (fun _ => rfl)⟩, by simp [Go.RowKit.intOf]; omega⟩
                · go_wp2
                  exact ⟨⟨t + 1, true, false, by omega, rfl, by first | rfl | simp [hte], by go_num, hsk2.out false _ (Bl.refl _) (fun e => e.elim (fun e => absurd e hte) (fun e => e))⟩, by simp [Go.RowKit.intOf]; omega⟩
              · go_wp2
                exact ⟨⟨t + 1, true, true, by omega, rfl, rfl, by go_num, hsk2.out true _ (Bl.refl _) (fun _ => rfl)⟩, by simp [Go.RowKit.intOf]; omega⟩
            · clear hsk
              cases b2
              · by_cases hte : tt = ad
                · subst hte
                  go_wp2
                  exact ⟨⟨t + 1, true, true, by omega, rfl, rfl, by go_num, hsk2.out true _ (Bl.refl _) (fun _ => rfl)⟩, by simp [Go.RowKit.intOf]; omega⟩
                · go_wp2
                  exact ⟨⟨t + 1, true, false, by omega, rfl, by first | rfl | simp [hte], by go_num, hsk2.out false _ (Bl.refl _) (fun e => e.elim (fun e => absurd e hte) (fun e => e))⟩, by simp [Go.RowKit.intOf]; omega⟩
              · go_wp2
                exact ⟨⟨t + 1, true, true, by omega, rfl, rfl, by go_num, hsk2.out true _ (Bl.refl _) (fun _ => rfl)⟩, by simp [Go.RowKit.intOf]; omega⟩
          · have hb1f : b1 = false := by cases b1; rfl; exact absurd (.inl rfl) hsk
            subst hb1f
            have htn : ¬ tt < 0 := fun e => hsk (.inr e)
            clear hsk
            go_wp2_with fail
            refine (total_any hX.out H.out.2).mono ?_
            rintro en W' ⟨rfl, hW'⟩
            rw [HTT.out]
            have v1 := (hW'.cell (o := 1) lw2).trans z1
            have l2' := Nat.lt_of_lt_of_le lw2 hW'.lt
            have HW' := hid hW'
            clear hW'
            cases b2
            · by_cases hte : tt = ad
              · subst hte
                by_cases hge : T ≤ tt
                · go_wp2
                  exact ⟨⟨t + 1, true, true, by omega, by first | rfl | simp [hge], rfl, by go_num, hend.out true true _ HW'.out (fun _ => rfl) (fun _ => rfl)⟩, by simp [Go.RowKit.intOf]; omega⟩
                · go_wp2
                  exact ⟨⟨t + 1, false, true, by omega, by first | rfl | simp [hge], rfl, by go_num, hend.out false true _ HW'.out (fun e => e.elim (fun e => absurd e (by omega)) (fun e => e)) (fun _ => rfl)⟩, by simp [Go.RowKit.intOf]; omega⟩
              · by_cases hge : T ≤ tt
                · go_wp2
                  exact ⟨⟨t + 1, true, false, by omega, by first | rfl | simp [hge], by first | rfl | simp [hte], by go_num, hend.out true false _ HW'.out (fun _ => rfl) (fun e => e.elim (fun e => absurd e hte) (fun e => e))⟩, by simp [Go.RowKit.intOf]; omega⟩
                · go_wp2
                  exact ⟨⟨t + 1, false, false, by omega, by first | rfl | simp [hge], by first | rfl | simp [hte], by go_num, hend.out false false _ HW'.out (fun e => e.elim (fun e => absurd e (by omega)) (fun e => e)) (fun e => e.elim (fun e => absurd e hte) (fun e => e))⟩, by simp [Go.RowKit.intOf]; omega⟩
            · by_cases hge : T ≤ tt
              · go_wp2
                exact ⟨⟨t + 1, true, true, by omega, by first | rfl | simp [hge], rfl, by go_num, hend.out true true _ HW'.out (fun _ => rfl) (fun _ => rfl)⟩, by simp [Go.RowKit.intOf]; omega⟩
              · go_wp2
                exact ⟨⟨t + 1, false, true, by omega, by first | rfl | simp [hge], rfl, by go_num, hend.out false true _ HW'.out (fun e => e.elim (fun e => absurd e (by omega)) (fun e => e)) (fun _ => rfl)⟩, by simp [Go.RowKit.intOf]; omega⟩
        · have htge : ¬ ((t : Int) < (tk.length : Int)) := by omega
          have hall : tk.take t = tk := List.take_of_length_le (by omega)
          have hb2 : b2 = true := Hc.out (by rw [hall]; rcases Hk.out with e | e; exact e.2.1; exact absurd e.1 (by decide))
          have had : 0 ≤ ad ∧ ad < T := ⟨Had.out, by rw [← HTT.out]; rcases Hk.out with e | e; exact e.2.2.2; exact absurd e.1 (by decide)⟩
          obtain ⟨had0, had1⟩ := had
          have HQ : Hid (∀ nq, Calls Tryz.prog 27 #[.pointer (some ⟨g, 0, none⟩)] (wr.drewN nq) fun en w' => en = .returned (.int .i64 T) ∧ ∃ k, w' = (wr.drewN nq).drewN k) := fun nq => by rw [← HTT.out]; exact total_q (hX.out.bl (tag' := tag) ((Bl.refl _).drewN _) fun _ _ => rfl) H.out.2
          subst hb2
          go_upto_region 14 with fail
          go_quiet ((go_at_call 27; exact Calls.quiet_of (HQ.out _)))
          go_wp2
          go_ret
          exact ⟨rfl, Hw.out.drewN _⟩
    · have hw7 := (hwk.out.resolve_left hw1).1
      subst hw7
      clear hw1
      go_upto_region 9 with fail
      clear x2 y2
      obtain ⟨ad, had00⟩ : ∃ ad : Int, (0 : Int) = ad := ⟨_, rfl⟩
      have Had : Hid (0 ≤ ad) := by unfold Hid; omega
      rw [had00] at y1 Hk
      clear had00
      go_loopw [6, 7, 8] (fun bo bi x wx => ∃ (t : Nat) (b1 b2 : Bool), t ≤ tk.length ∧ bo = .bool b1 ∧ bi = .bool b2 ∧ x = .int .i64 t ∧ Hid (Bl W2 wx) ∧ Hid ((∃ s ∈ tk.take t, T ≤ s) → b1 = true) ∧ Hid (ad ∈ tk.take t → b2 = true)) (fun _ _ x _ => tk.length - (Go.RowKit.intOf x).toNat)
      case atStart => exact ⟨0, false, false, Nat.zero_le _, rfl, rfl, rfl, Bl.refl _, (fun e => by obtain ⟨s, e, _⟩ := e; simp at e), (fun e => by simp at e)⟩
      case round =>
        obtain ⟨t, b1, b2, ht, rfl, rfl, rfl, HB, Hb, Hc⟩ := hrel
        have bw := HB2.out.trans HB.out
        have z5 : wr.cell? ⟨w.heap.size, 5, none⟩ = some (.slice ta tk.length tc) := (HB.out.cell (o := 5) lb1).trans (cell_of_row W2 _ 5 _ 60 (0, 0) Hb1.out)
        have lw1 := Nat.lt_of_lt_of_le lb1 HB.out.lt
        have lw2 := Nat.lt_of_lt_of_le lb2 HB.out.lt
        have z0 := (HB.out.cell (o := 0) lb2).trans y0
        have z1 := (HB.out.cell (o := 1) lb2).trans y1
        have hX := hid (H.out.1.bl (tag' := tag) bw fun _ _ => rfl)
        have Hw := hid bw
        clear bw
        by_cases htl : t < tk.length
        · have htI : (t : Int) < (tk.length : Int) := by omega
          have HTw := hid ((Only.of_bl (S := fun _ => False) HB.out).owns HT.out fun _ _ e => e)
          obtain ⟨gt, capt, curt, eqt, _, hgt, _⟩ := HTw.out.2.resolve_left (fun e => by omega)
          simp only [Value.slice.injEq, true_and] at eqt
          obtain ⟨rfl, rfl⟩ := eqt
          have lgt : gt < wr.heap.size := (Array.getElem?_eq_some_iff.1 hgt).1
          have q0 := (HTw.out.cellAt t (by omega)).trans (show (tk.map (Value.int .i64))[t]? = some (.int .i64 tk[t]) by rw [List.getElem?_map, List.getElem?_eq_getElem htl]; rfl)
          have htk : Hid (tk.take (t + 1) = tk.take t ++ [tk[t]]) := by unfold Hid; rw [List.take_add_one, List.getElem?_eq_getElem htl]; rfl
          generalize tk[t] = tt at *
          clear hgt
          have hend : Hid (∀ (e1 e2 : Bool) (W : World), Bl wr W → ((T ≤ tt ∨ b1 = true) → e1 = true) → ((tt = ad ∨ b2 = true) → e2 = true) → Hid (Bl W2 W) ∧ Hid ((∃ s ∈ tk.take (t + 1), T ≤ s) → e1 = true) ∧ Hid (ad ∈ tk.take (t + 1) → e2 = true)) := by
            intro e1 e2 W hW h1 h2
            refine ⟨HB.out.trans hW, ?_, ?_⟩
            · unfold Hid
              rw [htk.out]
              rintro ⟨s, e, es⟩
              rw [List.mem_append] at e
              rcases e with e | e
              · exact h1 (.inr (Hb.out ⟨s, e, es⟩))
              · simp at e; subst e; exact h1 (.inl es)
            · unfold Hid
              rw [htk.out, List.mem_append]
              rintro (e | e)
              · exact h2 (.inr (Hc.out e))
              · simp at e; exact h2 (.inl e.symm)
          clear htk
          have hdn : (tt = ad ∨ b2 = true) ∨ (¬ tt = ad ∧ b2 = false) := by cases b2 <;> by_cases e : tt = ad <;> simp [e]
          go_upto_region 12 with fail
          by_cases hsk : b1 = true ∨ tt < 0
          · have hsk2 : Hid (∀ e2 W, Bl wr W → ((tt = ad ∨ b2 = true) → e2 = true) → Hid (Bl W2 W) ∧ Hid ((∃ s ∈ tk.take (t + 1), T ≤ s) → true = true) ∧ Hid (ad ∈ tk.take (t + 1) → e2 = true)) := fun e2 W hW h2 => hend.out true e2 W hW (fun _ => rfl) h2
            clear hend
            cases b1
            · have htn : tt < 0 := by simpa using hsk
              cases b2
              · by_cases hte : tt = ad
                · subst hte
                  go_wp2
                  exact ⟨⟨t + 1, true, true, by omega, rfl, rfl, by go_num, hsk2.out true _ (Bl.refl _) (fun _ => rfl)⟩, by simp [Go.RowKit.intOf]; omega⟩
                · go_wp2
                  exact ⟨⟨t + 1, true, false, by omega, rfl, by first | rfl | simp [hte], by go_num, hsk2.out false _ (Bl.refl _) (fun e => e.elim (fun e => absurd e hte) (fun e => e))⟩, by simp [Go.RowKit.intOf]; omega⟩
              · go_wp2
                exact ⟨⟨t + 1, true, true, by omega, rfl, rfl, by go_num, hsk2.out true _ (Bl.refl _) (fun _ => rfl)⟩, by simp [Go.RowKit.intOf]; omega⟩
            · clear hsk
              cases b2
              · by_cases hte : tt = ad
                · subst hte
                  go_wp2
                  exact ⟨⟨t + 1, true, true, by omega, rfl, rfl, by go_num, hsk2.out true _ (Bl.refl _) (fun _ => rfl)⟩, by simp [Go.RowKit.intOf]; omega⟩
                · go_wp2
                  exact ⟨⟨t + 1, true, false, by omega, rfl, by first | rfl | simp [hte], by go_num, hsk2.out false _ (Bl.refl _) (fun e => e.elim (fun e => absurd e hte) (fun e => e))⟩, by simp [Go.RowKit.intOf]; omega⟩
              · go_wp2
                exact ⟨⟨t + 1, true, true, by omega, rfl, rfl, by go_num, hsk2.out true _ (Bl.refl _) (fun _ => rfl)⟩, by simp [Go.RowKit.intOf]; omega⟩
          · have hb1f : b1 = false := by cases b1; rfl; exact absurd (.inl rfl) hsk
            subst hb1f
            have htn : ¬ tt < 0 := fun e => hsk (.inr e)
            clear hsk
            go_wp2_with fail
            refine (total_any hX.out H.out.2).mono ?_
            rintro en W' ⟨rfl, hW'⟩
            rw [HTT.out]
            have v1 := (hW'.cell (o := 1) lw2).trans z1
            have l2' := Nat.lt_of_lt_of_le lw2 hW'.lt
            have HW' := hid hW'
            clear hW'
            cases b2
            · by_cases hte : tt = ad
              · subst hte
                by_cases hge : T ≤ tt
                · go_wp2
                  exact ⟨⟨t + 1, true, true, by omega, by first | rfl | simp [hge], rfl, by go_num, hend.out true true _ HW'.out (fun _ => rfl) (fun _ => rfl)⟩, by simp [Go.RowKit.intOf]; omega⟩
                · go_wp2
                  exact ⟨⟨t + 1, false, true, by omega, by first | rfl | simp [hge], rfl, by go_num, hend.out false true _ HW'.out (fun e => e.elim (fun e => absurd e (by omega)) (fun e => e)) (fun _ => rfl)⟩, by simp [Go.RowKit.intOf]; omega⟩
              · by_cases hge : T ≤ tt
                · go_wp2
                  exact ⟨⟨t + 1, true, false, by omega, by first | rfl | simp [hge], by first | rfl | simp [hte], by go_num, hend.out true false _ HW'.out (fun _ => rfl) (fun e => e.elim (fun e => absurd e hte) (fun e => e))⟩, by simp [Go.RowKit.intOf]; omega⟩
                · go_wp2
                  exact ⟨⟨t + 1, false, false, by omega, by first | rfl | simp [hge], by first | rfl | simp [hte], by go_num, hend.out false false _ HW'.out (fun e => e.elim (fun e => absurd e (by omega)) (fun e => e)) (fun e => e.elim (fun e => absurd e hte) (fun e => e))⟩, by simp [Go.RowKit.intOf]; omega⟩
            · by_cases hge : T ≤ tt
              · go_wp2
                exact ⟨⟨t + 1, true, true, by omega, by first | rfl | simp [hge], rfl, by go_num, hend.out true true _ HW'.out (fun _ => rfl) (fun _ => rfl)⟩, by simp [Go.RowKit.intOf]; omega⟩
              · go_wp2
                exact ⟨⟨t + 1, false, true, by omega, by first | rfl | simp [hge], rfl, by go_num, hend.out false true _ HW'.out (fun e => e.elim (fun e => absurd e (by omega)) (fun e => e)) (fun _ => rfl)⟩, by simp [Go.RowKit.intOf]; omega⟩
        · have htge : ¬ ((t : Int) < (tk.length : Int)) := by omega
          have hall : tk.take t = tk := List.take_of_length_le (by omega)
          have hb1 : b1 = true := Hb.out (by rw [hall, ← HTT.out]; rcases Hk.out with e | e; exact absurd e.1 (by decide); exact e.2.2)
          subst hb1
          go_upto_region 14 with fail
          go_quiet (fail)
          go_wp2
          go_ret
          exact ⟨rfl, Hw.out.drewN _⟩
  · have hw1 : wh = 1 := hwk.out.resolve_right (fun e => ha0 e.2)
    subst hw1
    go_upto_region 9 with fail
    clear x2 y2
    go_loopw [6, 7, 8] (fun bo bi x wx => ∃ (t : Nat) (b1 b2 : Bool), t ≤ tk.length ∧ bo = .bool b1 ∧ bi = .bool b2 ∧ x = .int .i64 t ∧ Hid (Bl W2 wx) ∧ Hid ((∃ s ∈ tk.take t, T ≤ s) → b1 = true) ∧ Hid (ad ∈ tk.take t → b2 = true)) (fun _ _ x _ => tk.length - (Go.RowKit.intOf x).toNat)
    case atStart => exact ⟨0, false, false, Nat.zero_le _, rfl, rfl, rfl, Bl.refl _, (fun e => by obtain ⟨s, e, _⟩ := e; simp at e), (fun e => by simp at e)⟩
    case round =>
      obtain ⟨t, b1, b2, ht, rfl, rfl, rfl, HB, Hb, Hc⟩ := hrel
      have bw := HB2.out.trans HB.out
      have z5 : wr.cell? ⟨w.heap.size, 5, none⟩ = some (.slice ta tk.length tc) := (HB.out.cell (o := 5) lb1).trans (cell_of_row W2 _ 5 _ 60 (0, 0) Hb1.out)
      have lw1 := Nat.lt_of_lt_of_le lb1 HB.out.lt
      have lw2 := Nat.lt_of_lt_of_le lb2 HB.out.lt
      have z0 := (HB.out.cell (o := 0) lb2).trans y0
      have z1 := (HB.out.cell (o := 1) lb2).trans y1
      have hX := hid (H.out.1.bl (tag' := tag) bw fun _ _ => rfl)
      have Hw := hid bw
      clear bw
      by_cases htl : t < tk.length
      · have htI : (t : Int) < (tk.length : Int) := by omega
        have HTw := hid ((Only.of_bl (S := fun _ => False) HB.out).owns HT.out fun _ _ e => e)
        obtain ⟨gt, capt, curt, eqt, _, hgt, _⟩ := HTw.out.2.resolve_left (fun e => by omega)
        simp only [Value.slice.injEq, true_and] at eqt
        obtain ⟨rfl, rfl⟩ := eqt
        have lgt : gt < wr.heap.size := (Array.getElem?_eq_some_iff.1 hgt).1
        have q0 := (HTw.out.cellAt t (by omega)).trans (show (tk.map (Value.int .i64))[t]? = some (.int .i64 tk[t]) by rw [List.getElem?_map, List.getElem?_eq_getElem htl]; rfl)
        have htk : Hid (tk.take (t + 1) = tk.take t ++ [tk[t]]) := by unfold Hid; rw [List.take_add_one, List.getElem?_eq_getElem htl]; rfl
        generalize tk[t] = tt at *
        clear hgt
        have hend : Hid (∀ (e1 e2 : Bool) (W : World), Bl wr W → ((T ≤ tt ∨ b1 = true) → e1 = true) → ((tt = ad ∨ b2 = true) → e2 = true) → Hid (Bl W2 W) ∧ Hid ((∃ s ∈ tk.take (t + 1), T ≤ s) → e1 = true) ∧ Hid (ad ∈ tk.take (t + 1) → e2 = true)) := by
          intro e1 e2 W hW h1 h2
          refine ⟨HB.out.trans hW, ?_, ?_⟩
          · unfold Hid
            rw [htk.out]
            rintro ⟨s, e, es⟩
            rw [List.mem_append] at e
            rcases e with e | e
            · exact h1 (.inr (Hb.out ⟨s, e, es⟩))
            · simp at e; subst e; exact h1 (.inl es)
          · unfold Hid
            rw [htk.out, List.mem_append]
            rintro (e | e)
            · exact h2 (.inr (Hc.out e))
            · simp at e; exact h2 (.inl e.symm)
        clear htk
        have hdn : (tt = ad ∨ b2 = true) ∨ (¬ tt = ad ∧ b2 = false) := by cases b2 <;> by_cases e : tt = ad <;> simp [e]
        go_upto_region 12 with fail
        by_cases hsk : b1 = true ∨ tt < 0
        · have hsk2 : Hid (∀ e2 W, Bl wr W → ((tt = ad ∨ b2 = true) → e2 = true) → Hid (Bl W2 W) ∧ Hid ((∃ s ∈ tk.take (t + 1), T ≤ s) → true = true) ∧ Hid (ad ∈ tk.take (t + 1) → e2 = true)) := fun e2 W hW h2 => hend.out true e2 W hW (fun _ => rfl) h2
          clear hend
          cases b1
          · have htn : tt < 0 := by simpa using hsk
            cases b2
            · by_cases hte : tt = ad
              · subst hte
                go_wp2
                exact ⟨⟨t + 1, true, true, by omega, rfl, rfl, by go_num, hsk2.out true _ (Bl.refl _) (fun _ => rfl)⟩, by simp [Go.RowKit.intOf]; omega⟩
              · go_wp2
                exact ⟨⟨t + 1, true, false, by omega, rfl, by first | rfl | simp [hte], by go_num, hsk2.out false _ (Bl.refl _) (fun e => e.elim (fun e => absurd e hte) (fun e => e))⟩, by simp [Go.RowKit.intOf]; omega⟩
            · go_wp2
              exact ⟨⟨t + 1, true, true, by omega, rfl, rfl, by go_num, hsk2.out true _ (Bl.refl _) (fun _ => rfl)⟩, by simp [Go.RowKit.intOf]; omega⟩
          · clear hsk
            cases b2
            · by_cases hte : tt = ad
              · subst hte
                go_wp2
                exact ⟨⟨t + 1, true, true, by omega, rfl, rfl, by go_num, hsk2.out true _ (Bl.refl _) (fun _ => rfl)⟩, by simp [Go.RowKit.intOf]; omega⟩
              · go_wp2
                exact ⟨⟨t + 1, true, false, by omega, rfl, by first | rfl | simp [hte], by go_num, hsk2.out false _ (Bl.refl _) (fun e => e.elim (fun e => absurd e hte) (fun e => e))⟩, by simp [Go.RowKit.intOf]; omega⟩
            · go_wp2
              exact ⟨⟨t + 1, true, true, by omega, rfl, rfl, by go_num, hsk2.out true _ (Bl.refl _) (fun _ => rfl)⟩, by simp [Go.RowKit.intOf]; omega⟩
        · have hb1f : b1 = false := by cases b1; rfl; exact absurd (.inl rfl) hsk
          subst hb1f
          have htn : ¬ tt < 0 := fun e => hsk (.inr e)
          clear hsk
          go_wp2_with fail
          refine (total_any hX.out H.out.2).mono ?_
          rintro en W' ⟨rfl, hW'⟩
          rw [HTT.out]
          have v1 := (hW'.cell (o := 1) lw2).trans z1
          have l2' := Nat.lt_of_lt_of_le lw2 hW'.lt
          have HW' := hid hW'
          clear hW'
          cases b2
          · by_cases hte : tt = ad
            · subst hte
              by_cases hge : T ≤ tt
              · go_wp2
                exact ⟨⟨t + 1, true, true, by omega, by first | rfl | simp [hge], rfl, by go_num, hend.out true true _ HW'.out (fun _ => rfl) (fun _ => rfl)⟩, by simp [Go.RowKit.intOf]; omega⟩
              · go_wp2
                exact ⟨⟨t + 1, false, true, by omega, by first | rfl | simp [hge], rfl, by go_num, hend.out false true _ HW'.out (fun e => e.elim (fun e => absurd e (by omega)) (fun e => e)) (fun _ => rfl)⟩, by simp [Go.RowKit.intOf]; omega⟩
            · by_cases hge : T ≤ tt
              · go_wp2
                exact ⟨⟨t + 1, true, false, by omega, by first | rfl | simp [hge], by first | rfl | simp [hte], by go_num, hend.out true false _ HW'.out (fun _ => rfl) (fun e => e.elim (fun e => absurd e hte) (fun e => e))⟩, by simp [Go.RowKit.intOf]; omega⟩
              · go_wp2
                exact ⟨⟨t + 1, false, false, by omega, by first | rfl | simp [hge], by first | rfl | simp [hte], by go_num, hend.out false false _ HW'.out (fun e => e.elim (fun e => absurd e (by omega)) (fun e => e)) (fun e => e.elim (fun e => absurd e hte) (fun e => e))⟩, by simp [Go.RowKit.intOf]; omega⟩
          · by_cases hge : T ≤ tt
            · go_wp2
              exact ⟨⟨t + 1, true, true, by omega, by first | rfl | simp [hge], rfl, by go_num, hend.out true true _ HW'.out (fun _ => rfl) (fun _ => rfl)⟩, by simp [Go.RowKit.intOf]; omega⟩
            · go_wp2
              exact ⟨⟨t + 1, false, true, by omega, by first | rfl | simp [hge], rfl, by go_num, hend.out false true _ HW'.out (fun e => e.elim (fun e => absurd e (by omega)) (fun e => e)) (fun _ => rfl)⟩, by simp [Go.RowKit.intOf]; omega⟩
      · have htge : ¬ ((t : Int) < (tk.length : Int)) := by omega
        have hall : tk.take t = tk := List.take_of_length_le (by omega)
        have hb2 : b2 = true := Hc.out (by rw [hall]; rcases Hk.out with e | e; exact e.2.1; exact absurd e.1 (by decide))
        have had : 0 ≤ ad ∧ ad < T := ⟨(by rcases Hk.out with e | e; exact e.2.2.1; exact absurd e.1 (by decide)), by rw [← HTT.out]; rcases Hk.out with e | e; exact e.2.2.2; exact absurd e.1 (by decide)⟩
        obtain ⟨had0, had1⟩ := had
        have HQ : Hid (∀ nq, Calls Tryz.prog 27 #[.pointer (some ⟨g, 0, none⟩)] (wr.drewN nq) fun en w' => en = .returned (.int .i64 T) ∧ ∃ k, w' = (wr.drewN nq).drewN k) := fun nq => by rw [← HTT.out]; exact total_q (hX.out.bl (tag' := tag) ((Bl.refl _).drewN _) fun _ _ => rfl) H.out.2
        subst hb2
        go_upto_region 14 with fail
        go_quiet ((go_at_call 27; exact Calls.quiet_of (HQ.out _)))
        go_wp2
        go_ret
        exact ⟨rfl, Hw.out.drewN _⟩
end
end Go.Proofs.YtnhjmiglegdamaaGreat
