-- Was a content made?
import Derived.Test.YtnhjmiglegdamaaGreatKSolo0KSolo1KSolo2KOne2Q
namespace Go.Proofs.YtnhjmiglegdamaaGreat
open Go.RowKit Go.Maps
attribute [local go_sem ↓] Go.wp_at_zero Go.wp_at_succ
theorem strOf_inj : ∀ {xs ys : List Int}, (∀ d ∈ xs, 0 ≤ d ∧ d ≤ 255) → (∀ d ∈ ys, 0 ≤ d ∧ d ≤ 255) → (strOf xs).toList = (strOf ys).toList → xs = ys := by
  intro xs ys hx hy h
  have h1 : xs.map (fun n : Int => UInt8.ofNat n.toNat) = ys.map (fun n => UInt8.ofNat n.toNat) := by rw [← strOf_list, ← strOf_list, ← Go.ByteArray.toList_eq, ← Go.ByteArray.toList_eq, h]
  clear h
  induction xs generalizing ys with
  | nil =>
    cases ys with
    | nil => rfl
    | cons y ys => simp at h1
  | cons x xs ih =>
    cases ys with
    | nil => simp at h1
    | cons y ys =>
      simp only [List.map_cons, List.cons.injEq] at h1
      have e := congrArg UInt8.toNat h1.1
      simp only [UInt8.toNat_ofNat'] at e
      have a1 := hx x (List.mem_cons_self ..)
      have a2 := hy y (List.mem_cons_self ..)
      rw [ih (fun d hd => hx d (List.mem_cons_of_mem _ hd)) (fun d hd => hy d (List.mem_cons_of_mem _ hd)) h1.2]
      congr 1
      omega
section
variable {w : World} {tag : Nat → Nat} {g p q n m v : Nat} {ce : Int} {K : KW} {pv av lv cv hv : Value} {ps cs ls : List Value}
set_option maxRecDepth 100000 in
set_option maxHeartbeats 4000000 in
theorem madeJunk_any (h : WdX w tag g p q n m v ce K pv av lv cv hv ps cs ls) (hl : K.calls.length ≤ 1000) (i kd po be fi wh ad : Int) (vs : ByteArray) (ta : Option Addr) (tn tc : Nat) (ra : Option Addr) (rn rc : Nat) {j : Nat} {o : PK} (ho : K.calls[j]? = some o) (at0 : Int) (h1 : o.kind = 3) (h2 : o.pos = at0) (h3 : o.beg < fi ∨ o.beg = be) :
    Calls Tryz.prog 61 #[.pointer (some ⟨g, 0, none⟩), callV i kd po vs ta tn tc be fi wh ad ra rn rc, .int .i64 at0, .string { data := #[] }] w fun en w' => en = .returned (.bool true) ∧ Bl w w' := by
  obtain ⟨ca, cc, rfl⟩ := h.ca.row.shape
  obtain ⟨W1, hW1⟩ : ∃ W1, w.alloc (.cells #[.int .i64 0, .int .i64 i, .int .i64 kd, .int .i64 po, .string vs, .slice ta tn tc, .int .i64 be, .int .i64 fi, .int .i64 wh, .int .i64 ad, .slice ra rn rc] 60) = W1 := ⟨_, rfl⟩
  have b1 : Bl w W1 := by rw [← hW1]; exact (Bl.refl w).alloc _
  have hb1 : W1.heap[w.heap.size]? = some (.cells #[.int .i64 0, .int .i64 i, .int .i64 kd, .int .i64 po, .string vs, .slice ta tn tc, .int .i64 be, .int .i64 fi, .int .i64 wh, .int .i64 ad, .slice ra rn rc] 60 (0, 0)) := by rw [← hW1]; exact heap_alloc_new w _
  have hjl := (List.getElem?_eq_some_iff.1 ho).1
  have H := hid h
  have Ho := hid ho
  have HW1 := hid hW1
  have Hb1 := hid hb1
  have HB1 := hid b1
  clear h ho hW1 hb1 b1
  go_enter Tryz.func61, Tryz.ntmps61
  go_upto_region 1 with fail
  rw [HW1.out]
  clear HW1
  go_wp2
  go_loopw [9] (fun x wr => ∃ k : Nat, k ≤ j ∧ x = .int .i64 k ∧ Hid (Bl W1 wr)) (fun x _ => K.calls.length - (Go.RowKit.intOf x).toNat)
  case atStart => exact ⟨0, Nat.zero_le _, rfl, Bl.refl _⟩
  case round =>
    obtain ⟨k, hkj, rfl, HB⟩ := hrel
    have bw := HB1.out.trans HB.out
    have hX := H.out.bl (tag' := tag) bw fun _ _ => rfl
    have hlt : k < K.calls.length := by omega
    have hltI : (k : Int) < (K.calls.length : Int) := by omega
    have c7 := hX.cellAt 7 rfl
    have lgr := hX.lt
    have hbx := (HB.out.heap (Array.getElem?_eq_some_iff.1 Hb1.out).1).trans Hb1.out
    have lbx : w.heap.size < wr.heap.size := (Array.getElem?_eq_some_iff.1 hbx).1
    have x6 : wr.cell? ⟨w.heap.size, 6, none⟩ = some (.int .i64 be) := cell_of_row wr _ 6 _ 60 (0, 0) hbx
    have x7 : wr.cell? ⟨w.heap.size, 7, none⟩ = some (.int .i64 fi) := cell_of_row wr _ 7 _ 60 (0, 0) hbx
    obtain ⟨c, hc⟩ : ∃ c, K.calls[k]? = some c := ⟨_, List.getElem?_eq_getElem hlt⟩
    obtain ⟨cb, ta', tc', ra', rc', rfl, lcb, d0, d1, d2, d3, d4, d5, d6, d7, d8, d9, d10, _, _⟩ := hX.ca.cells hc
    obtain ⟨O, hO⟩ : ∃ O, Obj.cells #[Value.int .i64 0, .int .i64 k, .int .i64 c.kind, .int .i64 c.pos, .string (strOf c.value), .slice ta' c.tokens.length tc', .int .i64 c.beg, .int .i64 c.fin, .int .i64 c.r.wh, .int .i64 c.r.ad, .slice ra' c.r.val.length rc'] 60 = O := ⟨_, rfl⟩
    obtain ⟨W5, hW5⟩ : ∃ W5, wr.alloc O = W5 := ⟨_, rfl⟩
    have bA := (Bl.refl wr).alloc O
    have hbox := heap_alloc_new wr O
    rw [hW5] at bA hbox
    have y6 := (bA.cell lbx).trans x6
    have y7 := (bA.cell lbx).trans x7
    have lbx5 := Nat.lt_of_lt_of_le lbx bA.lt
    have lo5 : wr.heap.size < W5.heap.size := (Array.getElem?_eq_some_iff.1 hbox).1
    rw [← hO] at hbox
    have z2 : W5.cell? ⟨wr.heap.size, 2, none⟩ = some (.int .i64 c.kind) := cell_of_row W5 _ 2 _ 60 (0, 0) hbox
    have z3 : W5.cell? ⟨wr.heap.size, 3, none⟩ = some (.int .i64 c.pos) := cell_of_row W5 _ 3 _ 60 (0, 0) hbox
    have z6 : W5.cell? ⟨wr.heap.size, 6, none⟩ = some (.int .i64 c.beg) := cell_of_row W5 _ 6 _ 60 (0, 0) hbox
    have HO := hid hO
    have HW5 := hid hW5
    have HBA := hid bA
    have Hc := hid hc
    have hne : Hid (¬ (c.kind = 3 ∧ c.pos = at0 ∧ (c.beg < fi ∨ c.beg = be)) → k < j) := fun hn => by
      apply Nat.lt_of_le_of_ne hkj
      intro e
      subst e
      have e2 : c = o := by have := Hc.out.symm.trans Ho.out; simpa using this
      subst e2
      exact hn ⟨h1, h2, h3⟩
    clear hX hbx hbox hO hW5 bA hc bw
    go_upto_region 5 with fail
    rw [HO.out, HW5.out]
    clear HO HW5 d0 d1 d2 d3 d4 d5 d6 d7 d8 d9 d10 c7
    have HBf := hid (HB.out.trans HBA.out)
    by_cases k6 : fi ≤ c.beg
    · by_cases k7 : c.beg = be
      · by_cases k4 : c.kind = 3
        · rw [k4] at z2
          by_cases k5 : c.pos = at0
          · rw [k5] at z3
            go_wp2
            go_ret
            exact ⟨rfl, HB1.out.trans HBf.out⟩
          · have := hne.out (fun e => k5 e.2.1)
            go_wp2
            exact ⟨⟨k + 1, by omega, by go_num, HBf⟩, by simp [Go.RowKit.intOf]; omega⟩
        · have := hne.out (fun e => k4 e.1)
          go_wp2
          exact ⟨⟨k + 1, by omega, by go_num, HBf⟩, by simp [Go.RowKit.intOf]; omega⟩
      · have := hne.out (fun e => by rcases e.2.2 with e | e; omega; exact k7 e)
        go_wp2
        exact ⟨⟨k + 1, by omega, by go_num, HBf⟩, by simp [Go.RowKit.intOf]; omega⟩
    · by_cases k4 : c.kind = 3
      · rw [k4] at z2
        by_cases k5 : c.pos = at0
        · rw [k5] at z3
          go_wp2
          go_ret
          exact ⟨rfl, HB1.out.trans HBf.out⟩
        · have := hne.out (fun e => k5 e.2.1)
          go_wp2
          exact ⟨⟨k + 1, by omega, by go_num, HBf⟩, by simp [Go.RowKit.intOf]; omega⟩
      · have := hne.out (fun e => k4 e.1)
        go_wp2
        exact ⟨⟨k + 1, by omega, by go_num, HBf⟩, by simp [Go.RowKit.intOf]; omega⟩
set_option maxRecDepth 100000 in
set_option maxHeartbeats 4000000 in
theorem madeVal_any (h : WdX w tag g p q n m v ce K pv av lv cv hv ps cs ls) (hl : K.calls.length ≤ 1000) (i kd po be fi wh ad : Int) (vs : ByteArray) (ta : Option Addr) (tn tc : Nat) (ra : Option Addr) (rn rc : Nat) {j : Nat} {o : PK} (ho : K.calls[j]? = some o) (at0 : Int) (val : List Int) (hv0 : val ≠ []) (hvb : ∀ d ∈ val, 0 ≤ d ∧ d ≤ 255) (hcb : ∀ (k : Nat) (c : PK), K.calls[k]? = some c → ∀ d ∈ c.value, 0 ≤ d ∧ d ≤ 255) (huq : ∀ (k : Nat) (c : PK), K.calls[k]? = some c → c.kind = 1 → c.value = val → k = j) (h1 : o.kind = 1) (h2 : o.value = val) (h3 : o.beg < fi ∨ o.beg = be) (h4 : at0 ∈ o.tokens) (h5 : o.r.wh = 1) (h6 : o.r.ad = at0) (h7 : o.fin ≠ 0) (h8 : o.tokens.length ≤ 1000) :
    Calls Tryz.prog 61 #[.pointer (some ⟨g, 0, none⟩), callV i kd po vs ta tn tc be fi wh ad ra rn rc, .int .i64 at0, .string (strOf val)] w fun en w' => en = .returned (.bool true) ∧ Bl w w' := by
  obtain ⟨ca, cc, rfl⟩ := h.ca.row.shape
  obtain ⟨W1, hW1⟩ : ∃ W1, w.alloc (.cells #[.int .i64 0, .int .i64 i, .int .i64 kd, .int .i64 po, .string vs, .slice ta tn tc, .int .i64 be, .int .i64 fi, .int .i64 wh, .int .i64 ad, .slice ra rn rc] 60) = W1 := ⟨_, rfl⟩
  have b1 : Bl w W1 := by rw [← hW1]; exact (Bl.refl w).alloc _
  have hb1 : W1.heap[w.heap.size]? = some (.cells #[.int .i64 0, .int .i64 i, .int .i64 kd, .int .i64 po, .string vs, .slice ta tn tc, .int .i64 be, .int .i64 fi, .int .i64 wh, .int .i64 ad, .slice ra rn rc] 60 (0, 0)) := by rw [← hW1]; exact heap_alloc_new w _
  have hjl := (List.getElem?_eq_some_iff.1 ho).1
  have H := hid h
  have Ho := hid ho
  have HW1 := hid hW1
  have Hb1 := hid hb1
  have HB1 := hid b1
  have hsv0 : ¬ (strOf val).toList = [] := fun e => hv0 (strOf_inj hvb (fun d hd => by simp at hd) (by rw [e, Go.ByteArray.toList_eq, strOf_list]; rfl))
  have hsv1 : (strOf val).toList.isEmpty = false := by
    cases hl : (strOf val).toList with
    | nil => exact absurd hl hsv0
    | cons _ _ => rfl
  have Hvb := hid (And.intro hvb (And.intro hcb huq))
  obtain ⟨sv, hsv⟩ : ∃ sv, strOf val = sv := ⟨_, rfl⟩
  rw [hsv] at hsv0 hsv1 ⊢
  have Hsv := hid hsv
  clear h ho hW1 hb1 b1 hsv hvb hcb huq
  go_enter Tryz.func61, Tryz.ntmps61
  go_upto_region 1 with fail
  rw [HW1.out]
  clear HW1
  go_wp2
  go_loopw [9] (fun x wr => ∃ k : Nat, k ≤ j ∧ x = .int .i64 k ∧ Hid (Bl W1 wr)) (fun x _ => K.calls.length - (Go.RowKit.intOf x).toNat)
  case atStart => exact ⟨0, Nat.zero_le _, rfl, Bl.refl _⟩
  case round =>
    obtain ⟨k, hkj, rfl, HB⟩ := hrel
    have bw := HB1.out.trans HB.out
    have hX := H.out.bl (tag' := tag) bw fun _ _ => rfl
    have hlt : k < K.calls.length := by omega
    have hltI : (k : Int) < (K.calls.length : Int) := by omega
    have c7 := hX.cellAt 7 rfl
    have lgr := hX.lt
    have hbx := (HB.out.heap (Array.getElem?_eq_some_iff.1 Hb1.out).1).trans Hb1.out
    have lbx : w.heap.size < wr.heap.size := (Array.getElem?_eq_some_iff.1 hbx).1
    have x6 : wr.cell? ⟨w.heap.size, 6, none⟩ = some (.int .i64 be) := cell_of_row wr _ 6 _ 60 (0, 0) hbx
    have x7 : wr.cell? ⟨w.heap.size, 7, none⟩ = some (.int .i64 fi) := cell_of_row wr _ 7 _ 60 (0, 0) hbx
    obtain ⟨c, hc⟩ : ∃ c, K.calls[k]? = some c := ⟨_, List.getElem?_eq_getElem hlt⟩
    obtain ⟨cb, ta', tc', ra', rc', rfl, lcb, d0, d1, d2, d3, d4, d5, d6, d7, d8, d9, d10, htk, _⟩ := hX.ca.cells hc
    have HTK := hid htk
    clear htk
    obtain ⟨O, hO⟩ : ∃ O, Obj.cells #[Value.int .i64 0, .int .i64 k, .int .i64 c.kind, .int .i64 c.pos, .string (strOf c.value), .slice ta' c.tokens.length tc', .int .i64 c.beg, .int .i64 c.fin, .int .i64 c.r.wh, .int .i64 c.r.ad, .slice ra' c.r.val.length rc'] 60 = O := ⟨_, rfl⟩
    obtain ⟨W5, hW5⟩ : ∃ W5, wr.alloc O = W5 := ⟨_, rfl⟩
    have bA := (Bl.refl wr).alloc O
    have hbox := heap_alloc_new wr O
    rw [hW5] at bA hbox
    have y6 := (bA.cell lbx).trans x6
    have y7 := (bA.cell lbx).trans x7
    have lbx5 := Nat.lt_of_lt_of_le lbx bA.lt
    have lo5 : wr.heap.size < W5.heap.size := (Array.getElem?_eq_some_iff.1 hbox).1
    rw [← hO] at hbox
    have z2 : W5.cell? ⟨wr.heap.size, 2, none⟩ = some (.int .i64 c.kind) := cell_of_row W5 _ 2 _ 60 (0, 0) hbox
    have z3 : W5.cell? ⟨wr.heap.size, 3, none⟩ = some (.int .i64 c.pos) := cell_of_row W5 _ 3 _ 60 (0, 0) hbox
    have z4 : W5.cell? ⟨wr.heap.size, 4, none⟩ = some (.string (strOf c.value)) := cell_of_row W5 _ 4 _ 60 (0, 0) hbox
    have z5 : W5.cell? ⟨wr.heap.size, 5, none⟩ = some (.slice ta' c.tokens.length tc') := cell_of_row W5 _ 5 _ 60 (0, 0) hbox
    have z7 : W5.cell? ⟨wr.heap.size, 7, none⟩ = some (.int .i64 c.fin) := cell_of_row W5 _ 7 _ 60 (0, 0) hbox
    have z8 : W5.cell? ⟨wr.heap.size, 8, none⟩ = some (.int .i64 c.r.wh) := cell_of_row W5 _ 8 _ 60 (0, 0) hbox
    have z9 : W5.cell? ⟨wr.heap.size, 9, none⟩ = some (.int .i64 c.r.ad) := cell_of_row W5 _ 9 _ 60 (0, 0) hbox
    have z6 : W5.cell? ⟨wr.heap.size, 6, none⟩ = some (.int .i64 c.beg) := cell_of_row W5 _ 6 _ 60 (0, 0) hbox
    have HO := hid hO
    have HW5 := hid hW5
    have HBA := hid bA
    have Hc := hid hc
    have hne : Hid (¬ (c.kind = 1 ∧ c.value = val) → k < j) := fun hn => by
      apply Nat.lt_of_le_of_ne hkj
      intro e
      subst e
      have e2 : c = o := by have := Hc.out.symm.trans Ho.out; simpa using this
      subst e2
      exact hn ⟨h1, h2⟩
    have hyes : Hid ((c.kind = 1 ∧ c.value = val) → c = o) := fun hn => by
      have e := Hvb.out.2.2 k c Hc.out hn.1 hn.2
      subst e
      have := Hc.out.symm.trans Ho.out
      simpa using this
    have hsc : Hid (c.value ≠ val → ¬ (strOf c.value).toList = sv.toList) := fun hn e => hn (strOf_inj (Hvb.out.2.1 k c Hc.out) Hvb.out.1 (by rw [Hsv.out]; exact e))
    clear hX hbx hbox hO hW5 bA hc bw
    go_upto_region 5 with fail
    rw [HO.out, HW5.out]
    clear HO HW5 d0 d1 d2 d3 d4 d5 d6 d7 d8 d9 d10 c7
    have HBf := hid (HB.out.trans HBA.out)
    by_cases k6 : fi ≤ c.beg
    · by_cases k7 : c.beg = be
      · by_cases k4 : c.kind = 1
        · by_cases k5 : c.value = val
          · have hco := hyes.out ⟨k4, k5⟩
            subst hco
            rw [k4] at z2
            rw [k5, Hsv.out] at z4
            rw [h5] at z8
            rw [h6] at z9
            have HT5 := hid ((Only.of_bl (S := fun _ => False) HBA.out).owns HTK.out fun _ _ e => e)
            go_wp2
            go_loopw [11, 12] (fun hd x wx => ∃ (t : Nat) (bb : Bool), t ≤ c.tokens.length ∧ hd = .bool bb ∧ x = .int .i64 t ∧ wx = W5 ∧ (bb = true ↔ at0 ∈ c.tokens.take t)) (fun _ x _ => c.tokens.length - (Go.RowKit.intOf x).toNat)
            case atStart => exact ⟨0, false, Nat.zero_le _, rfl, rfl, rfl, by simp⟩
            case round =>
              obtain ⟨t, bb, ht, rfl, rfl, rfl, hbb0⟩ := hrel
              have Hbb := hid hbb0
              clear hbb0
              by_cases htl : t < c.tokens.length
              · have htI : (t : Int) < (c.tokens.length : Int) := by omega
                obtain ⟨gt, capt, curt, eqt, _, hgt, _⟩ := HT5.out.2.resolve_left (fun e => by omega)
                simp only [Value.slice.injEq, true_and] at eqt
                obtain ⟨rfl, rfl⟩ := eqt
                have lgt : gt < wr.heap.size := (Array.getElem?_eq_some_iff.1 hgt).1
                have y0 := (HT5.out.cellAt t (by omega)).trans (show (c.tokens.map (Value.int .i64))[t]? = some (.int .i64 c.tokens[t]) by rw [List.getElem?_map, List.getElem?_eq_getElem htl]; rfl)
                have htk : Hid (c.tokens.take (t + 1) = c.tokens.take t ++ [c.tokens[t]]) := by unfold Hid; rw [List.take_add_one, List.getElem?_eq_getElem htl]; rfl
                generalize c.tokens[t] = tt at *
                clear hgt
                cases bb
                · by_cases hte : tt = at0
                  · subst hte
                    go_wp2
                    exact ⟨⟨t + 1, true, by omega, rfl, by go_num, trivial, by rw [htk.out]; simp⟩, by simp [Go.RowKit.intOf]; omega⟩
                  · go_wp2
                    refine ⟨⟨t + 1, false, by omega, by first | rfl | simp [hte], by go_num, trivial, ?_⟩, by simp [Go.RowKit.intOf]; omega⟩
                    rw [htk.out, List.mem_append]
                    constructor
                    · intro e; simp at e
                    · rintro (e | e)
                      · exact Hbb.out.2 e
                      · simp at e; exact absurd e.symm hte
                · go_wp2
                  exact ⟨⟨t + 1, true, by omega, rfl, by go_num, trivial, by rw [htk.out, List.mem_append]; exact ⟨fun _ => .inl (Hbb.out.1 rfl), fun _ => rfl⟩⟩, by simp [Go.RowKit.intOf]; omega⟩
              · have htge : ¬ ((t : Int) < (c.tokens.length : Int)) := by omega
                have hb1 : bb = true := Hbb.out.2 (by rw [List.take_of_length_le (by omega)]; exact h4)
                subst hb1
                go_wp2
                go_ret
                exact ⟨rfl, HB1.out.trans HBf.out⟩
          · have k5s := hsc.out k5
            have k5a : ((strOf c.value).toList == sv.toList) = false := by simpa using k5s
            have k5c : ¬ strOf c.value = sv := fun e => k5s (by rw [e])
            generalize strOf c.value = sc at *
            rw [k4] at z2
            have := hne.out (fun e => k5 e.2)
            go_wp2
            exact ⟨⟨k + 1, by omega, by go_num, HBf⟩, by simp [Go.RowKit.intOf]; omega⟩
        · have := hne.out (fun e => k4 e.1)
          go_wp2
          exact ⟨⟨k + 1, by omega, by go_num, HBf⟩, by simp [Go.RowKit.intOf]; omega⟩
      · have := hne.out (fun e => by
          have hco := hyes.out e
          subst hco
          rcases h3 with h3 | h3
          · omega
          · exact k7 h3)
        go_wp2
        exact ⟨⟨k + 1, by omega, by go_num, HBf⟩, by simp [Go.RowKit.intOf]; omega⟩
    · by_cases k4 : c.kind = 1
      · by_cases k5 : c.value = val
        · have hco := hyes.out ⟨k4, k5⟩
          subst hco
          rw [k4] at z2
          rw [k5, Hsv.out] at z4
          rw [h5] at z8
          rw [h6] at z9
          have HT5 := hid ((Only.of_bl (S := fun _ => False) HBA.out).owns HTK.out fun _ _ e => e)
          go_wp2
          go_loopw [11, 12] (fun hd x wx => ∃ (t : Nat) (bb : Bool), t ≤ c.tokens.length ∧ hd = .bool bb ∧ x = .int .i64 t ∧ wx = W5 ∧ (bb = true ↔ at0 ∈ c.tokens.take t)) (fun _ x _ => c.tokens.length - (Go.RowKit.intOf x).toNat)
          case atStart => exact ⟨0, false, Nat.zero_le _, rfl, rfl, rfl, by simp⟩
          case round =>
            obtain ⟨t, bb, ht, rfl, rfl, rfl, hbb0⟩ := hrel
            have Hbb := hid hbb0
            clear hbb0
            by_cases htl : t < c.tokens.length
            · have htI : (t : Int) < (c.tokens.length : Int) := by omega
              obtain ⟨gt, capt, curt, eqt, _, hgt, _⟩ := HT5.out.2.resolve_left (fun e => by omega)
              simp only [Value.slice.injEq, true_and] at eqt
              obtain ⟨rfl, rfl⟩ := eqt
              have lgt : gt < wr.heap.size := (Array.getElem?_eq_some_iff.1 hgt).1
              have y0 := (HT5.out.cellAt t (by omega)).trans (show (c.tokens.map (Value.int .i64))[t]? = some (.int .i64 c.tokens[t]) by rw [List.getElem?_map, List.getElem?_eq_getElem htl]; rfl)
              have htk : Hid (c.tokens.take (t + 1) = c.tokens.take t ++ [c.tokens[t]]) := by unfold Hid; rw [List.take_add_one, List.getElem?_eq_getElem htl]; rfl
              generalize c.tokens[t] = tt at *
              clear hgt
              cases bb
              · by_cases hte : tt = at0
                · subst hte
                  go_wp2
                  exact ⟨⟨t + 1, true, by omega, rfl, by go_num, trivial, by rw [htk.out]; simp⟩, by simp [Go.RowKit.intOf]; omega⟩
                · go_wp2
                  refine ⟨⟨t + 1, false, by omega, by first | rfl | simp [hte], by go_num, trivial, ?_⟩, by simp [Go.RowKit.intOf]; omega⟩
                  rw [htk.out, List.mem_append]
                  constructor
                  · intro e; simp at e
                  · rintro (e | e)
                    · exact Hbb.out.2 e
                    · simp at e; exact absurd e.symm hte
              · go_wp2
                exact ⟨⟨t + 1, true, by omega, rfl, by go_num, trivial, by rw [htk.out, List.mem_append]; exact ⟨fun _ => .inl (Hbb.out.1 rfl), fun _ => rfl⟩⟩, by simp [Go.RowKit.intOf]; omega⟩
            · have htge : ¬ ((t : Int) < (c.tokens.length : Int)) := by omega
              have hb1 : bb = true := Hbb.out.2 (by rw [List.take_of_length_le (by omega)]; exact h4)
              subst hb1
              go_wp2
              go_ret
              exact ⟨rfl, HB1.out.trans HBf.out⟩
        · have k5s := hsc.out k5
          have k5a : ((strOf c.value).toList == sv.toList) = false := by simpa using k5s
          have k5c : ¬ strOf c.value = sv := fun e => k5s (by rw [e])
          generalize strOf c.value = sc at *
          rw [k4] at z2
          have := hne.out (fun e => k5 e.2)
          go_wp2
          exact ⟨⟨k + 1, by omega, by go_num, HBf⟩, by simp [Go.RowKit.intOf]; omega⟩
      · have := hne.out (fun e => k4 e.1)
        go_wp2
        exact ⟨⟨k + 1, by omega, by go_num, HBf⟩, by simp [Go.RowKit.intOf]; omega⟩
end
end Go.Proofs.YtnhjmiglegdamaaGreat
