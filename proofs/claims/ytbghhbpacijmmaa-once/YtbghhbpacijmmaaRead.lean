/-
  A record is read.
-/
import Derived.Test.YtbghhbpacijmmaaBytes
namespace Go.Proofs.Ytbghhbpacijmmaa
open Go.RowKit
attribute [local go_sem ↓] Go.wp_at_zero Go.wp_at_succ
theorem Try.info3 : (Try.prog.info? 3).map (fun i => (i.zero, i.size, i.bytes)) = some (some (.int .i64 0), 1, 8) := by kernel_rfl

theorem recB_get0 (kd : Int) (ns val : List Int) : (recB kd ns val)[0]? = some kd := by simp [recB]
theorem recB_get1 (kd : Int) (ns val : List Int) : (recB kd ns val)[1]? = some (ns.length : Int) := by simp [recB]

theorem flat_get (ns : List Int) : ∀ (j i : Nat) (h : j < ns.length), i < 8 → (ns.flatMap enc8)[8 * j + i]? = (enc8 ns[j])[i]? := by
  induction ns with
  | nil => intro j i h; simp at h
  | cons n r ih =>
    intro j i h hi
    rw [List.flatMap_cons]
    cases j with
    | zero => rw [List.getElem?_append_left (by rw [enc8_len]; omega)]; simp
    | succ j =>
      rw [List.getElem?_append_right (by rw [enc8_len]; omega), enc8_len, show 8 * (j + 1) + i - 8 = 8 * j + i by omega, ih j i (by simpa using h) hi]
      simp
theorem recB_num (kd : Int) (ns val : List Int) (j i : Nat) (h : j < ns.length) (hi : i < 8) : (recB kd ns val)[3 + 8 * j + i]? = (enc8 ns[j])[i]? := by
  unfold recB
  rw [List.getElem?_append_right (by simp; omega), List.getElem?_append_left (by rw [flat_len]; simp; omega), ← flat_get ns j i h hi]
  congr 1
  simp
  omega
theorem recB_val (kd : Int) (ns val : List Int) (i : Nat) : (recB kd ns val)[3 + 8 * ns.length + i]? = val[i]? := by
  unfold recB
  rw [List.getElem?_append_right (by simp; omega), List.getElem?_append_right (by rw [flat_len]; simp; omega)]
  congr 1
  rw [flat_len]
  simp
  omega

theorem rest_eq (q l c l' c' : Nat) (A B : Addr) (hl : l = l') (hc : c = c') : Value.slice (if q = 8 then some A else some B) l c = .slice (some (if q = 8 then A else B)) l' c' := by
  subst hl hc; split <;> rfl

theorem read_step {w wr W' w3 : World} {kd : Int} {nv V : Value} {n : Nat} {xs : List Value} {c0 : Array Value} (hbl : Bl w wr) (hb : Bl wr W') (hA : wr.heap[w.heap.size]? = some (.cells c0 102 (0, 0))) (hB : wr.heap[w.heap.size + 1]? = some (.cells #[.int .i64 kd, nv, .slice none 0 0] 102 (0, 0))) {k : Nat} {ys : List Value} (hv : wr.ownsRow w.heap.size 3 1 nv k ys)
    (hg : W'.grownBy w3 nv.ownBlock) (ho : w3.ownsRow w.heap.size 3 1 V n xs) :
    Bl w (w3.setCell ⟨w.heap.size + 1, 1, none⟩ V) ∧ (w3.setCell ⟨w.heap.size + 1, 1, none⟩ V).heap[w.heap.size]? = some (.cells c0 102 (0, 0)) ∧ (w3.setCell ⟨w.heap.size + 1, 1, none⟩ V).heap[w.heap.size + 1]? = some (.cells #[.int .i64 kd, V, .slice none 0 0] 102 (0, 0)) ∧
    (w3.setCell ⟨w.heap.size + 1, 1, none⟩ V).ownsRow w.heap.size 3 1 V n xs := by
  have la := (Array.getElem?_eq_some_iff.1 hA).1
  have lb := (Array.getElem?_eq_some_iff.1 hB).1
  have A3 : w3.heap[w.heap.size]? = some (.cells c0 102 (0, 0)) := by
    rw [hg.block _ (Nat.lt_of_lt_of_le la hb.lt) (fun e => own_ne_block hv hA (by decide) e.symm), hb.heap la]; exact hA
  have B3 : w3.heap[w.heap.size + 1]? = some (.cells #[.int .i64 kd, nv, .slice none 0 0] 102 (0, 0)) := by
    rw [hg.block _ (Nat.lt_of_lt_of_le lb hb.lt) (fun e => own_ne_block hv hB (by decide) e.symm), hb.heap lb]; exact hB
  refine ⟨?_, ?_, ?_, ?_⟩
  · have b3 : Bl w w3 := (hbl.trans hb).trans_only (Only.of_grown hg) (fun b e => (hv.lt b e.symm).1)
    exact Below.setCell b3 (Nat.le_succ _) _
  · rw [Below.heap_setCell _ _ _ _ (by simp)]; exact A3
  · exact heap_setCell_same w3 (w.heap.size + 1) 1 _ 102 _ B3
  · exact ownsRow_of ho fun b hb' => Below.heap_setCell _ _ _ _ (fun e => own_ne_block ho B3 (by decide) (by rw [hb', e]))

set_option maxRecDepth 100000 in
set_option maxHeartbeats 2000000 in
theorem read_any (b o c : Nat) (kd : Int) (ns val : List Int) (w : World) (hb : b < w.heap.size) (hc : ∀ j d, (recB kd ns val)[j]? = some d → w.cell? ⟨b, o + j, none⟩ = some (B8 d)) (hm : (recB kd ns val).length ≤ c) (h0 : 0 ≤ kd) (h1 : kd ≤ 255) (hn1 : 1 ≤ ns.length) (hnl : ns.length ≤ 255) (hvl : val.length ≤ 255) (hwf : ∀ n ∈ ns, (Lit.int .i64 n).wf = true) (hcc : c ≤ 9223372036854775807) :
    Calls Try.prog 61 #[.slice (some ⟨b, o, none⟩) (recB kd ns val).length c] w fun e w' => ∃ nv vv, e = .returned (.agg #[.int .i64 kd, nv, vv]) ∧ Bl w w' ∧ w'.ownsRow w.heap.size 3 1 nv ns.length (ns.map (Value.int .i64)) ∧ w'.ownsRow w.heap.size 5 1 vv val.length (val.map B8) := by
  obtain ⟨i3, ji, jz0, jz1, jz2⟩ := info_parts Try.info3
  have y0 := hc 0 _ (recB_get0 kd ns val)
  have y1 := hc 1 _ (recB_get1 kd ns val)
  unfold B8 at y0 y1
  rw [Nat.add_zero] at y0
  have hml := recB_len kd ns val
  have Hc := hid hc
  clear hc
  generalize hM : (recB kd ns val).length = m at *
  have HM := hid hM
  have Hml := hid hml
  have hm3 : 11 ≤ m := by omega
  have hm4 : m ≤ 3 + 8 * 255 + 255 := by omega
  clear hM hml
  have i1 : (1 : Int) < (m : Int) := by omega
  have i0 : (0 : Int) < (m : Int) := by omega
  have i3' : (3 : Int) ≤ (m : Int) := by omega
  have i4 : (m : Int) ≤ (c : Int) := by omega
  go_enter Try.func61, Try.ntmps61
  have c3 : ¬ c = 3 := by omega
  have bR : Bl w ((w.alloc (.cells #[.int .i64 0, .slice none 0 0, .slice none 0 0] 102)).alloc (.cells #[.int .i64 kd, .slice none 0 0, .slice none 0 0] 102)) := ((Bl.refl w).alloc _).alloc _
  have BR := hid bR
  have h2 := (Below.heap_alloc (w.alloc (.cells #[.int .i64 0, .slice none 0 0, .slice none 0 0] 102)) (.cells #[.int .i64 kd, .slice none 0 0, .slice none 0 0] 102) w.heap.size (by simp)).trans (heap_alloc_new w _)
  have h3 : ((w.alloc (.cells #[.int .i64 0, .slice none 0 0, .slice none 0 0] 102)).alloc (.cells #[.int .i64 kd, .slice none 0 0, .slice none 0 0] 102)).heap[w.heap.size + 1]? = some (.cells #[.int .i64 kd, .slice none 0 0, .slice none 0 0] 102 (0, 0)) := by
    have := heap_alloc_new (w.alloc (.cells #[.int .i64 0, .slice none 0 0, .slice none 0 0] 102)) (.cells #[.int .i64 kd, .slice none 0 0, .slice none 0 0] 102)
    simpa using this
  have H2 := hid h2
  have H3 := hid h3
  clear bR h2 h3
  go_wp2
  go_loopw [4, 16] (fun rest i wr => ∃ (j : Nat) (nv : Value) (ad : Addr), j ≤ ns.length ∧ i = .int .i64 j ∧ rest = .slice (some ad) (m - 3 - 8 * j) (c - 3 - 8 * j) ∧ (0 < m - 3 - 8 * j → ad = ⟨b, o + 3 + 8 * j, none⟩) ∧ Bl w wr ∧
    wr.heap[w.heap.size]? = some (.cells #[.int .i64 0, .slice none 0 0, .slice none 0 0] 102 (0, 0)) ∧ wr.heap[w.heap.size + 1]? = some (.cells #[.int .i64 kd, nv, .slice none 0 0] 102 (0, 0)) ∧ wr.ownsRow w.heap.size 3 1 nv j ((ns.take j).map (Value.int .i64))) (fun _ i _ => ns.length - (intOf i).toNat)
  case atStart => exact ⟨0, _, _, by omega, rfl, rfl, fun _ => rfl, BR.out, H2.out, H3.out, World.ownsRow_nil _ _ _ _⟩
  case round =>
    clear BR H2 H3
    obtain ⟨j, nv, ad, hj, rfl, rfl, had, hbl, hA, hB, hown⟩ := hrel
    have HA := hid hA
    have HB := hid hB
    have Hown := hid hown
    obtain ⟨na, nc, en⟩ : ∃ a c, nv = .slice a j c := by
      obtain ⟨a', c', e'⟩ := (ownsRow_sl hown).len
      rw [ownsRow_len hown] at e'
      exact ⟨a', c', e'⟩
    subst en
    clear hA hB hown
    by_cases hlt : j < ns.length
    · have hml2 := Hml.out
      have hge : 8 ≤ m - 3 - 8 * j := by omega
      have hade := had (by omega)
      subst hade
      have hgc : 8 ≤ c - 3 - 8 * j := by omega
      have Hnum : Hid (Sl wr (.slice (some ⟨b, o + 3 + 8 * j, none⟩) 8 (c - 3 - 8 * j)) ((enc8 ns[j]).map B8)) := by
        refine .inr ⟨b, o + 3 + 8 * j, _, by rw [List.length_map, enc8_len], Nat.lt_of_lt_of_le hb hbl.lt, fun i hi => ?_⟩
        have hi8 : i < 8 := by simpa [enc8_len] using hi
        have := Hc.out (3 + 8 * j + i) _ ((recB_num kd ns val j i hlt hi8).trans (List.getElem?_eq_getElem (by rw [enc8_len]; exact hi8)))
        rw [hbl.cell hb, show o + 3 + 8 * j + i = o + (3 + 8 * j + i) by omega, this]
        simp
      have hwj := hid (hwf _ (List.getElem_mem hlt))
      have Ht := hid (List.take_succ_eq_append_getElem hlt)
      have q1 := cell_of_row wr (w.heap.size + 1) 1 _ 102 (0, 0) HB.out
      have f1 := frozen_of_row wr (w.heap.size + 1) 1 _ 102 HB.out
      simp at q1
      have lR : w.heap.size + 1 < wr.heap.size := (Array.getElem?_eq_some_iff.1 HB.out).1
      have nR := hid (own_ne_block Hown.out HB.out (by decide))
      have hby : Hid ((j + 1) * 8 ≤ 140737488355328) := by unfold Hid; omega
      have hmx : Hid (j + 1 ≤ maxLen) := by unfold Hid maxLen; omega
      generalize ns[j] = nj at *
      have hc8 : (8 : Int) ≤ ((c - 3 - 8 * j : Nat) : Int) := by omega
      have hl8 : (8 : Int) ≤ ((m - 3 - 8 * j : Nat) : Int) := by omega
      have hlc : ((m - 3 - 8 * j : Nat) : Int) ≤ ((c - 3 - 8 * j : Nat) : Int) := by omega
      clear had hml2 y0 y1
      go_wp2
      go_region_law
        ((first
          | (refine step_append_lies _ (by rfl) _ _ _ (by rfl) w.heap.size 3 i3 _ 1 8 Try.underlying100 ji jz0 jz1 jz2 rfl (by omega) _ j _ (by rfl) ((Hown.out.alloc _).drew)
                ⟨wr.heap.size, 0, none⟩ 1 1 [.int .i64 nj] (by rfl) (by rfl) (World.news_of_block (cs := #[.int .i64 nj]) (t := 3) (fr := (0, 0)) (heap_alloc_new wr _)) (by simp [Value.oneCell'])
                (by omega) hmx.out hby.out (by simp; omega) (wr.heap.size + 1) (by simp) ?_; intro gg cap w3 hown3 hgrow hat hlt3; have kc := (far (((Bl.refl wr).alloc _).drew) hgrow (o := 1) lR nR.out).1.trans q1; have kf := (far (((Bl.refl wr).alloc _).drew) hgrow (o := 1) lR nR.out).2.trans f1)
          | (go_simp; go_at_call 65; refine (number_any _ nj _ (by exact Hnum.out.bl ((Bl.refl _).drew)) hwj.out).mono ?_; rintro e w' ⟨rfl, rfl⟩)))
      all_goals
        have HP := read_step hbl (((Bl.refl wr).alloc _).drew) HA.out HB.out Hown.out hgrow hown3
        have P1 := hid HP.1
        have P2 := hid HP.2.1
        have P3 := hid HP.2.2.1
        have P4 := hid HP.2.2.2
        clear HP hgrow hown3 hat kc kf HA HB Hown Hnum hbl q1 f1
        go_wp2
      all_goals
        go_roundw
        case rel =>
          refine ⟨j + 1, _, _, by omega, by go_num, rest_eq _ _ _ _ _ _ _ (by omega) (by omega), fun h => ?_, P1.out, P2.out, P3.out, by rw [Ht.out, List.map_append]; exact P4.out⟩
          rw [if_neg (by omega), show o + 3 + 8 * j + 8 = o + 3 + 8 * (j + 1) by omega]
        case measure => simp [intOf]; omega
    · have hjn : j = ns.length := by omega
      subst hjn
      have hml2 := Hml.out
      have hvl2 : m - 3 - 8 * ns.length = val.length := by omega
      have HV : Hid (Bs wr (.slice (some ad) (m - 3 - 8 * ns.length) (c - 3 - 8 * ns.length)) (val.map B8)) := by
        refine .inr ⟨ad, _, by rw [List.length_map, hvl2], fun i u hi => ?_⟩
        rw [List.getElem?_map] at hi
        obtain ⟨d, hd, rfl⟩ := Option.map_eq_some_iff.1 hi
        have hil := (List.getElem?_eq_some_iff.1 hd).1
        rw [had (by omega), add_eq, hbl.cell hb, show o + 3 + 8 * ns.length + i = o + (3 + 8 * ns.length + i) by omega]
        exact Hc.out _ _ ((recB_val kd ns val i).trans hd)
      have q0 := cell_of_row wr (w.heap.size + 1) 0 _ 102 (0, 0) HB.out
      have q1 := cell_of_row wr (w.heap.size + 1) 1 _ 102 (0, 0) HB.out
      have lR : w.heap.size + 1 < wr.heap.size := (Array.getElem?_eq_some_iff.1 HB.out).1
      clear had hml2 y0 y1 hvl2
      go_wp2_with fail
      refine (clone_any _ val _ HV.out (by omega)).mono ?_
      rintro e w2 ⟨vv, rfl, b2, hv2⟩
      have HO2 := hid ((Only.of_bl (S := fun _ => False) b2).owns Hown.out fun _ _ e => e)
      have HA2 := hid ((b2.heap (by omega)).trans HA.out)
      have HB2 := hid ((b2.heap lR).trans HB.out)
      have Hv2 := hid hv2
      have Hbl2 := hid (hbl.trans b2)
      obtain ⟨va, vc, ev⟩ : ∃ a c, vv = .slice a val.length c := by
        obtain ⟨a', c', e'⟩ := (ownsRow_sl hv2).len
        rw [ownsRow_len hv2] at e'
        exact ⟨a', c', e'⟩
      subst ev
      have p0 := cell_of_row w2 (w.heap.size + 1) 0 _ 102 (0, 0) HB2.out
      have p1 := cell_of_row w2 (w.heap.size + 1) 1 _ 102 (0, 0) HB2.out
      have p2 := cell_of_row w2 (w.heap.size + 1) 2 _ 102 (0, 0) HB2.out
      have g2 := frozen_of_row w2 (w.heap.size + 1) 2 _ 102 HB2.out
      have a0 := cell_of_row w2 w.heap.size 0 _ 102 (0, 0) HA2.out
      have a1 := cell_of_row w2 w.heap.size 1 _ 102 (0, 0) HA2.out
      have a2 := cell_of_row w2 w.heap.size 2 _ 102 (0, 0) HA2.out
      have k0 := frozen_of_row w2 w.heap.size 0 _ 102 HA2.out
      have k1 := frozen_of_row w2 w.heap.size 1 _ 102 HA2.out
      have k2 := frozen_of_row w2 w.heap.size 2 _ 102 HA2.out
      simp at p0 p1 p2 a0 a1 a2
      clear q0 q1 hv2 b2 HV HA HB Hown hbl
      go_wp2
      have F : Only (fun b => b = w.heap.size ∨ b = w.heap.size + 1) w2 _ := ((((Only.refl (fun b => b = w.heap.size ∨ b = w.heap.size + 1) w2).setCell ⟨w.heap.size + 1, 2, none⟩ (.inl (.inr rfl)) (.slice va val.length vc)).setCell ⟨w.heap.size, 0, none⟩ (.inl (.inl rfl)) (.int .i64 kd)).setCell ⟨w.heap.size, 1, none⟩ (.inl (.inl rfl)) (.slice na ns.length nc)).setCell ⟨w.heap.size, 2, none⟩ (.inl (.inl rfl)) (.slice va val.length vc)
      refine bodyPost_ret (v := .agg #[.int .i64 kd, .slice na ns.length nc, .slice va val.length vc]) (by simp [results, Try.results61, go_sem, a0, a1, a2]) rfl ⟨_, _, rfl, ?_, ?_, ?_⟩
      · exact Hbl2.out.trans_only F (fun n hn => by rcases hn with h | h <;> omega)
      · have ht : ns.take ns.length = ns := List.take_length
        have := HO2.out
        rw [ht] at this
        refine F.owns this fun b hb' e => ?_
        rcases e with e | e
        · exact own_ne_block this HA2.out (by decide) (by rw [hb', e])
        · exact own_ne_block this HB2.out (by decide) (by rw [hb', e])
      · have this := ownsRow_base (base' := w.heap.size) Hv2.out (fun b hb' => Nat.le_trans (by omega) (Hv2.out.lt b hb').1)
        refine F.owns this fun b hb' e => ?_
        rcases e with e | e
        · exact own_ne_block this HA2.out (by decide) (by rw [hb', e])
        · exact own_ne_block this HB2.out (by decide) (by rw [hb', e])
end Go.Proofs.Ytbghhbpacijmmaa
