-- Split gives the records that are whole.
import Derived.Test.YtbghhbpacijmmaaSplit
namespace Go.Proofs.Ytbghhbpacijmmaa
open Go.RowKit
attribute [local go_sem ↓] Go.wp_at_zero Go.wp_at_succ
theorem Try.info102 : (Try.prog.info? 102).map (fun i => (i.zero, i.size, i.bytes)) = some (some (.agg #[.int .i64 0, .slice none 0 0, .slice none 0 0]), 3, 56) := by kernel_rfl

def off (rs : List Rc) (k : Nat) : Nat := (flat (rs.take k)).length
theorem off_zero (rs : List Rc) : off rs 0 = 0 := by simp [off, flat]
theorem flat_append (a b : List Rc) : flat (a ++ b) = flat a ++ flat b := by simp [flat]
theorem off_succ (rs : List Rc) (k : Nat) (h : k < rs.length) : off rs (k + 1) = off rs k + rs[k].bytes.length := by
  unfold off
  rw [List.take_succ_eq_append_getElem h, flat_append, List.length_append]
  simp [flat]
theorem off_all (rs : List Rc) : off rs rs.length = (flat rs).length := by simp [off]
theorem flat_at (rs : List Rc) (k : Nat) (h : k < rs.length) : flat rs = flat (rs.take k) ++ (rs[k].bytes ++ flat (rs.drop (k + 1))) := by
  conv => lhs; rw [← List.take_append_drop k rs, List.drop_eq_getElem_cons h]
  rw [flat_append, flat_cons]
theorem off_le (rs : List Rc) (k : Nat) (h : k < rs.length) : off rs k < (flat rs).length := by
  have := rs[k].len
  rw [flat_at rs k h, List.length_append, List.length_append]
  unfold off; omega

/-- What is left of the first n bytes behind k records. -/
def left (rs : List Rc) (n k : Nat) (h : k < rs.length) : List Int := (rs[k].bytes ++ flat (rs.drop (k + 1))).take (n - off rs k)
theorem left_len {rs : List Rc} {n k : Nat} (h : k < rs.length) (hn : n ≤ (flat rs).length) : (left rs n k h).length = n - off rs k := by
  have e := congrArg List.length (flat_at rs k h)
  rw [List.length_append] at e
  unfold left
  rw [List.length_take]
  unfold off
  omega
theorem left_get {rs : List Rc} {n k : Nat} (h : k < rs.length) (j : Nat) (hj : j < n - off rs k) : (left rs n k h)[j]? = (flat rs)[off rs k + j]? := by
  unfold left
  have e := flat_at rs k h
  generalize rs[k].bytes ++ flat (rs.drop (k + 1)) = z at *
  rw [List.getElem?_take, if_pos hj, e, List.getElem?_append_right (by unfold off; omega)]
  congr 1
  unfold off; omega
theorem left_range {shs : List (Int × Int × Int)} {rs : List Rc} {n k : Nat} (h : k < rs.length) (ok : ∀ r ∈ rs, r.Ok shs) : ∀ d ∈ left rs n k h, 0 ≤ d ∧ d ≤ 255 := by
  intro d hd
  have hd := List.mem_of_mem_take hd
  rcases List.mem_append.1 hd with hd | hd
  · exact Rc.range (ok _ (List.getElem_mem h)) d hd
  · obtain ⟨r, hr, hd⟩ := List.mem_flatMap.1 hd
    exact Rc.range (ok r (List.mem_of_mem_drop hr)) d hd
theorem left_size {rs : List Rc} {n k : Nat} (h : k < rs.length) (h3 : 3 ≤ n - off rs k) : 3 + (left rs n k h).getD 1 0 * 8 + (left rs n k h).getD 2 0 = (rs[k].bytes.length : Int) := by
  have hl := rs[k].len
  have g1 : (left rs n k h)[1]? = some (rs[k].ns.length : Int) := by
    unfold left; rw [List.getElem?_take, if_pos (by omega), List.getElem?_append_left (by omega)]; exact recB_get1 _ _ _
  have g2 : (left rs n k h)[2]? = some (rs[k].val.length : Int) := by
    unfold left; rw [List.getElem?_take, if_pos (by omega), List.getElem?_append_left (by omega)]; simp [Rc.bytes, recB]
  simp only [List.getD, g1, g2, Option.getD_some]
  omega

/-- A list of records: each with lists of its own. -/
structure Recs (base : Nat) (w : World) (v : Value) (rs : List Rc) (xs : List Value) : Prop where
  own : w.ownsRow base 102 3 v rs.length xs
  len : xs.length = 3 * rs.length
  ns : ∀ j, (h : j < rs.length) → ∃ nv, xs[3 * j + 1]? = some nv ∧ w.ownsRow base 3 1 nv rs[j].ns.length (rs[j].ns.map (Value.int .i64))
  val : ∀ j, (h : j < rs.length) → ∃ vv, xs[3 * j + 2]? = some vv ∧ w.ownsRow base 5 1 vv rs[j].val.length (rs[j].val.map B8)
  kd : ∀ j, (h : j < rs.length) → xs[3 * j]? = some (.int .i64 rs[j].kd)

theorem Recs.nil (base : Nat) (w : World) : Recs base w (.slice none 0 0) [] [] := ⟨World.ownsRow_nil _ _ _ _, rfl, fun j h => by simp at h, fun j h => by simp at h, fun j h => by simp at h⟩
theorem Recs.only {S : Nat → Prop} {base : Nat} {w w' : World} {v : Value} {rs : List Rc} {xs : List Value} (h : Recs base w v rs xs) (ho : Only S w w') (hs : ∀ b, b < w.heap.size → S b → base ≤ b → ∃ c e f, w.heap[b]? = some (.cells c e f) ∧ e ≠ 102 ∧ e ≠ 3 ∧ e ≠ 5) : Recs base w' v rs xs := by
  have key : ∀ {e : TypeId} {size : Nat} {u : Value} {n : Nat} {ys : List Value}, (e = 102 ∨ e = 3 ∨ e = 5) → w.ownsRow base e size u n ys → w'.ownsRow base e size u n ys := by
    intro e size u n ys he hu
    refine ho.owns hu fun b hb hS => ?_
    obtain ⟨hb1, hb2⟩ := hu.lt b hb
    obtain ⟨c, e', f, hh, n1, n2, n3⟩ := hs b hb2 hS hb1
    refine own_ne_block hu hh ?_ hb
    rcases he with rfl | rfl | rfl <;> exact fun h => by subst h; contradiction
  refine ⟨key (.inl rfl) h.own, h.len, fun j hj => ?_, fun j hj => ?_, h.kd⟩
  · obtain ⟨nv, a, b⟩ := h.ns j hj; exact ⟨nv, a, key (.inr (.inl rfl)) b⟩
  · obtain ⟨vv, a, b⟩ := h.val j hj; exact ⟨vv, a, key (.inr (.inr rfl)) b⟩
theorem Recs.bl {base : Nat} {w w' : World} {v : Value} {rs : List Rc} {xs : List Value} (h : Recs base w v rs xs) (hb : Bl w w') : Recs base w' v rs xs :=
  h.only (Only.of_bl (S := fun _ => False) hb) fun _ _ e => e.elim

theorem Recs.push {base : Nat} {w w3 : World} {v V nv vv : Value} {rs : List Rc} {r : Rc} {xs : List Value} (h : Recs base w v rs xs) (hn : w.ownsRow base 3 1 nv r.ns.length (r.ns.map (Value.int .i64))) (hv : w.ownsRow base 5 1 vv r.val.length (r.val.map B8))
    (hg : w.grownBy w3 v.ownBlock) (ho : w3.ownsRow base 102 3 V (rs.length + 1) (xs ++ [.int .i64 r.kd, nv, vv])) : Recs base w3 V (rs ++ [r]) (xs ++ [.int .i64 r.kd, nv, vv]) := by
  have key : ∀ {e : TypeId} {size : Nat} {u : Value} {n : Nat} {ys : List Value}, e ≠ 102 → w.ownsRow base e size u n ys → w3.ownsRow base e size u n ys := by
    intro e size u n ys he hu
    exact (Only.of_grown hg).owns hu fun b hb hS => ownsRow_type h.own hu (Ne.symm he) b hS.symm hb
  have hxl := h.len
  refine ⟨by rw [List.length_append]; exact ho, by simp [h.len]; omega, fun j hj => ?_, fun j hj => ?_, fun j hj => ?_⟩
  all_goals
    rw [List.length_append, List.length_singleton] at hj
    by_cases hl : j < rs.length
  · obtain ⟨u, a, b⟩ := h.ns j hl
    rw [List.getElem?_append_left (by omega)]
    exact ⟨u, a, by simp only [List.getElem_append_left hl]; exact key (by decide) b⟩
  · obtain rfl : j = rs.length := by omega
    rw [List.getElem?_append_right (by omega), show 3 * rs.length + 1 - xs.length = 1 by omega]
    exact ⟨nv, rfl, by simp only [List.getElem_concat_length]; exact key (by decide) hn⟩
  · obtain ⟨u, a, b⟩ := h.val j hl
    rw [List.getElem?_append_left (by omega)]
    exact ⟨u, a, by simp only [List.getElem_append_left hl]; exact key (by decide) b⟩
  · obtain rfl : j = rs.length := by omega
    rw [List.getElem?_append_right (by omega), show 3 * rs.length + 2 - xs.length = 2 by omega]
    exact ⟨vv, rfl, by simp only [List.getElem_concat_length]; exact key (by decide) hv⟩
  · rw [List.getElem?_append_left (by omega)]
    simp only [List.getElem_append_left hl]; exact h.kd j hl
  · obtain rfl : j = rs.length := by omega
    rw [List.getElem?_append_right (by omega), show 3 * rs.length - xs.length = 0 by omega]
    simp

theorem off_ge (rs : List Rc) : ∀ k, k ≤ rs.length → 3 * k ≤ off rs k := by
  intro k
  induction k with
  | zero => intro _; omega
  | succ k ih => intro h; rw [off_succ rs k h]; have := ih (by omega); have := rs[k].len; omega

def lenOf : Value → Nat
  | .slice _ n _ => n
  | _ => 0

/-- The data that are left read as the bytes that are left. -/
theorem left_sl {w wr : World} {rs : List Rc} {b o c n k : Nat} (hb : b < w.heap.size) (hn : n ≤ (flat rs).length) (hc : ∀ j d, j < n → (flat rs)[j]? = some d → w.cell? ⟨b, o + j, none⟩ = some (B8 d)) (hbl : Bl w wr) (h : k < rs.length) : Sl wr (.slice (some ⟨b, o + off rs k, none⟩) (n - off rs k) (c - off rs k)) ((left rs n k h).map B8) := by
  refine .inr ⟨b, o + off rs k, _, by rw [List.length_map, left_len h hn], Nat.lt_of_lt_of_le hb hbl.lt, fun i hi => ?_⟩
  rw [List.length_map, left_len h hn] at hi
  have hj : off rs k + i < (flat rs).length := by omega
  have e := left_get (n := n) h i hi
  rw [hbl.cell hb, Nat.add_assoc, hc _ _ (by omega) (List.getElem?_eq_getElem hj)]
  rw [List.getElem?_eq_getElem hj] at e
  have := (List.getElem?_eq_some_iff.1 e).2
  simp [this]

set_option maxRecDepth 100000 in
set_option maxHeartbeats 2000000 in
theorem split_any (ad : Option Addr) (b o c n bs os cs : Nat) (rs : List Rc) (shs : List (Int × Int × Int)) (w : World) (hn : n ≤ (flat rs).length) (hnc : n ≤ c) (hn4 : n ≤ 40000000) (hcc : c ≤ 9223372036854775807) (had : 0 < n → ad = some ⟨b, o, none⟩ ∧ b < w.heap.size) (hc : ∀ j d, j < n → (flat rs)[j]? = some d → w.cell? ⟨b, o + j, none⟩ = some (B8 d))
    (hsh : Shapes w bs os shs) (hs : shs.length ≤ 1000) (ok : ∀ r ∈ rs, r.Ok shs) :
    Calls Try.prog 54 #[.slice ad n c, .slice (some ⟨bs, os, none⟩) shs.length cs] w fun e w' => ∃ k v xs, e = .returned (.tuple #[v, .bool true]) ∧ k ≤ rs.length ∧ off rs k ≤ n ∧ (∀ h : k < rs.length, n < off rs k + rs[k].bytes.length) ∧ Recs w.heap.size w' v (rs.take k) xs ∧ Bl w w' := by
  obtain ⟨i67, ji, jz0, jz1, jz2⟩ := info_parts Try.info102
  have Hc := hid hc
  have Had := hid had
  have Hsh := hid hsh
  have Ok := hid ok
  have Hn := hid hn
  clear hc had hsh ok hn
  go_enter Try.func54, Try.ntmps54
  have bR : Hid (Bl w (w.alloc (.cells #[.slice ad n c] 22))) := ((Bl.refl w).alloc _)
  have hX := hid (heap_alloc_new w (.cells #[.slice ad n c] 22))
  go_wp2
  go_loopw [6] (fun v wr => ∃ (k : Nat) (xs : List Value) (ad va : Option Addr) (vc : Nat), v = .slice va k vc ∧ k ≤ rs.length ∧ off rs k ≤ n ∧ (0 < n - off rs k → ad = some ⟨b, o + off rs k, none⟩ ∧ b < w.heap.size) ∧ wr.heap[w.heap.size]? = some (.cells #[.slice ad (n - off rs k) (c - off rs k)] 22 (0, 0)) ∧ Bl w wr ∧ Recs w.heap.size wr v (rs.take k) xs) (fun v _ => rs.length - lenOf v)
  case atStart => exact ⟨0, [], ad, none, 0, rfl, Nat.zero_le _, by rw [off_zero]; omega, by rw [off_zero]; exact Had.out, by rw [off_zero]; exact hX.out, bR.out, Recs.nil _ _⟩
  case round =>
    clear bR hX Had
    obtain ⟨k, xs, ad', va, vc, rfl, hk, hoff, had, hX, hbl, hR⟩ := hrel
    have HX := hid hX
    have HR := hid hR
    have x0 := cell_of_row wr w.heap.size 0 _ 22 (0, 0) hX
    have xf := frozen_of_row wr w.heap.size 0 _ 22 hX
    simp at x0
    have lX : w.heap.size < wr.heap.size := (Array.getElem?_eq_some_iff.1 hX).1
    clear hX hR
    by_cases hlt : off rs k < n
    · have hkl : k < rs.length := by
        rcases Nat.lt_or_ge k rs.length with h | h
        · exact h
        · obtain rfl : k = rs.length := by omega
          have := Hn.out; rw [off_all] at hlt; omega
      obtain ⟨hade, hb⟩ := had (by omega)
      subst hade
      have HL := hid (left_sl (c := c) hb Hn.out Hc.out hbl hkl)
      have HLl := hid (left_len hkl Hn.out)
      have Hrg := hid (left_range (n := n) hkl Ok.out)
      have Hfit := hid (Rc.fit_take (Ok.out _ (List.getElem_mem hkl)) (n - off rs k) (by omega) (flat (rs.drop (k + 1))) (left rs n k hkl) rfl)
      have Hsz := hid (fun h => left_size (n := n) hkl h)
      have Hsh' : Hid (Shapes wr bs os shs) := ⟨Nat.lt_of_lt_of_le Hsh.out.1 hbl.lt, fun j h => by rw [hbl.cell Hsh.out.1, hbl.cell Hsh.out.1, hbl.cell Hsh.out.1]; exact Hsh.out.2 j h⟩
      have hpos : (0 : Int) < ((n - off rs k : Nat) : Int) := by omega
      clear had
      go_wp2_with fail
      refine (containsShape_any bs os cs shs w.heap.size _ (left rs n k hkl) wr Hsh'.out lX x0 HL.out (by rw [HLl.out]; omega) (by rw [HLl.out]; omega) Hrg.out hs).mono ?_
      rw [Hfit.out]
      rintro e w2 ⟨rfl, hb2⟩
      have x2 := (hb2.cell lX).trans x0
      have HL2 := hid (HL.out.bl hb2)
      have HR2 := hid (HR.out.bl hb2)
      have HX2 := hid ((hb2.heap lX).trans HX.out)
      have hbl2 := hbl.trans hb2
      have lX2 := Nat.lt_of_lt_of_le lX hb2.lt
      clear HL HR HX Hsh' hbl hb2 x0 xf lX Hfit
      by_cases h3 : n - off rs k < 3
      · go_wp2_with fail
        refine (measure_short _ (left rs n k hkl) w2 HL2.out (by rw [HLl.out]; exact h3)).mono ?_
        rintro e w3 ⟨rfl, hb3⟩
        have HR3 := hid (HR2.out.bl hb3)
        have hbl3 := hid (hbl2.trans hb3)
        have hl3 : Hid (n < off rs k + rs[k].bytes.length) := by have := rs[k].len; unfold Hid; omega
        go_wp2
        go_ret2
        exact ⟨k, _, xs, rfl, hk, hoff, fun _ => hl3.out, HR3.out, hbl3.out⟩
      · go_wp2_with fail
        refine (measure_any _ (left rs n k hkl) w2 HL2.out (by rw [HLl.out]; omega) (by rw [HLl.out]; omega) Hrg.out).mono ?_
        rw [Hsz.out (by omega), HLl.out]
        rintro e w3 ⟨rfl, hb3⟩
        have HR3 := hid (HR2.out.bl hb3)
        have HX3 := hid ((hb3.heap lX2).trans HX2.out)
        have x3 := (hb3.cell lX2).trans x2
        have hbl3 := hbl2.trans hb3
        have lX3 := Nat.lt_of_lt_of_le lX2 hb3.lt
        by_cases hwh : n - off rs k < rs[k].bytes.length
        · have hdec : decide (((rs[k].bytes.length : Nat) : Int) ≤ ((n - off rs k : Nat) : Int)) = false := by simp; omega
          have hl3 : Hid (n < off rs k + rs[k].bytes.length) := by unfold Hid; omega
          rw [hdec]
          generalize hM : rs[k].bytes.length = m at *
          have HM := hid hM
          clear hM
          go_wp2
          go_ret2
          exact ⟨k, _, xs, rfl, hk, hoff, fun _ => by rw [HM.out]; exact hl3.out, HR3.out, hbl3⟩
        · have hdec : decide (((rs[k].bytes.length : Nat) : Int) ≤ ((n - off rs k : Nat) : Int)) = true := by simp; omega
          rw [hdec]
          have hbs : Hid (rs[k].bytes.length = (recB rs[k].kd rs[k].ns rs[k].val).length) := rfl
          have Hcr : Hid (∀ j d, (recB rs[k].kd rs[k].ns rs[k].val)[j]? = some d → w3.cell? ⟨b, o + off rs k + j, none⟩ = some (B8 d)) := by
            intro j d hj
            have hjl := (List.getElem?_eq_some_iff.1 hj).1
            have hjl' : j < rs[k].bytes.length := hjl
            have e := left_get (n := n) hkl j (by omega)
            unfold left at e
            rw [List.getElem?_take, if_pos (by omega), List.getElem?_append_left hjl'] at e
            rw [hbl3.cell hb, Nat.add_assoc]
            exact Hc.out _ _ (by omega) (e.symm.trans hj)
          have Okk := hid (Ok.out _ (List.getElem_mem hkl))
          have Ht := hid (List.take_succ_eq_append_getElem hkl)
          have Hos := hid (off_succ rs k hkl)
          have hm0 : 3 ≤ rs[k].bytes.length := by have := rs[k].len; omega
          have hm1 : ((rs[k].bytes.length : Nat) : Int) ≤ ((c - off rs k : Nat) : Int) := by omega
          have hm2 : ((rs[k].bytes.length : Nat) : Int) ≤ ((n - off rs k : Nat) : Int) := by omega
          generalize hRk : rs[k] = r at *
          have HRk := hid hRk
          clear hRk
          generalize hM : r.bytes.length = m at *
          have HM := hid hM
          clear hM hdec x2 HL2 HR2 HX2 hb3 lX2
          have Hrd := hid (fun (hcm : m ≤ c - off rs k) => read_any b (o + off rs k) (c - off rs k) r.kd r.ns r.val w3 (Nat.lt_of_lt_of_le hb hbl3.lt) Hcr.out (by rw [← hbs.out]; exact hcm) Okk.out.k0 Okk.out.k1 Okk.out.n0 Okk.out.n1 Okk.out.v1 Okk.out.wf (by omega))
          rw [← hbs.out] at Hrd
          have hlk : Hid ((rs.take k).length = k) := by unfold Hid; rw [List.length_take]; omega
          clear Hcr hbs Hrg HLl Hsz
          go_wp2_with fail
          refine (Hrd.out (by omega)).mono ?_
          rintro e w4 ⟨nv, vv, rfl, hb4, hnv, hvv⟩
          obtain ⟨na, nc, en⟩ : ∃ a c, nv = .slice a r.ns.length c := by
            obtain ⟨a', c', e'⟩ := (ownsRow_sl hnv).len
            rw [ownsRow_len hnv] at e'
            exact ⟨a', c', e'⟩
          subst en
          obtain ⟨wa, wc, ew⟩ : ∃ a c, vv = .slice a r.val.length c := by
            obtain ⟨a', c', e'⟩ := (ownsRow_sl hvv).len
            rw [ownsRow_len hvv] at e'
            exact ⟨a', c', e'⟩
          subst ew
          have Hnv := hid (ownsRow_base (base' := w.heap.size) hnv (fun b hb' => Nat.le_trans (Nat.le_of_lt lX3) (hnv.lt b hb').1))
          have Hvv := hid (ownsRow_base (base' := w.heap.size) hvv (fun b hb' => Nat.le_trans (Nat.le_of_lt lX3) (hvv.lt b hb').1))
          have HR4 := hid (HR3.out.bl hb4)
          have HX4 := hid ((hb4.heap lX3).trans HX3.out)
          have x4 := (hb4.cell lX3).trans x3
          have hbl4 := hid (hbl3.trans hb4)
          have lX4 := Nat.lt_of_lt_of_le lX3 hb4.lt
          have hxf := frozen_of_row w4 w.heap.size 0 _ 22 HX4.out
          have Hown : Hid (w4.ownsRow w.heap.size 102 3 (.slice va k vc) k xs) := by have := HR4.out.own; rw [hlk.out] at this; exact this
          have hnX := hid (own_ne_block Hown.out HX4.out (by decide))
          have hby : Hid ((k + 1) * 56 ≤ 140737488355328) := by
            have := off_ge rs k hk
            unfold Hid; omega
          have hml : Hid (k + 1 ≤ maxLen) := by
            have := off_ge rs k hk
            unfold Hid maxLen; omega
          clear hnv hvv hb4 HR3 HX3 x3 hbl3 Hrd lX3
          go_wp2_with (at_builtin; refine wpList_append_lies _ rfl _ _ 107 rfl w.heap.size 102 i67 _ 3 56 Try.underlying107 ji jz0 jz1 jz2 rfl (by decide) _ k xs rfl (Hown.out.alloc _) ⟨w4.heap.size, 0, none⟩ 1 1 [.int .i64 r.kd, .slice na r.ns.length nc, .slice wa r.val.length wc] rfl rfl (World.news_of_block (cs := #[.int .i64 r.kd, .slice na r.ns.length nc, .slice wa r.val.length wc]) (t := 102) (fr := (0, 0)) (heap_alloc_new w4 _)) (by simp [Value.oneCell']) (by decide) hml.out hby.out (by simp; omega) (w4.heap.size + 1) (by simp) ?_)
          intro g cap w5 hown hgrow hat hlt5
          have x5 := (far ((Bl.refl w4).alloc _) hgrow (o := 0) lX4 hnX.out).1.trans x4
          have xf5 := (far ((Bl.refl w4).alloc _) hgrow (o := 0) lX4 hnX.out).2.trans hxf
          have hg1 := hid hgrow
          have ho1 := hid hown
          clear hown hgrow hat x4 hxf
          have bA : Bl w4 (w4.alloc (.cells #[.int .i64 r.kd, .slice na r.ns.length nc, .slice wa r.val.length wc] 102)) := (Bl.refl w4).alloc _
          have X5 : Hid (w5.heap[w.heap.size]? = some (.cells #[.slice (some ⟨b, o + off rs k, none⟩) (n - off rs k) (c - off rs k)] 22 (0, 0))) := by
            show _ = _
            rw [hg1.out.block _ (Nat.lt_of_lt_of_le lX4 bA.lt) (fun e => hnX.out e.symm), bA.heap lX4]
            exact HX4.out
          have B5 := hid (((hbl4.out.trans bA).trans_only (Only.of_grown hg1.out) (fun b e => (Hown.out.lt b e.symm).1)))
          have R5 := hid ((HR4.out.bl bA).push ((Only.of_bl (S := fun _ => False) bA).owns Hnv.out fun _ _ e => e) ((Only.of_bl (S := fun _ => False) bA).owns Hvv.out fun _ _ e => e) hg1.out (by rw [hlk.out]; exact ho1.out))
          rw [← Ht.out] at R5
          clear hg1 ho1 bA HX4 HR4 Hnv Hvv Hown hbl4
          go_wp2
          refine ⟨⟨k + 1, xs ++ [.int .i64 r.kd, .slice na r.ns.length nc, .slice wa r.val.length wc], if c - off rs k = m then some ⟨b, o + off rs k, none⟩ else some ⟨b, o + off rs k + m, none⟩, some ⟨g, 0, none⟩, cap, rfl, by omega, by rw [Hos.out]; omega, fun h => ?_, ?_, ?_, ?_⟩, by simp [lenOf]; omega⟩
          · rw [Hos.out] at h ⊢
            rw [if_neg (by omega), Nat.add_assoc]
            exact ⟨rfl, hb⟩
          · rw [Hos.out, ← Nat.sub_sub, ← Nat.sub_sub]
            exact heap_setCell_same w5 w.heap.size 0 _ 22 _ X5.out
          · exact Below.setCell B5.out (Nat.le_refl _) _
          · refine R5.out.only ((Only.refl (fun b => b = w.heap.size) w5).setCell _ (.inl rfl) _) fun b _ e _ => ?_
            subst e
            exact ⟨_, _, _, X5.out, by decide, by decide, by decide⟩
    · have hkn : ∀ h : k < rs.length, Hid (n < off rs k + rs[k].bytes.length) := fun h => by have := rs[k].len; unfold Hid; omega
      have hz : n - off rs k = 0 := by omega
      rw [hz] at x0
      clear had
      go_wp2
      go_ret2
      exact ⟨k, _, xs, rfl, hk, hoff, fun h => (hkn h).out, HR.out, hbl⟩
end Go.Proofs.Ytbghhbpacijmmaa
