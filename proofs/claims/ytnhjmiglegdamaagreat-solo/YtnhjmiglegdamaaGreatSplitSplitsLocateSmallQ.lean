-- Lists of records as bytes: what a cut of them leaves whole (toward Split).
-- Split gives the records that are whole.
/-
  Which settings may be; Locate; Chain.
-/
-- The shapes of the records of cells, contents, copies of these.
import Derived.Test.YtnhjmiglegdamaaGreatRecFitsBytesReadQ
import Derived.Test.YtnhjmiglegdamaaGreatBaseNum
namespace Go.Proofs.YtnhjmiglegdamaaGreat
open Go.RowKit

/-- A record: its kind, its numbers, its value. -/
structure Rc where
  kd : Int
  ns : List Int
  val : List Int
def Rc.bytes (r : Rc) : List Int := recB r.kd r.ns r.val
def flat (rs : List Rc) : List Int := rs.flatMap Rc.bytes
theorem flat_cons (r : Rc) (rs : List Rc) : flat (r :: rs) = r.bytes ++ flat rs := by simp [flat]
theorem Rc.len (r : Rc) : r.bytes.length = 3 + 8 * r.ns.length + r.val.length := recB_len _ _ _

structure Rc.Ok (shs : List (Int × Int × Int)) (r : Rc) : Prop where
  k0 : 0 ≤ r.kd
  k1 : r.kd ≤ 255
  n0 : 1 ≤ r.ns.length
  n1 : r.ns.length ≤ 255
  v1 : r.val.length ≤ 255
  wf : ∀ n ∈ r.ns, (Lit.int .i64 n).wf = true
  by8 : ∀ d ∈ r.val, 0 ≤ d ∧ d ≤ 255
  fits : ∃ s ∈ shs, s.1 = r.kd ∧ s.2.1 = r.ns.length ∧ (r.val.length : Int) ≤ s.2.2

theorem byteAt_range (n : Int) (j : Nat) : 0 ≤ byteAt n j ∧ byteAt n j ≤ 255 := by
  unfold byteAt
  have h0 := Int.emod_nonneg (IntKind.u64.wrap n / 2 ^ (56 - 8 * j)) (show (256 : Int) ≠ 0 by decide)
  have h1 := Int.emod_lt_of_pos (IntKind.u64.wrap n / 2 ^ (56 - 8 * j)) (show (0 : Int) < 256 by decide)
  omega
theorem Rc.range {shs : List (Int × Int × Int)} {r : Rc} (h : r.Ok shs) : ∀ d ∈ r.bytes, 0 ≤ d ∧ d ≤ 255 := by
  intro d hd
  simp only [Rc.bytes, recB, List.mem_append, List.mem_cons, List.not_mem_nil, or_false, List.mem_flatMap] at hd
  have := h.k0; have := h.k1; have := h.n1; have := h.v1
  rcases hd with (rfl | rfl | rfl) | ⟨n, _, hd⟩ | hd
  · omega
  · omega
  · omega
  · simp only [enc8, List.mem_map] at hd
    obtain ⟨j, _, rfl⟩ := hd
    exact byteAt_range n j
  · exact h.by8 d hd

/-- The beginning of a record fits one of the shapes. -/
theorem Rc.fit_take {shs : List (Int × Int × Int)} {r : Rc} (h : r.Ok shs) (n : Nat) (hn : 0 < n) (rest : List Int) (ds : List Int) (hds : ds = (r.bytes ++ rest).take n) : (shs.any fun s => fitsB s.1 s.2.1 s.2.2 ds) = true := by
  obtain ⟨s, hs, e1, e2, e3⟩ := h.fits
  rw [List.any_eq_true]
  refine ⟨s, hs, ?_⟩
  have hl := r.len
  have g0 : ds[0]? = some r.kd := by
    rw [hds, List.getElem?_take, if_pos hn, List.getElem?_append_left (by omega)]; exact recB_get0 _ _ _
  have g1 : 1 < n → ds[1]? = some (r.ns.length : Int) := fun h1 => by
    rw [hds, List.getElem?_take, if_pos h1, List.getElem?_append_left (by omega)]; exact recB_get1 _ _ _
  have g2 : 2 < n → ds[2]? = some (r.val.length : Int) := fun h2 => by
    rw [hds, List.getElem?_take, if_pos h2, List.getElem?_append_left (by omega)]; simp [Rc.bytes, recB]
  have hlen : ds.length ≤ n := by rw [hds]; exact List.length_take_le _ _
  unfold fitsB
  rw [Bool.and_eq_true, Bool.and_eq_true]
  refine ⟨⟨by simp [List.getD, g0, e1], ?_⟩, ?_⟩
  · by_cases h1 : ds.length < 2
    · simp [h1]
    · simp [List.getD, g1 (by omega), e2]
  · by_cases h2 : ds.length < 3
    · simp [h2]
    · simp [List.getD, g2 (by omega)]; right; omega
end Go.Proofs.YtnhjmiglegdamaaGreat

namespace Go.Proofs.YtnhjmiglegdamaaGreat
open Go.RowKit
attribute [local go_sem ↓] Go.wp_at_zero Go.wp_at_succ
theorem Tryz.info309 : (Tryz.prog.info? 309).map (fun i => (i.zero, i.size, i.bytes)) = some (some (.agg #[.int .i64 0, .slice none 0 0, .slice none 0 0]), 3, 56) := by kernel_rfl

def off (rs : List Rc) (k : Nat) : Nat := (flat (rs.take k)).length
theorem off_zero (rs : List Rc) : off rs 0 = 0 := by simp [off, flat]
theorem flat_append (a b : List Rc) : flat (a ++ b) = flat a ++ flat b := by simp [flat]
theorem off_succ (rs : List Rc) (k : Nat) (h : k < rs.length) : off rs (k + 1) = off rs k + rs[k].bytes.length := by
  unfold off
  rw [List.take_succ_eq_append_getElem h, flat_append, List.length_append]
  simp [flat]
theorem off_all (rs : List Rc) : off rs rs.length = (flat rs).length := by simp [off]
theorem flat_at (rs : List Rc) (k : Nat) (h : k < rs.length) : flat rs = flat (rs.take k) ++ (rs[k].bytes ++ flat (rs.drop (k + 1))) := by
  conv => lhs; rw [← List.take_append_drop k rs, List.drop_eq_getElem_cons h]
  rw [flat_append, flat_cons]
theorem off_le (rs : List Rc) (k : Nat) (h : k < rs.length) : off rs k < (flat rs).length := by
  have := rs[k].len
  rw [flat_at rs k h, List.length_append, List.length_append]
  unfold off; omega

/-- What is left of the first n bytes behind k records. -/
def left (rs : List Rc) (n k : Nat) (h : k < rs.length) : List Int := (rs[k].bytes ++ flat (rs.drop (k + 1))).take (n - off rs k)
theorem left_len {rs : List Rc} {n k : Nat} (h : k < rs.length) (hn : n ≤ (flat rs).length) : (left rs n k h).length = n - off rs k := by
  have e := congrArg List.length (flat_at rs k h)
  rw [List.length_append] at e
  unfold left
  rw [List.length_take]
  unfold off
  omega
theorem left_get {rs : List Rc} {n k : Nat} (h : k < rs.length) (j : Nat) (hj : j < n - off rs k) : (left rs n k h)[j]? = (flat rs)[off rs k + j]? := by
  unfold left
  have e := flat_at rs k h
  generalize rs[k].bytes ++ flat (rs.drop (k + 1)) = z at *
  rw [List.getElem?_take, if_pos hj, e, List.getElem?_append_right (by unfold off; omega)]
  congr 1
  unfold off; omega
theorem left_range {shs : List (Int × Int × Int)} {rs : List Rc} {n k : Nat} (h : k < rs.length) (ok : ∀ r ∈ rs, r.Ok shs) : ∀ d ∈ left rs n k h, 0 ≤ d ∧ d ≤ 255 := by
  intro d hd
  have hd := List.mem_of_mem_take hd
  rcases List.mem_append.1 hd with hd | hd
  · exact Rc.range (ok _ (List.getElem_mem h)) d hd
  · obtain ⟨r, hr, hd⟩ := List.mem_flatMap.1 hd
    exact Rc.range (ok r (List.mem_of_mem_drop hr)) d hd
theorem left_size {rs : List Rc} {n k : Nat} (h : k < rs.length) (h3 : 3 ≤ n - off rs k) : 3 + (left rs n k h).getD 1 0 * 8 + (left rs n k h).getD 2 0 = (rs[k].bytes.length : Int) := by
  have hl := rs[k].len
  have g1 : (left rs n k h)[1]? = some (rs[k].ns.length : Int) := by
    unfold left; rw [List.getElem?_take, if_pos (by omega), List.getElem?_append_left (by omega)]; exact recB_get1 _ _ _
  have g2 : (left rs n k h)[2]? = some (rs[k].val.length : Int) := by
    unfold left; rw [List.getElem?_take, if_pos (by omega), List.getElem?_append_left (by omega)]; simp [Rc.bytes, recB]
  simp only [List.getD, g1, g2, Option.getD_some]
  omega

/-- A list of records: each with lists of its own. -/
structure Recs (base : Nat) (w : World) (v : Value) (rs : List Rc) (xs : List Value) : Prop where
  own : w.ownsRow base 309 3 v rs.length xs
  len : xs.length = 3 * rs.length
  ns : ∀ j, (h : j < rs.length) → ∃ nv, xs[3 * j + 1]? = some nv ∧ w.ownsRow base 3 1 nv rs[j].ns.length (rs[j].ns.map (Value.int .i64))
  val : ∀ j, (h : j < rs.length) → ∃ vv, xs[3 * j + 2]? = some vv ∧ w.ownsRow base 5 1 vv rs[j].val.length (rs[j].val.map B8)
  kd : ∀ j, (h : j < rs.length) → xs[3 * j]? = some (.int .i64 rs[j].kd)

theorem Recs.nil (base : Nat) (w : World) : Recs base w (.slice none 0 0) [] [] := ⟨World.ownsRow_nil _ _ _ _, rfl, fun j h => by simp at h, fun j h => by simp at h, fun j h => by simp at h⟩
theorem Recs.only {S : Nat → Prop} {base : Nat} {w w' : World} {v : Value} {rs : List Rc} {xs : List Value} (h : Recs base w v rs xs) (ho : Only S w w') (hs : ∀ b, b < w.heap.size → S b → base ≤ b → ∃ c e f, w.heap[b]? = some (.cells c e f) ∧ e ≠ 309 ∧ e ≠ 3 ∧ e ≠ 5) : Recs base w' v rs xs := by
  have key : ∀ {e : TypeId} {size : Nat} {u : Value} {n : Nat} {ys : List Value}, (e = 309 ∨ e = 3 ∨ e = 5) → w.ownsRow base e size u n ys → w'.ownsRow base e size u n ys := by
    intro e size u n ys he hu
    refine ho.owns hu fun b hb hS => ?_
    obtain ⟨hb1, hb2⟩ := hu.lt b hb
    obtain ⟨c, e', f, hh, n1, n2, n3⟩ := hs b hb2 hS hb1
    refine own_ne_block hu hh ?_ hb
    rcases he with rfl | rfl | rfl <;> exact fun h => by subst h; contradiction
  refine ⟨key (.inl rfl) h.own, h.len, fun j hj => ?_, fun j hj => ?_, h.kd⟩
  · obtain ⟨nv, a, b⟩ := h.ns j hj; exact ⟨nv, a, key (.inr (.inl rfl)) b⟩
  · obtain ⟨vv, a, b⟩ := h.val j hj; exact ⟨vv, a, key (.inr (.inr rfl)) b⟩
theorem Recs.bl {base : Nat} {w w' : World} {v : Value} {rs : List Rc} {xs : List Value} (h : Recs base w v rs xs) (hb : Bl w w') : Recs base w' v rs xs :=
  h.only (Only.of_bl (S := fun _ => False) hb) fun _ _ e => e.elim

theorem Recs.push {base : Nat} {w w3 : World} {v V nv vv : Value} {rs : List Rc} {r : Rc} {xs : List Value} (h : Recs base w v rs xs) (hn : w.ownsRow base 3 1 nv r.ns.length (r.ns.map (Value.int .i64))) (hv : w.ownsRow base 5 1 vv r.val.length (r.val.map B8))
    (hg : w.grownBy w3 v.ownBlock) (ho : w3.ownsRow base 309 3 V (rs.length + 1) (xs ++ [.int .i64 r.kd, nv, vv])) : Recs base w3 V (rs ++ [r]) (xs ++ [.int .i64 r.kd, nv, vv]) := by
  have key : ∀ {e : TypeId} {size : Nat} {u : Value} {n : Nat} {ys : List Value}, e ≠ 309 → w.ownsRow base e size u n ys → w3.ownsRow base e size u n ys := by
    intro e size u n ys he hu
    exact (Only.of_grown hg).owns hu fun b hb hS => ownsRow_type h.own hu (Ne.symm he) b hS.symm hb
  have hxl := h.len
  refine ⟨by rw [List.length_append]; exact ho, by simp [h.len]; omega, fun j hj => ?_, fun j hj => ?_, fun j hj => ?_⟩
  all_goals
    rw [List.length_append, List.length_singleton] at hj
    by_cases hl : j < rs.length
  · obtain ⟨u, a, b⟩ := h.ns j hl
    rw [List.getElem?_append_left (by omega)]
    exact ⟨u, a, by simp only [List.getElem_append_left hl]; exact key (by decide) b⟩
  · obtain rfl : j = rs.length := by omega
    rw [List.getElem?_append_right (by omega), show 3 * rs.length + 1 - xs.length = 1 by omega]
    exact ⟨nv, rfl, by simp only [List.getElem_concat_length]; exact key (by decide) hn⟩
  · obtain ⟨u, a, b⟩ := h.val j hl
    rw [List.getElem?_append_left (by omega)]
    exact ⟨u, a, by simp only [List.getElem_append_left hl]; exact key (by decide) b⟩
  · obtain rfl : j = rs.length := by omega
    rw [List.getElem?_append_right (by omega), show 3 * rs.length + 2 - xs.length = 2 by omega]
    exact ⟨vv, rfl, by simp only [List.getElem_concat_length]; exact key (by decide) hv⟩
  · rw [List.getElem?_append_left (by omega)]
    simp only [List.getElem_append_left hl]; exact h.kd j hl
  · obtain rfl : j = rs.length := by omega
    rw [List.getElem?_append_right (by omega), show 3 * rs.length - xs.length = 0 by omega]
    simp

theorem off_ge (rs : List Rc) : ∀ k, k ≤ rs.length → 3 * k ≤ off rs k := by
  intro k
  induction k with
  | zero => intro _; omega
  | succ k ih => intro h; rw [off_succ rs k h]; have := ih (by omega); have := rs[k].len; omega

def lenOf : Value → Nat
  | .slice _ n _ => n
  | _ => 0

/-- The data that are left read as the bytes that are left. -/
theorem left_sl {w wr : World} {rs : List Rc} {b o c n k : Nat} (hb : b < w.heap.size) (hn : n ≤ (flat rs).length) (hc : ∀ j d, j < n → (flat rs)[j]? = some d → w.cell? ⟨b, o + j, none⟩ = some (B8 d)) (hbl : Bl w wr) (h : k < rs.length) : Sl wr (.slice (some ⟨b, o + off rs k, none⟩) (n - off rs k) (c - off rs k)) ((left rs n k h).map B8) := by
  refine .inr ⟨b, o + off rs k, _, by rw [List.length_map, left_len h hn], Nat.lt_of_lt_of_le hb hbl.lt, fun i hi => ?_⟩
  rw [List.length_map, left_len h hn] at hi
  have hj : off rs k + i < (flat rs).length := by omega
  have e := left_get (n := n) h i hi
  rw [hbl.cell hb, Nat.add_assoc, hc _ _ (by omega) (List.getElem?_eq_getElem hj)]
  rw [List.getElem?_eq_getElem hj] at e
  have := (List.getElem?_eq_some_iff.1 e).2
  simp [this]

set_option maxRecDepth 100000 in
set_option maxHeartbeats 2000000 in
theorem split_any (ad : Option Addr) (b o c n bs os cs : Nat) (rs : List Rc) (shs : List (Int × Int × Int)) (w : World) (hn : n ≤ (flat rs).length) (hnc : n ≤ c) (hn4 : n ≤ 40000000) (hcc : c ≤ 9223372036854775807) (had : 0 < n → ad = some ⟨b, o, none⟩ ∧ b < w.heap.size) (hc : ∀ j d, j < n → (flat rs)[j]? = some d → w.cell? ⟨b, o + j, none⟩ = some (B8 d))
    (hsh : Shapes w bs os shs) (hs : shs.length ≤ 1000) (ok : ∀ r ∈ rs, r.Ok shs) :
    Calls Tryz.prog 230 #[.slice ad n c, .slice (some ⟨bs, os, none⟩) shs.length cs] w fun e w' => ∃ k v xs, e = .returned (.tuple #[v, .bool true]) ∧ k ≤ rs.length ∧ off rs k ≤ n ∧ (∀ h : k < rs.length, n < off rs k + rs[k].bytes.length) ∧ Recs w.heap.size w' v (rs.take k) xs ∧ Bl w w' := by
  obtain ⟨i67, ji, jz0, jz1, jz2⟩ := info_parts Tryz.info309
  have Hc := hid hc
  have Had := hid had
  have Hsh := hid hsh
  have Ok := hid ok
  have Hn := hid hn
  clear hc had hsh ok hn
  go_enter Tryz.func230, Tryz.ntmps230
  have bR : Hid (Bl w (w.alloc (.cells #[.slice ad n c] 40))) := ((Bl.refl w).alloc _)
  have hX := hid (heap_alloc_new w (.cells #[.slice ad n c] 40))
  go_wp2
  go_loopw [6] (fun v wr => ∃ (k : Nat) (xs : List Value) (ad va : Option Addr) (vc : Nat), v = .slice va k vc ∧ k ≤ rs.length ∧ off rs k ≤ n ∧ (0 < n - off rs k → ad = some ⟨b, o + off rs k, none⟩ ∧ b < w.heap.size) ∧ wr.heap[w.heap.size]? = some (.cells #[.slice ad (n - off rs k) (c - off rs k)] 40 (0, 0)) ∧ Bl w wr ∧ Recs w.heap.size wr v (rs.take k) xs) (fun v _ => rs.length - lenOf v)
  case atStart => exact ⟨0, [], ad, none, 0, rfl, Nat.zero_le _, by rw [off_zero]; omega, by rw [off_zero]; exact Had.out, by rw [off_zero]; exact hX.out, bR.out, Recs.nil _ _⟩
  case round =>
    clear bR hX Had
    obtain ⟨k, xs, ad', va, vc, rfl, hk, hoff, had, hX, hbl, hR⟩ := hrel
    have HX := hid hX
    have HR := hid hR
    have x0 := cell_of_row wr w.heap.size 0 _ 40 (0, 0) hX
    have xf := frozen_of_row wr w.heap.size 0 _ 40 hX
    simp at x0
    have lX : w.heap.size < wr.heap.size := (Array.getElem?_eq_some_iff.1 hX).1
    clear hX hR
    by_cases hlt : off rs k < n
    · have hkl : k < rs.length := by
        rcases Nat.lt_or_ge k rs.length with h | h
        · exact h
        · obtain rfl : k = rs.length := by omega
          have := Hn.out; rw [off_all] at hlt; omega
      obtain ⟨hade, hb⟩ := had (by omega)
      subst hade
      have HL := hid (left_sl (c := c) hb Hn.out Hc.out hbl hkl)
      have HLl := hid (left_len hkl Hn.out)
      have Hrg := hid (left_range (n := n) hkl Ok.out)
      have Hfit := hid (Rc.fit_take (Ok.out _ (List.getElem_mem hkl)) (n - off rs k) (by omega) (flat (rs.drop (k + 1))) (left rs n k hkl) rfl)
      have Hsz := hid (fun h => left_size (n := n) hkl h)
      have Hsh' : Hid (Shapes wr bs os shs) := ⟨Nat.lt_of_lt_of_le Hsh.out.1 hbl.lt, fun j h => by rw [hbl.cell Hsh.out.1, hbl.cell Hsh.out.1, hbl.cell Hsh.out.1]; exact Hsh.out.2 j h⟩
      have hpos : (0 : Int) < ((n - off rs k : Nat) : Int) := by omega
      clear had
      go_wp2_with fail
      refine (containsShape_any bs os cs shs w.heap.size _ (left rs n k hkl) wr Hsh'.out lX x0 HL.out (by rw [HLl.out]; omega) (by rw [HLl.out]; omega) Hrg.out hs).mono ?_
      rw [Hfit.out]
      rintro e w2 ⟨rfl, hb2⟩
      have x2 := (hb2.cell lX).trans x0
      have HL2 := hid (HL.out.bl hb2)
      have HR2 := hid (HR.out.bl hb2)
      have HX2 := hid ((hb2.heap lX).trans HX.out)
      have hbl2 := hbl.trans hb2
      have lX2 := Nat.lt_of_lt_of_le lX hb2.lt
      clear HL HR HX Hsh' hbl hb2 x0 xf lX Hfit
      by_cases h3 : n - off rs k < 3
      · go_wp2_with fail
        refine (measure_short _ (left rs n k hkl) w2 HL2.out (by rw [HLl.out]; exact h3)).mono ?_
        rintro e w3 ⟨rfl, hb3⟩
        have HR3 := hid (HR2.out.bl hb3)
        have hbl3 := hid (hbl2.trans hb3)
        have hl3 : Hid (n < off rs k + rs[k].bytes.length) := by have := rs[k].len; unfold Hid; omega
        go_wp2
        go_ret2
        exact ⟨k, _, xs, rfl, hk, hoff, fun _ => hl3.out, HR3.out, hbl3.out⟩
      · go_wp2_with fail
        refine (measure_any _ (left rs n k hkl) w2 HL2.out (by rw [HLl.out]; omega) (by rw [HLl.out]; omega) Hrg.out).mono ?_
        rw [Hsz.out (by omega), HLl.out]
        rintro e w3 ⟨rfl, hb3⟩
        have HR3 := hid (HR2.out.bl hb3)
        have HX3 := hid ((hb3.heap lX2).trans HX2.out)
        have x3 := (hb3.cell lX2).trans x2
        have hbl3 := hbl2.trans hb3
        have lX3 := Nat.lt_of_lt_of_le lX2 hb3.lt
        by_cases hwh : n - off rs k < rs[k].bytes.length
        · have hdec : decide (((rs[k].bytes.length : Nat) : Int) ≤ ((n - off rs k : Nat) : Int)) = false := by simp; omega
          have hl3 : Hid (n < off rs k + rs[k].bytes.length) := by unfold Hid; omega
          rw [hdec]
          generalize hM : rs[k].bytes.length = m at *
          have HM := hid hM
          clear hM
          go_wp2
          go_ret2
          exact ⟨k, _, xs, rfl, hk, hoff, fun _ => by rw [HM.out]; exact hl3.out, HR3.out, hbl3⟩
        · have hdec : decide (((rs[k].bytes.length : Nat) : Int) ≤ ((n - off rs k : Nat) : Int)) = true := by simp; omega
          rw [hdec]
          have hbs : Hid (rs[k].bytes.length = (recB rs[k].kd rs[k].ns rs[k].val).length) := rfl
          have Hcr : Hid (∀ j d, (recB rs[k].kd rs[k].ns rs[k].val)[j]? = some d → w3.cell? ⟨b, o + off rs k + j, none⟩ = some (B8 d)) := by
            intro j d hj
            have hjl := (List.getElem?_eq_some_iff.1 hj).1
            have hjl' : j < rs[k].bytes.length := hjl
            have e := left_get (n := n) hkl j (by omega)
            unfold left at e
            rw [List.getElem?_take, if_pos (by omega), List.getElem?_append_left hjl'] at e
            rw [hbl3.cell hb, Nat.add_assoc]
            exact Hc.out _ _ (by omega) (e.symm.trans hj)
          have Okk := hid (Ok.out _ (List.getElem_mem hkl))
          have Ht := hid (List.take_succ_eq_append_getElem hkl)
          have Hos := hid (off_succ rs k hkl)
          have hm0 : 3 ≤ rs[k].bytes.length := by have := rs[k].len; omega
          have hm1 : ((rs[k].bytes.length : Nat) : Int) ≤ ((c - off rs k : Nat) : Int) := by omega
          have hm2 : ((rs[k].bytes.length : Nat) : Int) ≤ ((n - off rs k : Nat) : Int) := by omega
          generalize hRk : rs[k] = r at *
          have HRk := hid hRk
          clear hRk
          generalize hM : r.bytes.length = m at *
          have HM := hid hM
          clear hM hdec x2 HL2 HR2 HX2 hb3 lX2
          have Hrd := hid (fun (hcm : m ≤ c - off rs k) => read_any b (o + off rs k) (c - off rs k) r.kd r.ns r.val w3 (Nat.lt_of_lt_of_le hb hbl3.lt) Hcr.out (by rw [← hbs.out]; exact hcm) Okk.out.k0 Okk.out.k1 Okk.out.n0 Okk.out.n1 Okk.out.v1 Okk.out.wf (by omega))
          rw [← hbs.out] at Hrd
          have hlk : Hid ((rs.take k).length = k) := by unfold Hid; rw [List.length_take]; omega
          clear Hcr hbs Hrg HLl Hsz
          go_wp2_with fail
          refine (Hrd.out (by omega)).mono ?_
          rintro e w4 ⟨nv, vv, rfl, hb4, hnv, hvv⟩
          obtain ⟨na, nc, en⟩ : ∃ a c, nv = .slice a r.ns.length c := by
            obtain ⟨a', c', e'⟩ := (ownsRow_sl hnv).len
            rw [ownsRow_len hnv] at e'
            exact ⟨a', c', e'⟩
          subst en
          obtain ⟨wa, wc, ew⟩ : ∃ a c, vv = .slice a r.val.length c := by
            obtain ⟨a', c', e'⟩ := (ownsRow_sl hvv).len
            rw [ownsRow_len hvv] at e'
            exact ⟨a', c', e'⟩
          subst ew
          have Hnv := hid (ownsRow_base (base' := w.heap.size) hnv (fun b hb' => Nat.le_trans (Nat.le_of_lt lX3) (hnv.lt b hb').1))
          have Hvv := hid (ownsRow_base (base' := w.heap.size) hvv (fun b hb' => Nat.le_trans (Nat.le_of_lt lX3) (hvv.lt b hb').1))
          have HR4 := hid (HR3.out.bl hb4)
          have HX4 := hid ((hb4.heap lX3).trans HX3.out)
          have x4 := (hb4.cell lX3).trans x3
          have hbl4 := hid (hbl3.trans hb4)
          have lX4 := Nat.lt_of_lt_of_le lX3 hb4.lt
          have hxf := frozen_of_row w4 w.heap.size 0 _ 40 HX4.out
          have Hown : Hid (w4.ownsRow w.heap.size 309 3 (.slice va k vc) k xs) := by have := HR4.out.own; rw [hlk.out] at this; exact this
          have hnX := hid (own_ne_block Hown.out HX4.out (by decide))
          have hby : Hid ((k + 1) * 56 ≤ 140737488355328) := by
            have := off_ge rs k hk
            unfold Hid; omega
          have hml : Hid (k + 1 ≤ maxLen) := by
            have := off_ge rs k hk
            unfold Hid maxLen; omega
          clear hnv hvv hb4 HR3 HX3 x3 hbl3 Hrd lX3
          go_wp2_with (at_builtin; refine wpList_append_lies _ rfl _ _ 305 rfl w.heap.size 309 i67 _ 3 56 Tryz.underlying305 ji jz0 jz1 jz2 rfl (by decide) _ k xs rfl (Hown.out.alloc _) ⟨w4.heap.size, 0, none⟩ 1 1 [.int .i64 r.kd, .slice na r.ns.length nc, .slice wa r.val.length wc] rfl rfl (World.news_of_block (cs := #[.int .i64 r.kd, .slice na r.ns.length nc, .slice wa r.val.length wc]) (t := 309) (fr := (0, 0)) (heap_alloc_new w4 _)) (by simp [Value.oneCell']) (by decide) hml.out hby.out (by simp; omega) (w4.heap.size + 1) (by simp) ?_)
          intro g cap w5 hown hgrow hat hlt5
          have x5 := (far ((Bl.refl w4).alloc _) hgrow (o := 0) lX4 hnX.out).1.trans x4
          have xf5 := (far ((Bl.refl w4).alloc _) hgrow (o := 0) lX4 hnX.out).2.trans hxf
          have hg1 := hid hgrow
          have ho1 := hid hown
          clear hown hgrow hat x4 hxf
          have bA : Bl w4 (w4.alloc (.cells #[.int .i64 r.kd, .slice na r.ns.length nc, .slice wa r.val.length wc] 309)) := (Bl.refl w4).alloc _
          have X5 : Hid (w5.heap[w.heap.size]? = some (.cells #[.slice (some ⟨b, o + off rs k, none⟩) (n - off rs k) (c - off rs k)] 40 (0, 0))) := by
            show _ = _
            rw [hg1.out.block _ (Nat.lt_of_lt_of_le lX4 bA.lt) (fun e => hnX.out e.symm), bA.heap lX4]
            exact HX4.out
          have B5 := hid (((hbl4.out.trans bA).trans_only (Only.of_grown hg1.out) (fun b e => (Hown.out.lt b e.symm).1)))
          have R5 := hid ((HR4.out.bl bA).push ((Only.of_bl (S := fun _ => False) bA).owns Hnv.out fun _ _ e => e) ((Only.of_bl (S := fun _ => False) bA).owns Hvv.out fun _ _ e => e) hg1.out (by rw [hlk.out]; exact ho1.out))
          rw [← Ht.out] at R5
          clear hg1 ho1 bA HX4 HR4 Hnv Hvv Hown hbl4
          go_wp2
          refine ⟨⟨k + 1, xs ++ [.int .i64 r.kd, .slice na r.ns.length nc, .slice wa r.val.length wc], if c - off rs k = m then some ⟨b, o + off rs k, none⟩ else some ⟨b, o + off rs k + m, none⟩, some ⟨g, 0, none⟩, cap, rfl, by omega, by rw [Hos.out]; omega, fun h => ?_, ?_, ?_, ?_⟩, by simp [lenOf]; omega⟩
          · rw [Hos.out] at h ⊢
            rw [if_neg (by omega), Nat.add_assoc]
            exact ⟨rfl, hb⟩
          · rw [Hos.out, ← Nat.sub_sub, ← Nat.sub_sub]
            exact heap_setCell_same w5 w.heap.size 0 _ 40 _ X5.out
          · exact Below.setCell B5.out (Nat.le_refl _) _
          · refine R5.out.only ((Only.refl (fun b => b = w.heap.size) w5).setCell _ (.inl rfl) _) fun b _ e _ => ?_
            subst e
            exact ⟨_, _, _, X5.out, by decide, by decide, by decide⟩
    · have hkn : ∀ h : k < rs.length, Hid (n < off rs k + rs[k].bytes.length) := fun h => by have := rs[k].len; unfold Hid; omega
      have hz : n - off rs k = 0 := by omega
      rw [hz] at x0
      clear had
      go_wp2
      go_ret2
      exact ⟨k, _, xs, rfl, hk, hoff, fun h => (hkn h).out, HR.out, hbl⟩
end Go.Proofs.YtnhjmiglegdamaaGreat

namespace Go.Proofs.YtnhjmiglegdamaaGreat
open Go.RowKit


set_option maxHeartbeats 400000 in
theorem ok_yes (n m : Int) (w : World) (h1 : 1 ≤ n) (h2 : n ≤ m) :
    Calls Tryz.prog 144 #[.int .i64 n, .int .i64 m] w fun e w' => e = .returned (.bool true) ∧ w' = w := by
  go_enter Tryz.func144, Tryz.ntmps144
  go_wp2
  go_ret
  exact ⟨rfl, rfl⟩

set_option maxHeartbeats 400000 in
theorem ok_no (n m : Int) (w : World) (h : n < 1 ∨ m < n) :
    Calls Tryz.prog 144 #[.int .i64 n, .int .i64 m] w fun e w' => e = .returned (.bool false) ∧ w' = w := by
  by_cases h1 : 1 ≤ n
  · have h2 : decide (n ≤ m) = false := by simp; omega
    clear h
    go_enter Tryz.func144, Tryz.ntmps144
    go_wp2
    go_ret
    exact ⟨rfl, rfl⟩
  · clear h
    go_enter Tryz.func144, Tryz.ntmps144
    go_wp2
    go_ret
    exact ⟨rfl, rfl⟩

set_option maxHeartbeats 400000 in
theorem valid_yes (a b c d : Int) (w : World) (h1 : 1 ≤ a) (h2 : a ≤ 3) (h3 : 1 ≤ b) (h4 : b ≤ 3) (h5 : 1 ≤ c) (h6 : c ≤ 5) (h7 : c % 2 = 1) (h8 : 1 ≤ d) (h9 : d ≤ 16) :
    Calls Tryz.prog 80 #[.agg #[.int .i64 a, .int .i64 b, .int .i64 c, .int .i64 d]] w fun e w' => e = .returned (.bool true) ∧ Bl w w' := by
  go_enter Tryz.func80, Tryz.ntmps80
  go_wp2_with fail
  refine (ok_yes a 3 _ h1 h2).mono ?_; rintro e w' ⟨rfl, rfl⟩
  go_wp2_with fail
  refine (ok_yes b 3 _ h3 h4).mono ?_; rintro e w' ⟨rfl, rfl⟩
  go_wp2_with fail
  refine (ok_yes c 5 _ h5 h6).mono ?_; rintro e w' ⟨rfl, rfl⟩
  go_wp2_with fail
  refine (ok_yes d 16 _ h8 h9).mono ?_; rintro e w' ⟨rfl, rfl⟩
  go_wp2
  go_ret
  exact ⟨rfl, (Bl.refl _).alloc _⟩
set_option maxHeartbeats 400000 in
theorem valid_no0 (a b c d : Int) (w : World)  (h : a < 1 ∨ 3 < a) :
    Calls Tryz.prog 80 #[.agg #[.int .i64 a, .int .i64 b, .int .i64 c, .int .i64 d]] w fun e w' => e = .returned (.bool false) ∧ Bl w w' := by
  go_enter Tryz.func80, Tryz.ntmps80
  go_wp2_with fail
  refine (ok_no a 3 _ h).mono ?_; rintro e w' ⟨rfl, rfl⟩
  go_wp2
  go_ret
  exact ⟨rfl, (Bl.refl _).alloc _⟩

set_option maxHeartbeats 400000 in
theorem valid_no1 (a b c d : Int) (w : World) (h1 : 1 ≤ a) (h2 : a ≤ 3) (h : b < 1 ∨ 3 < b) :
    Calls Tryz.prog 80 #[.agg #[.int .i64 a, .int .i64 b, .int .i64 c, .int .i64 d]] w fun e w' => e = .returned (.bool false) ∧ Bl w w' := by
  go_enter Tryz.func80, Tryz.ntmps80
  go_wp2_with fail
  refine (ok_yes a 3 _ h1 h2).mono ?_; rintro e w' ⟨rfl, rfl⟩
  go_wp2_with fail
  refine (ok_no b 3 _ h).mono ?_; rintro e w' ⟨rfl, rfl⟩
  go_wp2
  go_ret
  exact ⟨rfl, (Bl.refl _).alloc _⟩

set_option maxHeartbeats 400000 in
theorem valid_no2 (a b c d : Int) (w : World) (h1 : 1 ≤ a) (h2 : a ≤ 3) (h3 : 1 ≤ b) (h4 : b ≤ 3) (h : c < 1 ∨ 5 < c) :
    Calls Tryz.prog 80 #[.agg #[.int .i64 a, .int .i64 b, .int .i64 c, .int .i64 d]] w fun e w' => e = .returned (.bool false) ∧ Bl w w' := by
  go_enter Tryz.func80, Tryz.ntmps80
  go_wp2_with fail
  refine (ok_yes a 3 _ h1 h2).mono ?_; rintro e w' ⟨rfl, rfl⟩
  go_wp2_with fail
  refine (ok_yes b 3 _ h3 h4).mono ?_; rintro e w' ⟨rfl, rfl⟩
  go_wp2_with fail
  refine (ok_no c 5 _ h).mono ?_; rintro e w' ⟨rfl, rfl⟩
  go_wp2
  go_ret
  exact ⟨rfl, (Bl.refl _).alloc _⟩

set_option maxHeartbeats 400000 in
theorem valid_no3 (a b c d : Int) (w : World) (h1 : 1 ≤ a) (h2 : a ≤ 3) (h3 : 1 ≤ b) (h4 : b ≤ 3) (h5 : 1 ≤ c) (h6 : c ≤ 5) (h : ¬ c % 2 = 1) :
    Calls Tryz.prog 80 #[.agg #[.int .i64 a, .int .i64 b, .int .i64 c, .int .i64 d]] w fun e w' => e = .returned (.bool false) ∧ Bl w w' := by
  have hz : (c % 2 == 1) = false := by simp; omega
  clear h
  go_enter Tryz.func80, Tryz.ntmps80
  go_wp2_with fail
  refine (ok_yes a 3 _ h1 h2).mono ?_; rintro e w' ⟨rfl, rfl⟩
  go_wp2_with fail
  refine (ok_yes b 3 _ h3 h4).mono ?_; rintro e w' ⟨rfl, rfl⟩
  go_wp2_with fail
  refine (ok_yes c 5 _ h5 h6).mono ?_; rintro e w' ⟨rfl, rfl⟩
  go_wp2
  go_ret
  exact ⟨rfl, (Bl.refl _).alloc _⟩

set_option maxHeartbeats 400000 in
theorem valid_no4 (a b c d : Int) (w : World) (h1 : 1 ≤ a) (h2 : a ≤ 3) (h3 : 1 ≤ b) (h4 : b ≤ 3) (h5 : 1 ≤ c) (h6 : c ≤ 5) (h7 : c % 2 = 1) (h : d < 1 ∨ 16 < d) :
    Calls Tryz.prog 80 #[.agg #[.int .i64 a, .int .i64 b, .int .i64 c, .int .i64 d]] w fun e w' => e = .returned (.bool false) ∧ Bl w w' := by
  go_enter Tryz.func80, Tryz.ntmps80
  go_wp2_with fail
  refine (ok_yes a 3 _ h1 h2).mono ?_; rintro e w' ⟨rfl, rfl⟩
  go_wp2_with fail
  refine (ok_yes b 3 _ h3 h4).mono ?_; rintro e w' ⟨rfl, rfl⟩
  go_wp2_with fail
  refine (ok_yes c 5 _ h5 h6).mono ?_; rintro e w' ⟨rfl, rfl⟩
  go_wp2_with fail
  refine (ok_no d 16 _ h).mono ?_; rintro e w' ⟨rfl, rfl⟩
  go_wp2
  go_ret
  exact ⟨rfl, (Bl.refl _).alloc _⟩

/-- The settings may be. -/
def fit (a b c d : Int) : Bool := decide ((1 ≤ a ∧ a ≤ 3) ∧ (1 ≤ b ∧ b ≤ 3) ∧ (1 ≤ c ∧ c ≤ 5) ∧ c % 2 = 1 ∧ (1 ≤ d ∧ d ≤ 16))

theorem valid_any (a b c d : Int) (w : World) :
    Calls Tryz.prog 80 #[.agg #[.int .i64 a, .int .i64 b, .int .i64 c, .int .i64 d]] w fun e w' => e = .returned (.bool (fit a b c d)) ∧ Bl w w' := by
  by_cases ha : 1 ≤ a ∧ a ≤ 3
  · by_cases hb : 1 ≤ b ∧ b ≤ 3
    · by_cases hc : 1 ≤ c ∧ c ≤ 5
      · by_cases hm : c % 2 = 1
        · by_cases hd : 1 ≤ d ∧ d ≤ 16
          · rw [show fit a b c d = true from by simp [fit, *]]
            exact valid_yes a b c d w ha.1 ha.2 hb.1 hb.2 hc.1 hc.2 hm hd.1 hd.2
          · rw [show fit a b c d = false from by simp [fit]; omega]
            exact valid_no4 a b c d w ha.1 ha.2 hb.1 hb.2 hc.1 hc.2 hm (by omega)
        · rw [show fit a b c d = false from by simp [fit]; omega]
          exact valid_no3 a b c d w ha.1 ha.2 hb.1 hb.2 hc.1 hc.2 hm
      · rw [show fit a b c d = false from by simp [fit]; omega]
        exact valid_no2 a b c d w ha.1 ha.2 hb.1 hb.2 (by omega)
    · rw [show fit a b c d = false from by simp [fit]; omega]
      exact valid_no1 a b c d w ha.1 ha.2 (by omega)
  · rw [show fit a b c d = false from by simp [fit]; omega]
    exact valid_no0 a b c d w (by omega)

/-- What Locate answers: chain, cell, error. -/
def loc (a b c d x : Int) : Int × Int × Int :=
  if fit a b c d = true then (if x < 0 ∨ a * d ≤ x then (0, 0, 2) else (x % a, x / a, 0)) else (0, 0, 1)

theorem fit_bd {a b c d : Int} (h : fit a b c d = true) : 1 ≤ a ∧ a ≤ 3 ∧ 1 ≤ d ∧ d ≤ 16 := by
  simp [fit] at h; omega

def tup (r : Int × Int × Int) : Ending := .returned (.tuple #[.int .i64 r.1, .int .i64 r.2.1, .int .i64 r.2.2])

theorem mul_bd {a d : Int} (h1 : 1 ≤ a) (h2 : a ≤ 3) (h3 : 1 ≤ d) (h4 : d ≤ 16) : 1 ≤ a * d ∧ a * d ≤ 48 := by
  have := Int.mul_le_mul h2 h4 (by omega) (by omega)
  have := Int.mul_le_mul h1 h3 (by omega) (by omega)
  omega

set_option maxHeartbeats 400000 in
theorem locate_any (a b c d x : Int) (w : World) :
    Calls Tryz.prog 87 #[.agg #[.int .i64 a, .int .i64 b, .int .i64 c, .int .i64 d], .int .i64 x] w fun e w' => e = tup (loc a b c d x) ∧ Bl w w' := by
  cases hf : fit a b c d
  · go_enter Tryz.func87, Tryz.ntmps87
    go_wp2_with fail
    refine (valid_any a b c d _).mono ?_; rintro e w' ⟨rfl, hb⟩
    go_wp2
    go_ret3
    exact ⟨by simp [tup, loc, hf], ((Bl.refl _).alloc _).trans hb⟩
  · obtain ⟨h1, h2, h3, h4⟩ := fit_bd hf
    have hm := mul_bd h1 h2 h3 h4
    by_cases hx : x < 0
    · have hl : Hid (loc a b c d x = (0, 0, 2)) := by simp [Hid, loc, hf, hx]
      go_enter Tryz.func87, Tryz.ntmps87
      go_wp2_with fail
      refine (valid_any a b c d _).mono ?_; rintro e w' ⟨rfl, hb⟩
      have hc0 := (hb.cell (b := w.heap.size) (o := 0) (by simp))
      have hc3 := (hb.cell (b := w.heap.size) (o := 3) (by simp))
      go_wp2
      go_ret3
      exact ⟨by rw [hl.out]; rfl, ((Bl.refl _).alloc _).trans hb⟩
    · by_cases hy : a * d ≤ x
      · have hl : Hid (loc a b c d x = (0, 0, 2)) := by simp [Hid, loc, hf, hy]
        go_enter Tryz.func87, Tryz.ntmps87
        go_wp2_with fail
        refine (valid_any a b c d _).mono ?_; rintro e w' ⟨rfl, hb⟩
        have hc0 := (hb.cell (b := w.heap.size) (o := 0) (by simp))
        have hc3 := (hb.cell (b := w.heap.size) (o := 3) (by simp))
        go_wp2
        go_ret3
        exact ⟨by rw [hl.out]; rfl, ((Bl.refl _).alloc _).trans hb⟩
      · have hl : Hid (loc a b c d x = (x % a, x / a, 0)) := by simp [Hid, loc, hf, hy, hx]
        have hx0 : 0 ≤ x := by omega
        have hx1 : x < 48 := by omega
        have hdec : decide (a * d ≤ x) = false := by simpa using hy
        have ha0 : (a == 0) = false := by simp; omega
        go_enter Tryz.func87, Tryz.ntmps87
        go_wp2_with fail
        refine (valid_any a b c d _).mono ?_; rintro e w' ⟨rfl, hb⟩
        have hc0 := (hb.cell (b := w.heap.size) (o := 0) (by simp))
        have hc3 := (hb.cell (b := w.heap.size) (o := 3) (by simp))
        go_wp2
        go_quiet (fail)
        go_wp2
        go_ret3
        exact ⟨by rw [hl.out]; rfl, (((Bl.refl _).alloc _).trans hb).drewN _⟩

theorem fit_bd2 {a b c d : Int} (h : fit a b c d = true) : 1 ≤ b ∧ b ≤ 3 := by
  simp [fit] at h; omega

/-- Chain: the chain of a unit, and an error. -/
def cha (a b c d u : Int) : Int × Int :=
  if fit a b c d = true then (if u < 0 ∨ a * b ≤ u then (0, 1) else (u / b, 0)) else (0, 1)
def tup2 (r : Int × Int) : Ending := .returned (.tuple #[.int .i64 r.1, .int .i64 r.2])

set_option maxHeartbeats 400000 in
theorem chain_any (a b c d u : Int) (w : World) :
    Calls Tryz.prog 89 #[.agg #[.int .i64 a, .int .i64 b, .int .i64 c, .int .i64 d], .int .i64 u] w fun e w' => e = tup2 (cha a b c d u) ∧ Bl w w' := by
  cases hf : fit a b c d
  · go_enter Tryz.func89, Tryz.ntmps89
    go_wp2_with fail
    refine (valid_any a b c d _).mono ?_; rintro e w' ⟨rfl, hb⟩
    go_wp2
    go_ret2
    exact ⟨by simp [tup2, cha, hf], ((Bl.refl _).alloc _).trans hb⟩
  · obtain ⟨h1, h2, _, _⟩ := fit_bd hf
    obtain ⟨h3, h4⟩ := fit_bd2 hf
    have hm := mul_bd h1 h2 h3 (by omega)
    by_cases hx : u < 0
    · have hl : Hid (cha a b c d u = (0, 1)) := by simp [Hid, cha, hf, hx]
      go_enter Tryz.func89, Tryz.ntmps89
      go_wp2_with fail
      refine (valid_any a b c d _).mono ?_; rintro e w' ⟨rfl, hb⟩
      have hc0 := (hb.cell (b := w.heap.size) (o := 0) (by simp))
      have hc1 := (hb.cell (b := w.heap.size) (o := 1) (by simp))
      go_wp2
      go_ret2
      exact ⟨by rw [hl.out]; rfl, ((Bl.refl _).alloc _).trans hb⟩
    · by_cases hy : a * b ≤ u
      · have hl : Hid (cha a b c d u = (0, 1)) := by simp [Hid, cha, hf, hy]
        go_enter Tryz.func89, Tryz.ntmps89
        go_wp2_with fail
        refine (valid_any a b c d _).mono ?_; rintro e w' ⟨rfl, hb⟩
        have hc0 := (hb.cell (b := w.heap.size) (o := 0) (by simp))
        have hc1 := (hb.cell (b := w.heap.size) (o := 1) (by simp))
        go_wp2
        go_ret2
        exact ⟨by rw [hl.out]; rfl, ((Bl.refl _).alloc _).trans hb⟩
      · have hl : Hid (cha a b c d u = (u / b, 0)) := by simp [Hid, cha, hf, hy, hx]
        have hx0 : 0 ≤ u := by omega
        have hx1 : u < 48 := by omega
        have hdec : decide (a * b ≤ u) = false := by simpa using hy
        have ha0 : (b == 0) = false := by simp; omega
        go_enter Tryz.func89, Tryz.ntmps89
        go_wp2_with fail
        refine (valid_any a b c d _).mono ?_; rintro e w' ⟨rfl, hb⟩
        have hc0 := (hb.cell (b := w.heap.size) (o := 0) (by simp))
        have hc1 := (hb.cell (b := w.heap.size) (o := 1) (by simp))
        go_wp2
        go_ret2
        exact ⟨by rw [hl.out]; rfl, ((Bl.refl _).alloc _).trans hb⟩
end Go.Proofs.YtnhjmiglegdamaaGreat

namespace Go.Proofs.YtnhjmiglegdamaaGreat
open Go.RowKit
attribute [local go_sem ↓] Go.wp_at_zero Go.wp_at_succ

/-- The shapes of the records of cells. -/
def shs : List (Int × Int × Int) := [(1, 1, 0), (2, 2, 0), (3, 5, 8)]
set_option maxRecDepth 100000 in
set_option maxHeartbeats 400000 in
theorem shapes_any (w : World) : Calls Tryz.prog 182 #[] w fun e w' => e = .returned (.slice (some ⟨w.heap.size, 0, none⟩) 3 3) ∧ Shapes w' w.heap.size 0 shs ∧ Bl w w' := by
  go_enter Tryz.func182, Tryz.ntmps182
  go_wp2
  go_ret
  refine ⟨rfl, ⟨by simp, fun j h => ?_⟩, (Bl.refl _).alloc _⟩
  have hj : j = 0 ∨ j = 1 ∨ j = 2 := by simp [shs] at h; omega
  rcases hj with rfl | rfl | rfl <;> simp [shs, go_sem]

/-- May this be a content? -/
def isC (kd : Int) (n : Nat) : Bool := if kd = 8 then decide (1 ≤ n ∧ n ≤ 8) else if kd = 9 then decide (n = 0) else false
set_option maxRecDepth 100000 in
set_option maxHeartbeats 400000 in
theorem isContent_any (kd cl ca : Int) (a : Option Addr) (n c : Nat) (w : World) (hn : n ≤ 40000000) : Calls Tryz.prog 222 #[.agg #[.int .i64 kd, .int .i64 cl, .int .i64 ca, .slice a n c]] w fun e w' => e = .returned (.bool (isC kd n)) ∧ Bl w w' := by
  by_cases h8 : kd = 8
  · subst h8
    by_cases h1 : 1 ≤ n
    · by_cases h2 : n ≤ 8
      all_goals
        have F : Hid (isC 8 n = decide (n ≤ 8)) := by simp [Hid, isC]; omega
        go_enter Tryz.func222, Tryz.ntmps222
        go_wp2
        go_ret
        exact ⟨ret_bool (by rw [F.out]; simp; try omega), (Bl.refl _).alloc _⟩
    · have F : Hid (isC 8 n = false) := by simp [Hid, isC]; omega
      have hn0 : n = 0 := by omega
      subst hn0
      go_enter Tryz.func222, Tryz.ntmps222
      go_wp2
      go_ret
      exact ⟨ret_bool (by rw [F.out]), (Bl.refl _).alloc _⟩
  · by_cases h9 : kd = 9
    · subst h9
      clear h8
      by_cases hz : n = 0
      · subst hz
        go_enter Tryz.func222, Tryz.ntmps222
        go_wp2
        go_ret
        exact ⟨ret_bool rfl, (Bl.refl _).alloc _⟩
      · have F : Hid (isC 9 n = false) := by simp [Hid, isC, hz]
        have e0 : ((n : Int) == 0) = false := by simpa using hz
        go_enter Tryz.func222, Tryz.ntmps222
        go_wp2
        go_ret
        exact ⟨ret_bool (by rw [F.out]), (Bl.refl _).alloc _⟩
    · have F : Hid (isC kd n = false) := by simp [Hid, isC, h8, h9]
      have e8 : (kd == 8) = false := by simpa using h8
      have e9 : (kd == 9) = false := by simpa using h9
      clear h8 h9
      go_enter Tryz.func222, Tryz.ntmps222
      go_wp2
      go_ret
      exact ⟨ret_bool F.out.symm, (Bl.refl _).alloc _⟩

set_option maxRecDepth 100000 in
set_option maxHeartbeats 400000 in
theorem copied_any (kd cl ca : Int) (v : Value) (ys : List Int) (w : World) (hv : Bs w v (ys.map B8)) (hl : ys.length ≤ 40000000) :
    Calls Tryz.prog 253 #[.agg #[.int .i64 kd, .int .i64 cl, .int .i64 ca, v]] w fun e w' => ∃ v', e = .returned (.agg #[.int .i64 kd, .int .i64 cl, .int .i64 ca, v']) ∧ Bl w w' ∧ w'.ownsRow w.heap.size 5 1 v' ys.length (ys.map B8) := by
  obtain ⟨a, c, e⟩ := hv.len
  rw [List.length_map] at e
  subst e
  have Hv := hid hv
  clear hv
  go_enter Tryz.func253, Tryz.ntmps253
  have bW : Bl w ((w.alloc (.cells #[.int .i64 kd, .int .i64 cl, .int .i64 ca, .slice a ys.length c] 91)).alloc (.cells #[.int .i64 0, .int .i64 0, .int .i64 0, .slice none 0 0] 91)) := ((Bl.refl w).alloc _).alloc _
  have hA := (Below.heap_alloc (w.alloc (.cells #[.int .i64 kd, .int .i64 cl, .int .i64 ca, .slice a ys.length c] 91)) (.cells #[.int .i64 0, .int .i64 0, .int .i64 0, .slice none 0 0] 91) w.heap.size (by simp)).trans (heap_alloc_new w _)
  have hB : ((w.alloc (.cells #[.int .i64 kd, .int .i64 cl, .int .i64 ca, .slice a ys.length c] 91)).alloc (.cells #[.int .i64 0, .int .i64 0, .int .i64 0, .slice none 0 0] 91)).heap[w.heap.size + 1]? = some (.cells #[.int .i64 0, .int .i64 0, .int .i64 0, .slice none 0 0] 91 (0, 0)) := by
    have := heap_alloc_new (w.alloc (.cells #[.int .i64 kd, .int .i64 cl, .int .i64 ca, .slice a ys.length c] 91)) (.cells #[.int .i64 0, .int .i64 0, .int .i64 0, .slice none 0 0] 91)
    simpa using this
  have BW := hid bW
  have HA := hid hA
  have HB := hid hB
  clear bW hA hB
  go_wp2_with fail
  refine (clone_any _ ys _ (Hv.out.bl BW.out) hl).mono ?_
  rintro e w2 ⟨vv, rfl, b2, hv2⟩
  obtain ⟨va, vc, ev⟩ : ∃ a c, vv = .slice a ys.length c := by
    obtain ⟨a', c', e'⟩ := (ownsRow_sl hv2).len
    rw [ownsRow_len hv2] at e'
    exact ⟨a', c', e'⟩
  subst ev
  have lB := (Array.getElem?_eq_some_iff.1 HB.out).1
  have HA2 := hid ((b2.heap (Nat.lt_trans (Nat.lt_succ_self _) lB)).trans HA.out)
  have HB2 := hid ((b2.heap lB).trans HB.out)
  have Hv2 := hid hv2
  have Hbl2 := hid (BW.out.trans b2)
  have hsz := BW.out.lt
  have a0 := cell_of_row w2 w.heap.size 0 _ 91 (0, 0) HA2.out
  have a1 := cell_of_row w2 w.heap.size 1 _ 91 (0, 0) HA2.out
  have a2 := cell_of_row w2 w.heap.size 2 _ 91 (0, 0) HA2.out
  have a3 := cell_of_row w2 w.heap.size 3 _ 91 (0, 0) HA2.out
  have f3 := frozen_of_row w2 w.heap.size 3 _ 91 HA2.out
  have p0 := cell_of_row w2 (w.heap.size + 1) 0 _ 91 (0, 0) HB2.out
  have p1 := cell_of_row w2 (w.heap.size + 1) 1 _ 91 (0, 0) HB2.out
  have p2 := cell_of_row w2 (w.heap.size + 1) 2 _ 91 (0, 0) HB2.out
  have p3 := cell_of_row w2 (w.heap.size + 1) 3 _ 91 (0, 0) HB2.out
  have g0 := frozen_of_row w2 (w.heap.size + 1) 0 _ 91 HB2.out
  have g1 := frozen_of_row w2 (w.heap.size + 1) 1 _ 91 HB2.out
  have g2 := frozen_of_row w2 (w.heap.size + 1) 2 _ 91 HB2.out
  have g3 := frozen_of_row w2 (w.heap.size + 1) 3 _ 91 HB2.out
  simp at a0 a1 a2 a3 p0 p1 p2 p3
  clear hv2 b2 BW HA HB lB
  go_wp2
  have F : Only (fun b => b = w.heap.size ∨ b = w.heap.size + 1) w2 _ := (((((Only.refl (fun b => b = w.heap.size ∨ b = w.heap.size + 1) w2).setCell ⟨w.heap.size, 3, none⟩ (.inl (.inl rfl)) (.slice va ys.length vc)).setCell ⟨w.heap.size + 1, 0, none⟩ (.inl (.inr rfl)) (.int .i64 kd)).setCell ⟨w.heap.size + 1, 1, none⟩ (.inl (.inr rfl)) (.int .i64 cl)).setCell ⟨w.heap.size + 1, 2, none⟩ (.inl (.inr rfl)) (.int .i64 ca)).setCell ⟨w.heap.size + 1, 3, none⟩ (.inl (.inr rfl)) (.slice va ys.length vc)
  refine bodyPost_ret (v := .agg #[.int .i64 kd, .int .i64 cl, .int .i64 ca, .slice va ys.length vc]) (by simp [results, Tryz.results253, go_sem, p0, p1, p2, p3]) rfl ⟨_, rfl, ?_, ?_⟩
  · exact Hbl2.out.trans_only F (fun n hn => by rcases hn with h | h <;> omega)
  · have this := ownsRow_base (base' := w.heap.size) Hv2.out (fun b hb' => Nat.le_trans hsz (Hv2.out.lt b hb').1)
    refine F.owns this fun b hb' e => ?_
    rcases e with e | e
    · exact own_ne_block this HA2.out (by decide) (by rw [hb', e])
    · exact own_ne_block this HB2.out (by decide) (by rw [hb', e])
end Go.Proofs.YtnhjmiglegdamaaGreat
