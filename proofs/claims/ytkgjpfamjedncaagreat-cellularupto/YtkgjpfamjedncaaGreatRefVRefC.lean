/-
  The document's own voter: its slots.
-/
-- The document's cells: settings, places, epochs.
import Derived.Test.YtkgjpfamjedncaaGreatOwnBBookBLooksB
import Derived.Test.YtkgjpfamjedncaaGreatLocateSmall
import Derived.Test.YtkgjpfamjedncaaGreatKeepReach
namespace Go.Proofs.YtkgjpfamjedncaaGreat
open Go.RowKit
attribute [local go_sem ↓] Go.wp_at_zero Go.wp_at_succ
theorem Tryz.info140 : (Tryz.prog.info? 140).map (fun i => (i.zero, i.size, i.bytes)) = some (some (.agg #[.int .i64 0, .int .i64 0, .int .i64 0, .slice none 0 0]), 4, 48) := by kernel_rfl

/-- A slot: its epoch, what it holds, the slice of its value. -/
structure Sq where
  e : Int
  s : Ep
  v : Value
def sq4 (x : Sq) : List Value := [.int .i64 x.e, .int .i64 x.s.pr, .int .i64 x.s.ba, x.v]
def row4 (F : Nat → Sq) : Nat → List Value
  | 0 => []
  | n + 1 => row4 F n ++ sq4 (F n)
theorem row4_len (F : Nat → Sq) : ∀ n, (row4 F n).length = n * 4
  | 0 => rfl
  | n + 1 => by rw [row4, List.length_append, row4_len F n]; simp [sq4]; omega
theorem row4_get (F : Nat → Sq) (n i c : Nat) (hi : i < n) (hc : c < 4) : (row4 F n)[i * 4 + c]? = (sq4 (F i))[c]? := by
  induction n with
  | zero => omega
  | succ n ih =>
    rw [row4]
    by_cases e : i < n
    · rw [List.getElem?_append_left (by rw [row4_len]; omega)]; exact ih e
    · obtain rfl : i = n := by omega
      rw [List.getElem?_append_right (by rw [row4_len]; omega), row4_len]
      congr 1
      omega
theorem row4_congr {F G : Nat → Sq} {n : Nat} (h : ∀ i, i < n → F i = G i) : row4 F n = row4 G n := by
  induction n with
  | zero => rfl
  | succ n ih => rw [row4, row4, ih fun i hi => h i (by omega), h n (by omega)]
def upF (F : Nat → Sq) (k : Nat) (x : Sq) : Nat → Sq := fun j => if j = k then x else F j
theorem upF_same (F : Nat → Sq) (k : Nat) (x : Sq) : upF F k x k = x := by simp [upF]
theorem upF_other (F : Nat → Sq) (k j : Nat) (x : Sq) (h : j ≠ k) : upF F k x j = F j := by simp [upF, h]
theorem row4_push (F : Nat → Sq) (n : Nat) (x : Sq) : row4 (upF F n x) (n + 1) = row4 F n ++ sq4 x := by
  rw [row4, upF_same, row4_congr fun i hi => upF_other F n i x (by omega)]
theorem row4_set (F : Nat → Sq) (n i c : Nat) (hi : i < n) (hc : c < 4) (u : Value) (x : Sq) (hx : (sq4 (F i)).set c u = sq4 x) : (row4 F n).set (i * 4 + c) u = row4 (upF F i x) n := by
  induction n with
  | zero => omega
  | succ n ih =>
    rw [row4, row4]
    by_cases e : i < n
    · rw [List.set_append_left _ _ (by rw [row4_len]; omega), ih e, upF_other _ _ _ _ (by omega)]
    · obtain rfl : i = n := by omega
      rw [List.set_append_right _ _ (by rw [row4_len]; omega), row4_len, upF_same, row4_congr fun j hj => (upF_other F i j x (by omega)).symm, ← hx]
      congr 2
      omega

/-- The document's voter in block y: n slots, as F tells. -/
structure Rw (B0 : Nat) (w : World) (y : Nat) (lv : Value) (n : Nat) (F : Nat → Sq) : Prop where
  blk : w.heap[y]? = some (.cells #[lv] 88 (0, 0))
  own : w.ownsRow B0 140 4 lv n (row4 F n)
  val : ∀ i, i < n → w.ownsRow 0 5 1 (F i).v (F i).s.val.length ((F i).s.val.map B8)
theorem Rw.lt {B0 : Nat} {w : World} {y : Nat} {lv : Value} {n : Nat} {F : Nat → Sq} (h : Rw B0 w y lv n F) : y < w.heap.size := (Array.getElem?_eq_some_iff.1 h.blk).1
theorem Rw.only {S : Nat → Prop} {B0 : Nat} {w w' : World} {y : Nat} {lv : Value} {n : Nat} {F : Nat → Sq} (h : Rw B0 w y lv n F) (ho : Only S w w') (hy : ¬ S y) (hl : ∀ b, lv.ownBlock = some b → ¬ S b) (hs : ∀ i, i < n → ∀ b, (F i).v.ownBlock = some b → ¬ S b) : Rw B0 w' y lv n F :=
  ⟨(ho.block y h.lt hy).trans h.blk, ho.owns h.own hl, fun i hi => ho.owns (h.val i hi) (hs i hi)⟩
theorem Rw.bl {B0 : Nat} {w w' : World} {y : Nat} {lv : Value} {n : Nat} {F : Nat → Sq} (h : Rw B0 w y lv n F) (hb : Bl w w') : Rw B0 w' y lv n F := h.only (Only.of_bl (S := fun _ => False) hb) (fun e => e) (fun _ _ e => e) (fun _ _ _ _ e => e)
theorem own_len4 {w : World} {base : Nat} {e : TypeId} {v : Value} {n : Nat} {xs : List Value} (h : w.ownsRow base e 4 v n xs) : ∃ a c, v = .slice a n c := by
  rcases h.2 with ⟨e, e'⟩ | ⟨g, cap, cur, e, _⟩
  · exact ⟨_, _, by rw [e, e']⟩
  · exact ⟨_, _, e⟩
theorem own_shape4 {w : World} {base : Nat} {e : TypeId} {v : Value} {n : Nat} {xs : List Value} (h : w.ownsRow base e 4 v n xs) (hn : 0 < n) : ∃ g cap, v = .slice (some ⟨g, 0, none⟩) n cap := by
  rcases h.2 with ⟨_, h'⟩ | ⟨g, cap, cur, h', _⟩
  · omega
  · exact ⟨g, cap, h'⟩
/-- The slot of an epoch that has one. -/
def Has (n : Nat) (F : Nat → Sq) (e : Int) (i : Nat) : Prop := i < n ∧ (F i).e = e ∧ ∀ j, j < i → (F j).e ≠ e

set_option maxRecDepth 100000 in
set_option maxHeartbeats 1000000 in
theorem slotOld_any (B0 y : Nat) (lv : Value) (n : Nat) (F : Nat → Sq) (e : Int) (i : Nat) (w : World) (h : Rw B0 w y lv n F) (hi : Has n F e i) (hn : n ≤ 4000000) :
    Calls Tryz.prog 81 #[.pointer (some ⟨y, 0, none⟩), .int .i64 e] w fun en w' => en = .returned (.int .i64 i) ∧ w' = w := by
  obtain ⟨a, c, rfl⟩ := own_len4 h.own
  have hin := hi.1
  obtain ⟨g, cap, hsh⟩ := own_shape4 h.own (by omega)
  simp only [Value.slice.injEq] at hsh
  obtain ⟨rfl, _, rfl⟩ := hsh
  have c0 := cell_of_row w y 0 _ 88 (0, 0) h.blk
  simp at c0
  have ly := h.lt
  have lg := (h.own.lt g rfl).2
  have hc : Hid (∀ j, j < n → w.cell? ⟨g, j * 4, none⟩ = some (.int .i64 (F j).e)) := fun j hj => by
    have h1 := h.own.cellAt (j * 4) (by omega)
    rw [h1]
    exact row4_get F n j 0 hj (by omega)
  have Hi := hid hi
  clear h hi
  go_enter Tryz.func81, Tryz.ntmps81
  go_wp2
  go_loop [5] (fun iv => ∃ k : Nat, k ≤ i ∧ iv = .int .i64 k) (fun iv => n - (intOf iv).toNat)
  case atStart => exact ⟨0, Nat.zero_le _, rfl⟩
  case round =>
    obtain ⟨k, hk, rfl⟩ := hrel
    have hkn : k < n := by omega
    have hcell := hc.out k hkn
    by_cases hlt : k < i
    · have hne := Hi.out.2.2 k hlt
      have hneb : ((F k).e == e) = false := by simp [hne]
      generalize (F k).e = ek at *
      go_wp2
      go_round
      case rel => exact ⟨k + 1, by omega, by go_num⟩
      case measure => simp [intOf]; omega
    · obtain rfl : k = i := by omega
      rw [Hi.out.2.1] at hcell
      go_wp2
      go_ret
      exact ⟨rfl, rfl⟩

/-- What the document's voter turns. -/
def Rfoot (y : Nat) (lv : Value) (b : Nat) : Prop := b = y ∨ lv.ownBlock = some b
theorem Rw.vals {B0 : Nat} {w w' : World} {y : Nat} {lv : Value} {n : Nat} {F : Nat → Sq} (h : Rw B0 w y lv n F) (ho : Only (Rfoot y lv) w w') (i : Nat) (hi : i < n) : w'.ownsRow 0 5 1 (F i).v (F i).s.val.length ((F i).s.val.map B8) := by
  refine ho.owns (h.val i hi) fun b hb e => ?_
  rcases e with rfl | e
  · exact own_ne_block (h.val i hi) h.blk (by decide) hb
  · exact ownsRow_type (h.val i hi) h.own (by decide) b hb e
theorem Rw.push {B0 : Nat} {w W w3 : World} {y : Nat} {lv : Value} {n : Nat} {F : Nat → Sq} (h : Rw B0 w y lv n F) (hb : Bl w W) (hg : W.grownBy w3 lv.ownBlock) {gg cap : Nat} {x : Sq} (ho : w3.ownsRow B0 140 4 (.slice (some ⟨gg, 0, none⟩) (n + 1) cap) (n + 1) (row4 F n ++ sq4 x)) (hx : x.v = .slice none 0 0 ∧ x.s.val = []) :
    Rw B0 (w3.setCell ⟨y, 0, none⟩ (.slice (some ⟨gg, 0, none⟩) (n + 1) cap)) y (.slice (some ⟨gg, 0, none⟩) (n + 1) cap) (n + 1) (upF F n x) ∧ Only (Rfoot y lv) w (w3.setCell ⟨y, 0, none⟩ (.slice (some ⟨gg, 0, none⟩) (n + 1) cap)) := by
  have nl := own_ne_block h.own h.blk (by decide)
  have o1 : Only (Rfoot y lv) w w3 := (Only.of_bl hb).trans ((Only.of_grown hg).mono fun k _ e => .inr e.symm)
  have O := o1.setCell ⟨y, 0, none⟩ (.inl (.inl rfl)) (.slice (some ⟨gg, 0, none⟩) (n + 1) cap)
  have hy3 : w3.heap[y]? = some (.cells #[lv] 88 (0, 0)) := by
    have h1 := hg.block y (Nat.lt_of_lt_of_le h.lt hb.lt) (fun e => nl e.symm)
    rw [h1, hb.heap h.lt]; exact h.blk
  refine ⟨⟨heap_setCell_same w3 y 0 _ 88 _ hy3, ?_, fun i hi => ?_⟩, O⟩
  · rw [row4_push]
    exact ownsRow_of ho fun b hb' => Below.heap_setCell _ _ _ _ (fun e => own_ne_block ho hy3 (by decide) (by rw [hb', e]))
  · by_cases e : i < n
    · rw [upF_other _ _ _ _ (by omega)]; exact h.vals O i e
    · obtain rfl : i = n := by omega
      rw [upF_same, hx.1, hx.2]
      exact World.ownsRow_nil _ _ _ _

set_option maxRecDepth 100000 in
set_option maxHeartbeats 1000000 in
theorem slotNew_any (B0 y : Nat) (lv : Value) (n : Nat) (F : Nat → Sq) (e : Int) (w : World) (h : Rw B0 w y lv n F) (hno : ∀ j, j < n → (F j).e ≠ e) (hn : n ≤ 4000000) (hB : B0 ≤ w.heap.size) :
    Calls Tryz.prog 81 #[.pointer (some ⟨y, 0, none⟩), .int .i64 e] w fun en w' => ∃ lv', en = .returned (.int .i64 n) ∧ Rw B0 w' y lv' (n + 1) (upF F n ⟨e, ⟨0, 0, []⟩, .slice none 0 0⟩) ∧ Only (Rfoot y lv) w w' ∧ (∀ b, lv'.ownBlock = some b → lv.ownBlock = some b ∨ w.heap.size ≤ b) := by
  obtain ⟨i140, ji, jz0, jz1, jz2⟩ := info_parts Tryz.info140
  obtain ⟨a, c, rfl⟩ := own_len4 h.own
  have c0 := cell_of_row w y 0 _ 88 (0, 0) h.blk
  have f0 := frozen_of_row w y 0 _ 88 h.blk
  simp at c0
  have ly := h.lt
  have hc : Hid (∀ j, j < n → ∃ g, a = some ⟨g, 0, none⟩ ∧ g < w.heap.size ∧ w.cell? ⟨g, j * 4, none⟩ = some (.int .i64 (F j).e)) := fun j hj => by
    obtain ⟨g, cap, hsh⟩ := own_shape4 h.own (by omega)
    simp only [Value.slice.injEq] at hsh
    obtain ⟨rfl, _, rfl⟩ := hsh
    refine ⟨g, rfl, (h.own.lt g rfl).2, ?_⟩
    have h1 := h.own.cellAt (j * 4) (by omega)
    rw [h1]
    exact row4_get F n j 0 hj (by omega)
  have H := hid h
  have Hno := hid hno
  have nl := hid (own_ne_block h.own h.blk (by decide))
  clear h hno
  go_enter Tryz.func81, Tryz.ntmps81
  go_wp2
  go_loop [5] (fun iv => ∃ k : Nat, k ≤ n ∧ iv = .int .i64 k) (fun iv => n - (intOf iv).toNat)
  case atStart => exact ⟨0, Nat.zero_le _, rfl⟩
  case round =>
    obtain ⟨k, hk, rfl⟩ := hrel
    by_cases hlt : k < n
    · obtain ⟨g, rfl, lg, hcell⟩ := hc.out k hlt
      have hne := Hno.out k hlt
      have hneb : ((F k).e == e) = false := by simp [hne]
      generalize (F k).e = ek at *
      go_wp2
      go_round
      case rel => exact ⟨k + 1, by omega, by go_num⟩
      case measure => simp [intOf]; omega
    · obtain rfl : n = k := by omega
      have hby : Hid ((n + 1) * 48 ≤ 140737488355328) := by unfold Hid; omega
      have hml : Hid (n + 1 ≤ maxLen) := by unfold Hid maxLen; omega
      go_wp2_with (at_builtin; refine wpList_append_lies _ rfl _ _ 86 rfl B0 140 i140 _ 4 48 Tryz.underlying86 ji jz0 jz1 jz2 rfl (by decide) _ n _ rfl (H.out.own.alloc _) ⟨w.heap.size, 0, none⟩ 1 1 [.int .i64 e, .int .i64 0, .int .i64 0, .slice none 0 0] rfl rfl (World.news_of_block (cs := #[.int .i64 e, .int .i64 0, .int .i64 0, .slice none 0 0]) (t := 140) (fr := (0, 0)) (heap_alloc_new w _)) (by simp [Value.oneCell']) (by decide) hml.out hby.out (by simp; omega) (w.heap.size + 1) (by simp) ?_)
      intro g cap w1 hown hgrow hat hlt'
      obtain ⟨R1, R2⟩ := H.out.push (x := ⟨e, ⟨0, 0, []⟩, .slice none 0 0⟩) ((Bl.refl w).alloc _) hgrow hown ⟨rfl, rfl⟩
      have HR1 := hid R1
      have HR2 := hid R2
      have Hat := hid hat
      have kc := (far ((Bl.refl w).alloc _) hgrow (o := 0) ly nl.out).1.trans c0
      have kf := (far ((Bl.refl w).alloc _) hgrow (o := 0) ly nl.out).2.trans f0
      have ly1 : y < w1.heap.size := by have := hgrow.size; simp at this; omega
      clear R1 R2 hown hgrow hat H
      go_wp2
      go_ret
      refine ⟨_, rfl, HR1.out, HR2.out, fun b hb => ?_⟩
      simp [Value.ownBlock] at hb
      subst hb
      rcases Hat.out with h | h
      · exact .inl h
      · exact .inr (by omega)
end Go.Proofs.YtkgjpfamjedncaaGreat

namespace Go.Proofs.YtkgjpfamjedncaaGreat
open Go.RowKit Go.Maps
attribute [local go_sem ↓] Go.wp_at_zero Go.wp_at_succ

set_option maxHeartbeats 1000000 in
theorem fits_any (a b c d : Int) (w : World) :
    Calls Tryz.prog 61 #[.agg #[.int .i64 a, .int .i64 b, .int .i64 c, .int .i64 d]] w fun e w' => e = .returned (.bool (fit a b c d)) ∧ Bl w w' := by
  go_enter Tryz.func61, Tryz.ntmps61
  go_wp2
  all_goals
    go_ret
    refine ⟨ret_bool ?_, (Bl.refl _).alloc _⟩
    unfold fit
    first | exact decide_eq_decide.2 (by omega) | exact (decide_eq_false (by omega)).symm

set_option maxHeartbeats 400000 in
theorem locate_ref (a b c d x : Int) (w : World) :
    Calls Tryz.prog 20 #[.agg #[.int .i64 a, .int .i64 b, .int .i64 c, .int .i64 d], .int .i64 x] w fun e w' => e = tup (loc a b c d x) ∧ Bl w w' := by
  cases hf : fit a b c d
  · go_enter Tryz.func20, Tryz.ntmps20
    go_wp2_with fail
    refine (fits_any a b c d _).mono ?_; rintro e w' ⟨rfl, hb⟩
    go_wp2
    go_ret3
    exact ⟨by simp [tup, loc, hf], ((Bl.refl _).alloc _).trans hb⟩
  · obtain ⟨h1, h2, h3, h4⟩ := fit_bd hf
    have hm := mul_bd h1 h2 h3 h4
    by_cases hx : x < 0
    · have hl : Hid (loc a b c d x = (0, 0, 2)) := by simp [Hid, loc, hf, hx]
      go_enter Tryz.func20, Tryz.ntmps20
      go_wp2_with fail
      refine (fits_any a b c d _).mono ?_; rintro e w' ⟨rfl, hb⟩
      have hc0 := (hb.cell (b := w.heap.size) (o := 0) (by simp))
      have hc3 := (hb.cell (b := w.heap.size) (o := 3) (by simp))
      go_wp2
      go_ret3
      exact ⟨by rw [hl.out]; rfl, ((Bl.refl _).alloc _).trans hb⟩
    · by_cases hy : a * d ≤ x
      · have hl : Hid (loc a b c d x = (0, 0, 2)) := by simp [Hid, loc, hf, hy]
        go_enter Tryz.func20, Tryz.ntmps20
        go_wp2_with fail
        refine (fits_any a b c d _).mono ?_; rintro e w' ⟨rfl, hb⟩
        have hc0 := (hb.cell (b := w.heap.size) (o := 0) (by simp))
        have hc3 := (hb.cell (b := w.heap.size) (o := 3) (by simp))
        go_wp2
        go_ret3
        exact ⟨by rw [hl.out]; rfl, ((Bl.refl _).alloc _).trans hb⟩
      · have hl : Hid (loc a b c d x = (x % a, x / a, 0)) := by simp [Hid, loc, hf, hy, hx]
        have hx0 : 0 ≤ x := by omega
        have hx1 : x < 48 := by omega
        have hdec : decide (a * d ≤ x) = false := by simpa using hy
        have ha0 : (a == 0) = false := by simp; omega
        go_enter Tryz.func20, Tryz.ntmps20
        go_wp2_with fail
        refine (fits_any a b c d _).mono ?_; rintro e w' ⟨rfl, hb⟩
        have hc0 := (hb.cell (b := w.heap.size) (o := 0) (by simp))
        have hc3 := (hb.cell (b := w.heap.size) (o := 3) (by simp))
        go_wp2
        go_quiet (fail)
        go_wp2
        go_ret3
        exact ⟨by rw [hl.out]; rfl, (((Bl.refl _).alloc _).trans hb).drewN _⟩

/-- What was written. -/
structure Wq where
  adr : Int
  kd : Int
  cl : Int
  ca : Int
  ys : List Int
  v : Value
def wq5 (x : Wq) : List Value := [.int .i64 x.adr, .int .i64 x.kd, .int .i64 x.cl, .int .i64 x.ca, x.v]
def row5 (F : Nat → Wq) : Nat → List Value
  | 0 => []
  | n + 1 => row5 F n ++ wq5 (F n)
theorem row5_len (F : Nat → Wq) : ∀ n, (row5 F n).length = n * 5
  | 0 => rfl
  | n + 1 => by rw [row5, List.length_append, row5_len F n]; simp [wq5]; omega
theorem row5_get (F : Nat → Wq) (n i r : Nat) (hi : i < n) (hr : r < 5) : (row5 F n)[i * 5 + r]? = (wq5 (F i))[r]? := by
  induction n with
  | zero => omega
  | succ n ih =>
    rw [row5]
    by_cases e : i < n
    · rw [List.getElem?_append_left (by rw [row5_len]; omega)]; exact ih e
    · obtain rfl : i = n := by omega
      rw [List.getElem?_append_right (by rw [row5_len]; omega), row5_len]
      congr 1
      omega

/-- The document's cells in block y: settings, unit, epoch, mark, and n contents that were written, as F tells. -/
structure Cw (B0 : Nat) (w : World) (y : Nat) (a b c d u ep mk : Int) (lv : Value) (n : Nat) (F : Nat → Wq) : Prop where
  blk : w.heap[y]? = some (.cells #[.int .i64 a, .int .i64 b, .int .i64 c, .int .i64 d, .int .i64 u, .int .i64 ep, .int .i64 mk, lv] 77 (0, 0))
  own : w.ownsRow B0 137 5 lv n (row5 F n)
  val : ∀ i, i < n → w.ownsRow 0 5 1 (F i).v (F i).ys.length ((F i).ys.map B8)
theorem Cw.lt {B0 : Nat} {w : World} {y : Nat} {a b c d u ep mk : Int} {lv : Value} {n : Nat} {F : Nat → Wq} (h : Cw B0 w y a b c d u ep mk lv n F) : y < w.heap.size := (Array.getElem?_eq_some_iff.1 h.blk).1
theorem Cw.only {S : Nat → Prop} {B0 : Nat} {w w' : World} {y : Nat} {a b c d u ep mk : Int} {lv : Value} {n : Nat} {F : Nat → Wq} (h : Cw B0 w y a b c d u ep mk lv n F) (ho : Only S w w') (hy : ¬ S y) (hl : ∀ b, lv.ownBlock = some b → ¬ S b) (hs : ∀ i, i < n → ∀ b, (F i).v.ownBlock = some b → ¬ S b) : Cw B0 w' y a b c d u ep mk lv n F :=
  ⟨(ho.block y h.lt hy).trans h.blk, ho.owns h.own hl, fun i hi => ho.owns (h.val i hi) (hs i hi)⟩
theorem Cw.bl {B0 : Nat} {w w' : World} {y : Nat} {a b c d u ep mk : Int} {lv : Value} {n : Nat} {F : Nat → Wq} (h : Cw B0 w y a b c d u ep mk lv n F) (hb : Bl w w') : Cw B0 w' y a b c d u ep mk lv n F := h.only (Only.of_bl (S := fun _ => False) hb) (fun e => e) (fun _ _ e => e) (fun _ _ _ _ e => e)
theorem Cw.cells {B0 : Nat} {w : World} {y : Nat} {a b c d u ep mk : Int} {lv : Value} {n : Nat} {F : Nat → Wq} (h : Cw B0 w y a b c d u ep mk lv n F) :
    w.cell? ⟨y, 0, none⟩ = some (.int .i64 a) ∧ w.cell? ⟨y, 1, none⟩ = some (.int .i64 b) ∧ w.cell? ⟨y, 2, none⟩ = some (.int .i64 c) ∧ w.cell? ⟨y, 3, none⟩ = some (.int .i64 d) ∧ w.cell? ⟨y, 4, none⟩ = some (.int .i64 u) ∧ w.cell? ⟨y, 5, none⟩ = some (.int .i64 ep) ∧ w.cell? ⟨y, 6, none⟩ = some (.int .i64 mk) ∧ w.cell? ⟨y, 7, none⟩ = some lv ∧ w.frozen? ⟨y, 5, none⟩ = false ∧ w.frozen? ⟨y, 6, none⟩ = false ∧ w.frozen? ⟨y, 7, none⟩ = false :=
  ⟨cell_of_row w y 0 _ 77 (0, 0) h.blk, cell_of_row w y 1 _ 77 (0, 0) h.blk, cell_of_row w y 2 _ 77 (0, 0) h.blk, cell_of_row w y 3 _ 77 (0, 0) h.blk, cell_of_row w y 4 _ 77 (0, 0) h.blk, cell_of_row w y 5 _ 77 (0, 0) h.blk, cell_of_row w y 6 _ 77 (0, 0) h.blk, cell_of_row w y 7 _ 77 (0, 0) h.blk, frozen_of_row w y 5 _ 77 h.blk, frozen_of_row w y 6 _ 77 h.blk, frozen_of_row w y 7 _ 77 h.blk⟩
/-- The cells' own block turns. -/
theorem Cw.set {B0 : Nat} {w w' : World} {y : Nat} {a b c d u ep mk ep' mk' : Int} {lv : Value} {n : Nat} {F : Nat → Wq} (h : Cw B0 w y a b c d u ep mk lv n F) (ho : Only (fun b => b = y) w w') (hb : w'.heap[y]? = some (.cells #[.int .i64 a, .int .i64 b, .int .i64 c, .int .i64 d, .int .i64 u, .int .i64 ep', .int .i64 mk', lv] 77 (0, 0))) : Cw B0 w' y a b c d u ep' mk' lv n F :=
  ⟨hb, ho.owns h.own fun b hb' e => own_ne_block h.own h.blk (by decide) (by rw [hb', e]), fun i hi => ho.owns (h.val i hi) fun b hb' e => own_ne_block (h.val i hi) h.blk (by decide) (by rw [hb', e])⟩

set_option maxRecDepth 100000 in
set_option maxHeartbeats 1000000 in
theorem oldC_any (B0 y : Nat) (a b c d u ep mk : Int) (lv : Value) (n : Nat) (F : Nat → Wq) (e : Int) (w : World) (h : Cw B0 w y a b c d u ep mk lv n F) :
    Calls Tryz.prog 72 #[.pointer (some ⟨y, 0, none⟩), .int .i64 e] w fun en w' => en = .returned (.bool (decide (e < ep))) ∧ Cw B0 w' y a b c d u (if e < ep then ep else e) mk lv n F ∧ Only (fun b => b = y) w w' := by
  obtain ⟨_, _, _, _, _, k5, _, _, f5, _⟩ := h.cells
  have ly := h.lt
  by_cases he : e < ep
  · rw [if_pos he]
    have hd : decide (e < ep) = true := by simpa using he
    have H := hid h
    clear h
    go_enter Tryz.func72, Tryz.ntmps72
    go_wp2
    go_ret
    exact ⟨by first | rfl | (rw [hd]; rfl), H.out, Only.refl _ _⟩
  · rw [if_neg he]
    have hd : decide (e < ep) = false := by simpa using he
    have O : Only (fun b => b = y) w (w.setCell ⟨y, 5, none⟩ (.int .i64 e)) := (Only.refl (fun b => b = y) w).setCell ⟨y, 5, none⟩ (.inl rfl) _
    have H := hid (And.intro (h.set O (heap_setCell_same w y 5 _ 77 (.int .i64 e) h.blk)) O)
    clear h O
    go_enter Tryz.func72, Tryz.ntmps72
    go_wp2
    go_ret
    exact ⟨by first | rfl | (rw [hd]; rfl), H.out.1, H.out.2⟩
end Go.Proofs.YtkgjpfamjedncaaGreat
