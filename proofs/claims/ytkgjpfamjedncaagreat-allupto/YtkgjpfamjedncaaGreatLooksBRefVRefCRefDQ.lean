/-
  The book of bytes is looked at.
-/
/-
  The document's own voter: its slots.
-/
-- The document's cells: settings, places, epochs.
-- The document's cells: Seal, Trim, what is theirs, what is a content.
import Derived.Test.YtkgjpfamjedncaaGreatLentBBackBOwnBBookBQ
import Derived.Test.YtkgjpfamjedncaaGreatLocateSmallKeepReachQ
namespace Go.Proofs.YtkgjpfamjedncaaGreat
open Go.RowKit

theorem mark_x (m : Nat) : Int.tmod (m : Int) 251 = ((m % 251 : Nat) : Int) ∧ IntKind.u8.wrap ((m % 251 : Nat) : Int) = ((m % 251 : Nat) : Int) := by
  refine ⟨by rw [Int.tmod_eq_emod_of_nonneg (by omega)]; omega, ?_⟩
  simp [IntKind.wrap, IntKind.bits, IntKind.signed]
  omega

set_option maxHeartbeats 400000 in
theorem allBytes_any (v : Value) (n m : Nat) (w : World) (hv : Sl w v (List.replicate n (Value.int .u8 (m % 251 : Nat)))) (hs : n ≤ 50000000) (_hm : m ≤ 4000000) :
    Calls Tryz.prog 57 #[v, .int .i64 m] w fun e w' => e = .returned (.bool true) ∧ w' = w := by
  obtain ⟨hx2, hx3⟩ := mark_x m
  have hx1 : m % 251 < 251 := Nat.mod_lt _ (by decide)
  rcases hv with ⟨a9, c9, rfl, hz⟩ | ⟨b, o, c, rfl, _, hc⟩
  · go_enter Tryz.func57, Tryz.ntmps57
    go_wp2
    refine wp_loop_rounds 1 ?_; rw [rounds_succ]; go_wp2
    go_ret
    exact ⟨rfl, rfl⟩
  · simp only [List.length_replicate, List.getElem_replicate] at hc ⊢
    generalize m % 251 = x at *
    go_enter Tryz.func57, Tryz.ntmps57
    go_wp2
    go_loop [5] (fun i => ∃ k : Nat, k ≤ n ∧ i = .int .i64 k) (fun i => n - (intOf i).toNat)
    case atStart => exact ⟨0, Nat.zero_le _, rfl⟩
    case round =>
      obtain ⟨k, hk, rfl⟩ := hrel
      by_cases hlt : k < n
      · have hcell := hc k hlt
        go_wp2
        go_round
        case rel => exact ⟨k + 1, by omega, by go_num⟩
        case measure => simp [intOf]; omega
      · go_wp2
        go_ret
        exact ⟨rfl, rfl⟩

set_option maxRecDepth 100000 in
set_option maxHeartbeats 1000000 in
theorem stillBytes_any (n k : Nat) (v o1 o2 o3 : Value) (w : World) (hm : MarkI w 0 n 5 (.int .u8 (k % 251 : Nat)) v o1 o2 o3) (hn : n ≤ 40000000) (hk : k ≤ 4000000) :
    Calls Tryz.prog 16 #[.agg #[v, o1, o2, o3, .int .i64 k]] w fun e w' => e = .returned (.bool true) ∧ Bl w w' := by
  obtain ⟨a0, c0, e0⟩ := (ownsRow_sl hm.h0).len
  obtain ⟨a1, c1, e1⟩ := (ownsRow_sl hm.h1).len
  obtain ⟨a2, c2, e2⟩ := (ownsRow_sl hm.h2).len
  obtain ⟨a3, c3, e3⟩ := (ownsRow_sl hm.h3).len
  simp only [List.length_replicate] at e0 e1 e2 e3
  subst e0 e1 e2 e3
  have Hm := hid hm
  clear hm
  go_enter Tryz.func16, Tryz.ntmps16
  go_wp2_with fail
  refine (allBytes_any _ n k _ ((ownsRow_sl Hm.out.h0).bl ((Bl.refl _).alloc _)) (by omega) hk).mono ?_; rintro e w' ⟨rfl, rfl⟩
  go_wp2_with fail
  refine (allBytes_any _ (n + 1) k _ ((ownsRow_sl Hm.out.h1).bl ((Bl.refl _).alloc _)) (by omega) hk).mono ?_; rintro e w' ⟨rfl, rfl⟩
  go_wp2_with fail
  refine (allBytes_any _ (n + 2) k _ ((ownsRow_sl Hm.out.h2).bl ((Bl.refl _).alloc _)) (by omega) hk).mono ?_; rintro e w' ⟨rfl, rfl⟩
  go_wp2_with fail
  refine (allBytes_any _ (n + 3) k _ ((ownsRow_sl Hm.out.h3).bl ((Bl.refl _).alloc _)) (by omega) hk).mono ?_; rintro e w' ⟨rfl, rfl⟩
  go_wp2
  go_ret
  exact ⟨rfl, (Bl.refl _).alloc _⟩
theorem own_shape5 {w : World} {base : Nat} {e : TypeId} {v : Value} {n : Nat} {xs : List Value} (h : w.ownsRow base e 5 v n xs) (hn : 0 < n) : ∃ g cap, v = .slice (some ⟨g, 0, none⟩) n cap := by
  rcases h.2 with ⟨_, h'⟩ | ⟨g, cap, cur, h', _⟩
  · omega
  · exact ⟨g, cap, h'⟩
theorem own_len5 {w : World} {base : Nat} {e : TypeId} {v : Value} {n : Nat} {xs : List Value} (h : w.ownsRow base e 5 v n xs) : ∃ a c, v = .slice a n c := by
  rcases h.2 with ⟨e, e'⟩ | ⟨g, cap, cur, e, _⟩
  · exact ⟨_, _, by rw [e, e']⟩
  · exact ⟨_, _, e⟩

set_option maxRecDepth 100000 in
set_option maxHeartbeats 2000000 in
theorem looksB_any (B0 bw : Nat) (kl vl bl : Value) (nb : Nat) (xb : List Value) (w : World) (hB : BookB B0 w bw kl vl bl (.slice none 0 0) (.slice none 0 0) nb xb) (hnb : nb ≤ 4000000) :
    Calls Tryz.prog 9 #[.pointer (some ⟨bw, 2, none⟩)] w fun e w' => e = .returned (.bool true) ∧ Bl w w' := by
  obtain ⟨ai, ci, hvi⟩ := own_len5 hB.ob
  subst hvi
  have c2 := cell_of_row w bw 2 _ 35 (0, 0) hB.blk
  have c3 := cell_of_row w bw 3 _ 35 (0, 0) hB.blk
  have c4 := cell_of_row w bw 4 _ 35 (0, 0) hB.blk
  simp at c2 c3 c4
  have lbw := hB.lt
  have HB := hid hB
  have C2 := hid c2
  have C3 := hid c3
  have C4 := hid c4
  clear hB
  go_enter Tryz.func9, Tryz.ntmps9
  go_wp2
  go_loopw [3, 4] (fun ok i wr => ∃ k : Nat, k ≤ nb ∧ i = .int .i64 k ∧ ok = .bool true ∧ Bl w wr) (fun _ i _ => nb - (intOf i).toNat)
  case atStart => exact ⟨0, Nat.zero_le _, rfl, rfl, Bl.refl _⟩
  case round =>
    clear c2 c3 c4
    obtain ⟨k, hk, rfl, rfl, hbl⟩ := hrel
    have c2 := (hbl.cell lbw).trans C2.out
    by_cases hlt : k < nb
    · obtain ⟨g, cap, hsh⟩ := own_shape5 HB.out.ob (by omega)
      simp only [Value.slice.injEq] at hsh
      obtain ⟨rfl, _, rfl⟩ := hsh
      obtain ⟨n, v, o1, o2, o3, hn, e0, e1, e2, e3, e4, hm⟩ := HB.out.eb k hlt
      have hgl := (HB.out.ob.lt g rfl).2
      have d0 := ((hbl.cell hgl).trans (HB.out.ob.cellAt (k * 5) (by omega))).trans e0
      have d1 := ((hbl.cell hgl).trans (HB.out.ob.cellAt (k * 5 + 1) (by omega))).trans e1
      have d2 := ((hbl.cell hgl).trans (HB.out.ob.cellAt (k * 5 + 2) (by omega))).trans e2
      have d3 := ((hbl.cell hgl).trans (HB.out.ob.cellAt (k * 5 + 3) (by omega))).trans e3
      have d4 := ((hbl.cell hgl).trans (HB.out.ob.cellAt (k * 5 + 4) (by omega))).trans e4
      have hm2 := hid (hm.only (Only.of_bl (S := fun _ => False) hbl) (fun _ _ _ _ e => e))
      obtain ⟨a0, c0, f0⟩ := (ownsRow_sl hm.h0).len
      obtain ⟨a1, c1, f1⟩ := (ownsRow_sl hm.h1).len
      obtain ⟨a2, c2', f2⟩ := (ownsRow_sl hm.h2).len
      obtain ⟨a3, c3', f3⟩ := (ownsRow_sl hm.h3).len
      simp only [List.length_replicate] at f0 f1 f2 f3
      subst f0 f1 f2 f3
      clear e0 e1 e2 e3 e4 hm
      go_wp2_with fail
      refine (stillBytes_any n k _ _ _ _ _ hm2.out hn (by omega)).mono ?_
      rintro e w2 ⟨rfl, hb2⟩
      go_wp2
      go_roundw
      case rel => exact ⟨k + 1, by omega, by go_num, rfl, hbl.trans hb2⟩
      case measure => simp [intOf]; omega
    · have c3 := (hbl.cell lbw).trans C3.out
      have c4 := (hbl.cell lbw).trans C4.out
      go_wp2
      refine wp_loop_rounds 1 ?_; rw [rounds_succ]; go_wp2
      refine wp_loop_rounds 1 ?_; rw [rounds_succ]; go_wp2
      go_ret
      exact ⟨rfl, hbl⟩
end Go.Proofs.YtkgjpfamjedncaaGreat

namespace Go.Proofs.YtkgjpfamjedncaaGreat
open Go.RowKit
attribute [local go_sem ↓] Go.wp_at_zero Go.wp_at_succ
theorem Tryz.info140 : (Tryz.prog.info? 140).map (fun i => (i.zero, i.size, i.bytes)) = some (some (.agg #[.int .i64 0, .int .i64 0, .int .i64 0, .slice none 0 0]), 4, 48) := by kernel_rfl

/-- A slot: its epoch, what it holds, the slice of its value. -/
structure Sq where
  e : Int
  s : Ep
  v : Value
def sq4 (x : Sq) : List Value := [.int .i64 x.e, .int .i64 x.s.pr, .int .i64 x.s.ba, x.v]
def row4 (F : Nat → Sq) : Nat → List Value
  | 0 => []
  | n + 1 => row4 F n ++ sq4 (F n)
theorem row4_len (F : Nat → Sq) : ∀ n, (row4 F n).length = n * 4
  | 0 => rfl
  | n + 1 => by rw [row4, List.length_append, row4_len F n]; simp [sq4]; omega
theorem row4_get (F : Nat → Sq) (n i c : Nat) (hi : i < n) (hc : c < 4) : (row4 F n)[i * 4 + c]? = (sq4 (F i))[c]? := by
  induction n with
  | zero => omega
  | succ n ih =>
    rw [row4]
    by_cases e : i < n
    · rw [List.getElem?_append_left (by rw [row4_len]; omega)]; exact ih e
    · obtain rfl : i = n := by omega
      rw [List.getElem?_append_right (by rw [row4_len]; omega), row4_len]
      congr 1
      omega
theorem row4_congr {F G : Nat → Sq} {n : Nat} (h : ∀ i, i < n → F i = G i) : row4 F n = row4 G n := by
  induction n with
  | zero => rfl
  | succ n ih => rw [row4, row4, ih fun i hi => h i (by omega), h n (by omega)]
def upF (F : Nat → Sq) (k : Nat) (x : Sq) : Nat → Sq := fun j => if j = k then x else F j
theorem upF_same (F : Nat → Sq) (k : Nat) (x : Sq) : upF F k x k = x := by simp [upF]
theorem upF_other (F : Nat → Sq) (k j : Nat) (x : Sq) (h : j ≠ k) : upF F k x j = F j := by simp [upF, h]
theorem row4_push (F : Nat → Sq) (n : Nat) (x : Sq) : row4 (upF F n x) (n + 1) = row4 F n ++ sq4 x := by
  rw [row4, upF_same, row4_congr fun i hi => upF_other F n i x (by omega)]
theorem row4_set (F : Nat → Sq) (n i c : Nat) (hi : i < n) (hc : c < 4) (u : Value) (x : Sq) (hx : (sq4 (F i)).set c u = sq4 x) : (row4 F n).set (i * 4 + c) u = row4 (upF F i x) n := by
  induction n with
  | zero => omega
  | succ n ih =>
    rw [row4, row4]
    by_cases e : i < n
    · rw [List.set_append_left _ _ (by rw [row4_len]; omega), ih e, upF_other _ _ _ _ (by omega)]
    · obtain rfl : i = n := by omega
      rw [List.set_append_right _ _ (by rw [row4_len]; omega), row4_len, upF_same, row4_congr fun j hj => (upF_other F i j x (by omega)).symm, ← hx]
      congr 2
      omega

/-- The document's voter in block y: n slots, as F tells. -/
structure Rw (B0 : Nat) (w : World) (y : Nat) (lv : Value) (n : Nat) (F : Nat → Sq) : Prop where
  blk : w.heap[y]? = some (.cells #[lv] 88 (0, 0))
  own : w.ownsRow B0 140 4 lv n (row4 F n)
  val : ∀ i, i < n → w.ownsRow 0 5 1 (F i).v (F i).s.val.length ((F i).s.val.map B8)
theorem Rw.lt {B0 : Nat} {w : World} {y : Nat} {lv : Value} {n : Nat} {F : Nat → Sq} (h : Rw B0 w y lv n F) : y < w.heap.size := (Array.getElem?_eq_some_iff.1 h.blk).1
theorem Rw.only {S : Nat → Prop} {B0 : Nat} {w w' : World} {y : Nat} {lv : Value} {n : Nat} {F : Nat → Sq} (h : Rw B0 w y lv n F) (ho : Only S w w') (hy : ¬ S y) (hl : ∀ b, lv.ownBlock = some b → ¬ S b) (hs : ∀ i, i < n → ∀ b, (F i).v.ownBlock = some b → ¬ S b) : Rw B0 w' y lv n F :=
  ⟨(ho.block y h.lt hy).trans h.blk, ho.owns h.own hl, fun i hi => ho.owns (h.val i hi) (hs i hi)⟩
theorem Rw.bl {B0 : Nat} {w w' : World} {y : Nat} {lv : Value} {n : Nat} {F : Nat → Sq} (h : Rw B0 w y lv n F) (hb : Bl w w') : Rw B0 w' y lv n F := h.only (Only.of_bl (S := fun _ => False) hb) (fun e => e) (fun _ _ e => e) (fun _ _ _ _ e => e)
theorem own_len4 {w : World} {base : Nat} {e : TypeId} {v : Value} {n : Nat} {xs : List Value} (h : w.ownsRow base e 4 v n xs) : ∃ a c, v = .slice a n c := by
  rcases h.2 with ⟨e, e'⟩ | ⟨g, cap, cur, e, _⟩
  · exact ⟨_, _, by rw [e, e']⟩
  · exact ⟨_, _, e⟩
theorem own_shape4 {w : World} {base : Nat} {e : TypeId} {v : Value} {n : Nat} {xs : List Value} (h : w.ownsRow base e 4 v n xs) (hn : 0 < n) : ∃ g cap, v = .slice (some ⟨g, 0, none⟩) n cap := by
  rcases h.2 with ⟨_, h'⟩ | ⟨g, cap, cur, h', _⟩
  · omega
  · exact ⟨g, cap, h'⟩
/-- The slot of an epoch that has one. -/
def Has (n : Nat) (F : Nat → Sq) (e : Int) (i : Nat) : Prop := i < n ∧ (F i).e = e ∧ ∀ j, j < i → (F j).e ≠ e

set_option maxRecDepth 100000 in
set_option maxHeartbeats 1000000 in
theorem slotOld_any (B0 y : Nat) (lv : Value) (n : Nat) (F : Nat → Sq) (e : Int) (i : Nat) (w : World) (h : Rw B0 w y lv n F) (hi : Has n F e i) (hn : n ≤ 4000000) :
    Calls Tryz.prog 81 #[.pointer (some ⟨y, 0, none⟩), .int .i64 e] w fun en w' => en = .returned (.int .i64 i) ∧ w' = w := by
  obtain ⟨a, c, rfl⟩ := own_len4 h.own
  have hin := hi.1
  obtain ⟨g, cap, hsh⟩ := own_shape4 h.own (by omega)
  simp only [Value.slice.injEq] at hsh
  obtain ⟨rfl, _, rfl⟩ := hsh
  have c0 := cell_of_row w y 0 _ 88 (0, 0) h.blk
  simp at c0
  have ly := h.lt
  have lg := (h.own.lt g rfl).2
  have hc : Hid (∀ j, j < n → w.cell? ⟨g, j * 4, none⟩ = some (.int .i64 (F j).e)) := fun j hj => by
    have h1 := h.own.cellAt (j * 4) (by omega)
    rw [h1]
    exact row4_get F n j 0 hj (by omega)
  have Hi := hid hi
  clear h hi
  go_enter Tryz.func81, Tryz.ntmps81
  go_wp2
  go_loop [5] (fun iv => ∃ k : Nat, k ≤ i ∧ iv = .int .i64 k) (fun iv => n - (intOf iv).toNat)
  case atStart => exact ⟨0, Nat.zero_le _, rfl⟩
  case round =>
    obtain ⟨k, hk, rfl⟩ := hrel
    have hkn : k < n := by omega
    have hcell := hc.out k hkn
    by_cases hlt : k < i
    · have hne := Hi.out.2.2 k hlt
      have hneb : ((F k).e == e) = false := by simp [hne]
      generalize (F k).e = ek at *
      go_wp2
      go_round
      case rel => exact ⟨k + 1, by omega, by go_num⟩
      case measure => simp [intOf]; omega
    · obtain rfl : k = i := by omega
      rw [Hi.out.2.1] at hcell
      go_wp2
      go_ret
      exact ⟨rfl, rfl⟩

/-- What the document's voter turns. -/
def Rfoot (y : Nat) (lv : Value) (b : Nat) : Prop := b = y ∨ lv.ownBlock = some b
theorem Rw.vals {B0 : Nat} {w w' : World} {y : Nat} {lv : Value} {n : Nat} {F : Nat → Sq} (h : Rw B0 w y lv n F) (ho : Only (Rfoot y lv) w w') (i : Nat) (hi : i < n) : w'.ownsRow 0 5 1 (F i).v (F i).s.val.length ((F i).s.val.map B8) := by
  refine ho.owns (h.val i hi) fun b hb e => ?_
  rcases e with rfl | e
  · exact own_ne_block (h.val i hi) h.blk (by decide) hb
  · exact ownsRow_type (h.val i hi) h.own (by decide) b hb e
theorem Rw.push {B0 : Nat} {w W w3 : World} {y : Nat} {lv : Value} {n : Nat} {F : Nat → Sq} (h : Rw B0 w y lv n F) (hb : Bl w W) (hg : W.grownBy w3 lv.ownBlock) {gg cap : Nat} {x : Sq} (ho : w3.ownsRow B0 140 4 (.slice (some ⟨gg, 0, none⟩) (n + 1) cap) (n + 1) (row4 F n ++ sq4 x)) (hx : x.v = .slice none 0 0 ∧ x.s.val = []) :
    Rw B0 (w3.setCell ⟨y, 0, none⟩ (.slice (some ⟨gg, 0, none⟩) (n + 1) cap)) y (.slice (some ⟨gg, 0, none⟩) (n + 1) cap) (n + 1) (upF F n x) ∧ Only (Rfoot y lv) w (w3.setCell ⟨y, 0, none⟩ (.slice (some ⟨gg, 0, none⟩) (n + 1) cap)) := by
  have nl := own_ne_block h.own h.blk (by decide)
  have o1 : Only (Rfoot y lv) w w3 := (Only.of_bl hb).trans ((Only.of_grown hg).mono fun k _ e => .inr e.symm)
  have O := o1.setCell ⟨y, 0, none⟩ (.inl (.inl rfl)) (.slice (some ⟨gg, 0, none⟩) (n + 1) cap)
  have hy3 : w3.heap[y]? = some (.cells #[lv] 88 (0, 0)) := by
    have h1 := hg.block y (Nat.lt_of_lt_of_le h.lt hb.lt) (fun e => nl e.symm)
    rw [h1, hb.heap h.lt]; exact h.blk
  refine ⟨⟨heap_setCell_same w3 y 0 _ 88 _ hy3, ?_, fun i hi => ?_⟩, O⟩
  · rw [row4_push]
    exact ownsRow_of ho fun b hb' => Below.heap_setCell _ _ _ _ (fun e => own_ne_block ho hy3 (by decide) (by rw [hb', e]))
  · by_cases e : i < n
    · rw [upF_other _ _ _ _ (by omega)]; exact h.vals O i e
    · obtain rfl : i = n := by omega
      rw [upF_same, hx.1, hx.2]
      exact World.ownsRow_nil _ _ _ _

set_option maxRecDepth 100000 in
set_option maxHeartbeats 1000000 in
theorem slotNew_any (B0 y : Nat) (lv : Value) (n : Nat) (F : Nat → Sq) (e : Int) (w : World) (h : Rw B0 w y lv n F) (hno : ∀ j, j < n → (F j).e ≠ e) (hn : n ≤ 4000000) (hB : B0 ≤ w.heap.size) :
    Calls Tryz.prog 81 #[.pointer (some ⟨y, 0, none⟩), .int .i64 e] w fun en w' => ∃ lv', en = .returned (.int .i64 n) ∧ Rw B0 w' y lv' (n + 1) (upF F n ⟨e, ⟨0, 0, []⟩, .slice none 0 0⟩) ∧ Only (Rfoot y lv) w w' ∧ (∀ b, lv'.ownBlock = some b → lv.ownBlock = some b ∨ w.heap.size ≤ b) := by
  obtain ⟨i140, ji, jz0, jz1, jz2⟩ := info_parts Tryz.info140
  obtain ⟨a, c, rfl⟩ := own_len4 h.own
  have c0 := cell_of_row w y 0 _ 88 (0, 0) h.blk
  have f0 := frozen_of_row w y 0 _ 88 h.blk
  simp at c0
  have ly := h.lt
  have hc : Hid (∀ j, j < n → ∃ g, a = some ⟨g, 0, none⟩ ∧ g < w.heap.size ∧ w.cell? ⟨g, j * 4, none⟩ = some (.int .i64 (F j).e)) := fun j hj => by
    obtain ⟨g, cap, hsh⟩ := own_shape4 h.own (by omega)
    simp only [Value.slice.injEq] at hsh
    obtain ⟨rfl, _, rfl⟩ := hsh
    refine ⟨g, rfl, (h.own.lt g rfl).2, ?_⟩
    have h1 := h.own.cellAt (j * 4) (by omega)
    rw [h1]
    exact row4_get F n j 0 hj (by omega)
  have H := hid h
  have Hno := hid hno
  have nl := hid (own_ne_block h.own h.blk (by decide))
  clear h hno
  go_enter Tryz.func81, Tryz.ntmps81
  go_wp2
  go_loop [5] (fun iv => ∃ k : Nat, k ≤ n ∧ iv = .int .i64 k) (fun iv => n - (intOf iv).toNat)
  case atStart => exact ⟨0, Nat.zero_le _, rfl⟩
  case round =>
    obtain ⟨k, hk, rfl⟩ := hrel
    by_cases hlt : k < n
    · obtain ⟨g, rfl, lg, hcell⟩ := hc.out k hlt
      have hne := Hno.out k hlt
      have hneb : ((F k).e == e) = false := by simp [hne]
      generalize (F k).e = ek at *
      go_wp2
      go_round
      case rel => exact ⟨k + 1, by omega, by go_num⟩
      case measure => simp [intOf]; omega
    · obtain rfl : n = k := by omega
      have hby : Hid ((n + 1) * 48 ≤ 140737488355328) := by unfold Hid; omega
      have hml : Hid (n + 1 ≤ maxLen) := by unfold Hid maxLen; omega
      go_wp2_with (at_builtin; refine wpList_append_lies _ rfl _ _ 86 rfl B0 140 i140 _ 4 48 Tryz.underlying86 ji jz0 jz1 jz2 rfl (by decide) _ n _ rfl (H.out.own.alloc _) ⟨w.heap.size, 0, none⟩ 1 1 [.int .i64 e, .int .i64 0, .int .i64 0, .slice none 0 0] rfl rfl (World.news_of_block (cs := #[.int .i64 e, .int .i64 0, .int .i64 0, .slice none 0 0]) (t := 140) (fr := (0, 0)) (heap_alloc_new w _)) (by simp [Value.oneCell']) (by decide) hml.out hby.out (by simp; omega) (w.heap.size + 1) (by simp) ?_)
      intro g cap w1 hown hgrow hat hlt'
      obtain ⟨R1, R2⟩ := H.out.push (x := ⟨e, ⟨0, 0, []⟩, .slice none 0 0⟩) ((Bl.refl w).alloc _) hgrow hown ⟨rfl, rfl⟩
      have HR1 := hid R1
      have HR2 := hid R2
      have Hat := hid hat
      have kc := (far ((Bl.refl w).alloc _) hgrow (o := 0) ly nl.out).1.trans c0
      have kf := (far ((Bl.refl w).alloc _) hgrow (o := 0) ly nl.out).2.trans f0
      have ly1 : y < w1.heap.size := by have := hgrow.size; simp at this; omega
      clear R1 R2 hown hgrow hat H
      go_wp2
      go_ret
      refine ⟨_, rfl, HR1.out, HR2.out, fun b hb => ?_⟩
      simp [Value.ownBlock] at hb
      subst hb
      rcases Hat.out with h | h
      · exact .inl h
      · exact .inr (by omega)
end Go.Proofs.YtkgjpfamjedncaaGreat

namespace Go.Proofs.YtkgjpfamjedncaaGreat
open Go.RowKit Go.Maps
attribute [local go_sem ↓] Go.wp_at_zero Go.wp_at_succ

set_option maxHeartbeats 1000000 in
theorem fits_any (a b c d : Int) (w : World) :
    Calls Tryz.prog 61 #[.agg #[.int .i64 a, .int .i64 b, .int .i64 c, .int .i64 d]] w fun e w' => e = .returned (.bool (fit a b c d)) ∧ Bl w w' := by
  go_enter Tryz.func61, Tryz.ntmps61
  go_wp2
  all_goals
    go_ret
    refine ⟨ret_bool ?_, (Bl.refl _).alloc _⟩
    unfold fit
    first | exact decide_eq_decide.2 (by omega) | exact (decide_eq_false (by omega)).symm

set_option maxHeartbeats 400000 in
theorem locate_ref (a b c d x : Int) (w : World) :
    Calls Tryz.prog 20 #[.agg #[.int .i64 a, .int .i64 b, .int .i64 c, .int .i64 d], .int .i64 x] w fun e w' => e = tup (loc a b c d x) ∧ Bl w w' := by
  cases hf : fit a b c d
  · go_enter Tryz.func20, Tryz.ntmps20
    go_wp2_with fail
    refine (fits_any a b c d _).mono ?_; rintro e w' ⟨rfl, hb⟩
    go_wp2
    go_ret3
    exact ⟨by simp [tup, loc, hf], ((Bl.refl _).alloc _).trans hb⟩
  · obtain ⟨h1, h2, h3, h4⟩ := fit_bd hf
    have hm := mul_bd h1 h2 h3 h4
    by_cases hx : x < 0
    · have hl : Hid (loc a b c d x = (0, 0, 2)) := by simp [Hid, loc, hf, hx]
      go_enter Tryz.func20, Tryz.ntmps20
      go_wp2_with fail
      refine (fits_any a b c d _).mono ?_; rintro e w' ⟨rfl, hb⟩
      have hc0 := (hb.cell (b := w.heap.size) (o := 0) (by simp))
      have hc3 := (hb.cell (b := w.heap.size) (o := 3) (by simp))
      go_wp2
      go_ret3
      exact ⟨by rw [hl.out]; rfl, ((Bl.refl _).alloc _).trans hb⟩
    · by_cases hy : a * d ≤ x
      · have hl : Hid (loc a b c d x = (0, 0, 2)) := by simp [Hid, loc, hf, hy]
        go_enter Tryz.func20, Tryz.ntmps20
        go_wp2_with fail
        refine (fits_any a b c d _).mono ?_; rintro e w' ⟨rfl, hb⟩
        have hc0 := (hb.cell (b := w.heap.size) (o := 0) (by simp))
        have hc3 := (hb.cell (b := w.heap.size) (o := 3) (by simp))
        go_wp2
        go_ret3
        exact ⟨by rw [hl.out]; rfl, ((Bl.refl _).alloc _).trans hb⟩
      · have hl : Hid (loc a b c d x = (x % a, x / a, 0)) := by simp [Hid, loc, hf, hy, hx]
        have hx0 : 0 ≤ x := by omega
        have hx1 : x < 48 := by omega
        have hdec : decide (a * d ≤ x) = false := by simpa using hy
        have ha0 : (a == 0) = false := by simp; omega
        go_enter Tryz.func20, Tryz.ntmps20
        go_wp2_with fail
        refine (fits_any a b c d _).mono ?_; rintro e w' ⟨rfl, hb⟩
        have hc0 := (hb.cell (b := w.heap.size) (o := 0) (by simp))
        have hc3 := (hb.cell (b := w.heap.size) (o := 3) (by simp))
        go_wp2
        go_quiet (fail)
        go_wp2
        go_ret3
        exact ⟨by rw [hl.out]; rfl, (((Bl.refl _).alloc _).trans hb).drewN _⟩

/-- What was written. -/
structure Wq where
  adr : Int
  kd : Int
  cl : Int
  ca : Int
  ys : List Int
  v : Value
def wq5 (x : Wq) : List Value := [.int .i64 x.adr, .int .i64 x.kd, .int .i64 x.cl, .int .i64 x.ca, x.v]
def row5 (F : Nat → Wq) : Nat → List Value
  | 0 => []
  | n + 1 => row5 F n ++ wq5 (F n)
theorem row5_len (F : Nat → Wq) : ∀ n, (row5 F n).length = n * 5
  | 0 => rfl
  | n + 1 => by rw [row5, List.length_append, row5_len F n]; simp [wq5]; omega
theorem row5_get (F : Nat → Wq) (n i r : Nat) (hi : i < n) (hr : r < 5) : (row5 F n)[i * 5 + r]? = (wq5 (F i))[r]? := by
  induction n with
  | zero => omega
  | succ n ih =>
    rw [row5]
    by_cases e : i < n
    · rw [List.getElem?_append_left (by rw [row5_len]; omega)]; exact ih e
    · obtain rfl : i = n := by omega
      rw [List.getElem?_append_right (by rw [row5_len]; omega), row5_len]
      congr 1
      omega

/-- The document's cells in block y: settings, unit, epoch, mark, and n contents that were written, as F tells. -/
structure Cw (B0 : Nat) (w : World) (y : Nat) (a b c d u ep mk : Int) (lv : Value) (n : Nat) (F : Nat → Wq) : Prop where
  blk : w.heap[y]? = some (.cells #[.int .i64 a, .int .i64 b, .int .i64 c, .int .i64 d, .int .i64 u, .int .i64 ep, .int .i64 mk, lv] 77 (0, 0))
  own : w.ownsRow B0 137 5 lv n (row5 F n)
  val : ∀ i, i < n → w.ownsRow 0 5 1 (F i).v (F i).ys.length ((F i).ys.map B8)
theorem Cw.lt {B0 : Nat} {w : World} {y : Nat} {a b c d u ep mk : Int} {lv : Value} {n : Nat} {F : Nat → Wq} (h : Cw B0 w y a b c d u ep mk lv n F) : y < w.heap.size := (Array.getElem?_eq_some_iff.1 h.blk).1
theorem Cw.only {S : Nat → Prop} {B0 : Nat} {w w' : World} {y : Nat} {a b c d u ep mk : Int} {lv : Value} {n : Nat} {F : Nat → Wq} (h : Cw B0 w y a b c d u ep mk lv n F) (ho : Only S w w') (hy : ¬ S y) (hl : ∀ b, lv.ownBlock = some b → ¬ S b) (hs : ∀ i, i < n → ∀ b, (F i).v.ownBlock = some b → ¬ S b) : Cw B0 w' y a b c d u ep mk lv n F :=
  ⟨(ho.block y h.lt hy).trans h.blk, ho.owns h.own hl, fun i hi => ho.owns (h.val i hi) (hs i hi)⟩
theorem Cw.bl {B0 : Nat} {w w' : World} {y : Nat} {a b c d u ep mk : Int} {lv : Value} {n : Nat} {F : Nat → Wq} (h : Cw B0 w y a b c d u ep mk lv n F) (hb : Bl w w') : Cw B0 w' y a b c d u ep mk lv n F := h.only (Only.of_bl (S := fun _ => False) hb) (fun e => e) (fun _ _ e => e) (fun _ _ _ _ e => e)
theorem Cw.cells {B0 : Nat} {w : World} {y : Nat} {a b c d u ep mk : Int} {lv : Value} {n : Nat} {F : Nat → Wq} (h : Cw B0 w y a b c d u ep mk lv n F) :
    w.cell? ⟨y, 0, none⟩ = some (.int .i64 a) ∧ w.cell? ⟨y, 1, none⟩ = some (.int .i64 b) ∧ w.cell? ⟨y, 2, none⟩ = some (.int .i64 c) ∧ w.cell? ⟨y, 3, none⟩ = some (.int .i64 d) ∧ w.cell? ⟨y, 4, none⟩ = some (.int .i64 u) ∧ w.cell? ⟨y, 5, none⟩ = some (.int .i64 ep) ∧ w.cell? ⟨y, 6, none⟩ = some (.int .i64 mk) ∧ w.cell? ⟨y, 7, none⟩ = some lv ∧ w.frozen? ⟨y, 5, none⟩ = false ∧ w.frozen? ⟨y, 6, none⟩ = false ∧ w.frozen? ⟨y, 7, none⟩ = false :=
  ⟨cell_of_row w y 0 _ 77 (0, 0) h.blk, cell_of_row w y 1 _ 77 (0, 0) h.blk, cell_of_row w y 2 _ 77 (0, 0) h.blk, cell_of_row w y 3 _ 77 (0, 0) h.blk, cell_of_row w y 4 _ 77 (0, 0) h.blk, cell_of_row w y 5 _ 77 (0, 0) h.blk, cell_of_row w y 6 _ 77 (0, 0) h.blk, cell_of_row w y 7 _ 77 (0, 0) h.blk, frozen_of_row w y 5 _ 77 h.blk, frozen_of_row w y 6 _ 77 h.blk, frozen_of_row w y 7 _ 77 h.blk⟩
/-- The cells' own block turns. -/
theorem Cw.set {B0 : Nat} {w w' : World} {y : Nat} {a b c d u ep mk ep' mk' : Int} {lv : Value} {n : Nat} {F : Nat → Wq} (h : Cw B0 w y a b c d u ep mk lv n F) (ho : Only (fun b => b = y) w w') (hb : w'.heap[y]? = some (.cells #[.int .i64 a, .int .i64 b, .int .i64 c, .int .i64 d, .int .i64 u, .int .i64 ep', .int .i64 mk', lv] 77 (0, 0))) : Cw B0 w' y a b c d u ep' mk' lv n F :=
  ⟨hb, ho.owns h.own fun b hb' e => own_ne_block h.own h.blk (by decide) (by rw [hb', e]), fun i hi => ho.owns (h.val i hi) fun b hb' e => own_ne_block (h.val i hi) h.blk (by decide) (by rw [hb', e])⟩

set_option maxRecDepth 100000 in
set_option maxHeartbeats 1000000 in
theorem oldC_any (B0 y : Nat) (a b c d u ep mk : Int) (lv : Value) (n : Nat) (F : Nat → Wq) (e : Int) (w : World) (h : Cw B0 w y a b c d u ep mk lv n F) :
    Calls Tryz.prog 72 #[.pointer (some ⟨y, 0, none⟩), .int .i64 e] w fun en w' => en = .returned (.bool (decide (e < ep))) ∧ Cw B0 w' y a b c d u (if e < ep then ep else e) mk lv n F ∧ Only (fun b => b = y) w w' := by
  obtain ⟨_, _, _, _, _, k5, _, _, f5, _⟩ := h.cells
  have ly := h.lt
  by_cases he : e < ep
  · rw [if_pos he]
    have hd : decide (e < ep) = true := by simpa using he
    have H := hid h
    clear h
    go_enter Tryz.func72, Tryz.ntmps72
    go_wp2
    go_ret
    exact ⟨by first | rfl | (rw [hd]; rfl), H.out, Only.refl _ _⟩
  · rw [if_neg he]
    have hd : decide (e < ep) = false := by simpa using he
    have O : Only (fun b => b = y) w (w.setCell ⟨y, 5, none⟩ (.int .i64 e)) := (Only.refl (fun b => b = y) w).setCell ⟨y, 5, none⟩ (.inl rfl) _
    have H := hid (And.intro (h.set O (heap_setCell_same w y 5 _ 77 (.int .i64 e) h.blk)) O)
    clear h O
    go_enter Tryz.func72, Tryz.ntmps72
    go_wp2
    go_ret
    exact ⟨by first | rfl | (rw [hd]; rfl), H.out.1, H.out.2⟩
end Go.Proofs.YtkgjpfamjedncaaGreat

namespace Go.Proofs.YtkgjpfamjedncaaGreat
open Go.RowKit Go.Maps
attribute [local go_sem ↓] Go.wp_at_zero Go.wp_at_succ

/-- A box that none of the cells' blocks is may turn. -/
theorem Cw.other {B0 : Nat} {w w' : World} {y g : Nat} {a b c d u ep mk : Int} {lv : Value} {n : Nat} {F : Nat → Wq} (h : Cw B0 w y a b c d u ep mk lv n F) (ho : Only (fun x => x = g) w w') {cs : Array Value} (hg : w.heap[g]? = some (.cells cs 98 (0, 0))) (hp : y ≠ g) : Cw B0 w' y a b c d u ep mk lv n F :=
  h.only ho hp (fun _ hb e => own_ne_block h.own hg (by decide) (by rw [hb, e])) (fun i hi _ hb e => own_ne_block (h.val i hi) hg (by decide) (by rw [hb, e]))

/-- The answer of a seal. -/
def sealR (ep e : Int) : Value := if e < ep then reply 5 ep 0 0 0 0 (.slice none 0 0) else reply 1 e 0 0 0 0 (.slice none 0 0)
set_option maxRecDepth 100000 in
set_option maxHeartbeats 2000000 in
theorem refSeal_any (B0 y : Nat) (a b c d u ep mk : Int) (lv : Value) (n : Nat) (F : Nat → Wq) (e : Int) (w : World) (h : Cw B0 w y a b c d u ep mk lv n F) :
    Calls Tryz.prog 48 #[.pointer (some ⟨y, 0, none⟩), .int .i64 e] w fun en w' => en = .returned (sealR ep e) ∧ Cw B0 w' y a b c d u (if e < ep then ep else e) mk lv n F ∧ Only (fun b => b = y) w w' := by
  have bA := (Bl.refl w).alloc (.cells blank 98)
  have ly := h.lt
  have HC := hid (oldC_any B0 y a b c d u ep mk lv n F e _ (h.bl bA))
  have HN := hid (heap_alloc_new w (.cells blank 98))
  have HbA := hid bA
  clear h bA
  unfold blank at HC HbA
  by_cases he : e < ep
  · simp only [sealR, he, if_true] at HC ⊢
    go_enter Tryz.func48, Tryz.ntmps48
    go_wp2_with fail
    refine HC.out.mono ?_
    rintro en w' ⟨rfl, hc, O⟩
    have hN : w'.heap[w.heap.size]? = some (.cells blank 98 (0, 0)) := (O.block _ (by simp) (by omega)).trans HN.out
    have lN : w.heap.size < w'.heap.size := (Array.getElem?_eq_some_iff.1 hN).1
    obtain ⟨n0, n1, n2, n3, n4, n5, n6, f0, f1, f2, f3, f4, f5, f6⟩ := blank_row hN
    obtain ⟨_, _, _, _, _, k5, _⟩ := hc.cells
    have ly' := hc.lt
    have HCw := hid hc
    have HO := hid ((Only.of_bl HbA.out).trans O)
    have HN2 := hid hN
    clear hc O hN HC
    go_wp2
    have Z := Only.set7 (w := w') (S := fun b => b = w.heap.size) rfl (.int .i64 5) (.int .i64 ep) (.int .i64 0) (.int .i64 0) (.int .i64 0) (.int .i64 0) (.slice none 0 0)
    refine bodyPost_ret (v := reply 5 ep 0 0 0 0 (.slice none 0 0)) (by simp [results, Tryz.results48, go_sem, reply, n0, n1, n2, n3, n4, n5, n6]) rfl ⟨rfl, HCw.out.other Z HN2.out (by omega), HO.out.trans_new Z (fun n e => Nat.le_of_eq e.symm)⟩
  · have hd : decide (e < ep) = false := by simpa using he
    simp only [sealR, he, if_false] at HC ⊢
    go_enter Tryz.func48, Tryz.ntmps48
    go_wp2_with fail
    refine HC.out.mono ?_
    rintro en w' ⟨rfl, hc, O⟩
    have hN : w'.heap[w.heap.size]? = some (.cells blank 98 (0, 0)) := (O.block _ (by simp) (by omega)).trans HN.out
    have lN : w.heap.size < w'.heap.size := (Array.getElem?_eq_some_iff.1 hN).1
    obtain ⟨n0, n1, n2, n3, n4, n5, n6, f0, f1, f2, f3, f4, f5, f6⟩ := blank_row hN
    have ly' := hc.lt
    have HCw := hid hc
    have HO := hid ((Only.of_bl HbA.out).trans O)
    have HN2 := hid hN
    clear hc O hN HC
    go_wp2
    have Z := Only.set7 (w := w') (S := fun b => b = w.heap.size) rfl (.int .i64 1) (.int .i64 e) (.int .i64 0) (.int .i64 0) (.int .i64 0) (.int .i64 0) (.slice none 0 0)
    refine bodyPost_ret (v := reply 1 e 0 0 0 0 (.slice none 0 0)) (by simp [results, Tryz.results48, go_sem, reply, n0, n1, n2, n3, n4, n5, n6]) rfl ⟨rfl, HCw.out.other Z HN2.out (by omega), HO.out.trans_new Z (fun n e => Nat.le_of_eq e.symm)⟩

set_option maxRecDepth 100000 in
set_option maxHeartbeats 1000000 in
theorem refContent_any (kd cl ca : Int) (va : Option Addr) (vn vc : Nat) (w : World) (hv : vn ≤ 40000000) :
    Calls Tryz.prog 76 #[.agg #[.int .i64 kd, .int .i64 cl, .int .i64 ca, .slice va vn vc]] w fun en w' => en = .returned (.bool (isC kd vn)) ∧ Bl w w' := by
  obtain ⟨r, hr⟩ : ∃ r, Hid (r = isC kd vn) := ⟨_, rfl⟩
  rw [← hr.out]
  by_cases h8 : kd = 8
  · subst h8
    by_cases h1 : 1 ≤ vn
    · by_cases h2 : vn ≤ 8
      · have hI1 : (1 : Int) ≤ vn := by omega
        have hI2 : (vn : Int) ≤ 8 := by omega
        go_enter Tryz.func76, Tryz.ntmps76
        go_wp2
        go_ret
        exact ⟨ret_bool (by rw [hr.out]; simp [isC, *]; try omega), (Bl.refl _).alloc _⟩
      · have hI1 : (1 : Int) ≤ vn := by omega
        have hI2 : ¬ (vn : Int) ≤ 8 := by omega
        go_enter Tryz.func76, Tryz.ntmps76
        go_wp2
        go_ret
        exact ⟨ret_bool (by rw [hr.out]; simp [isC, *]; try omega), (Bl.refl _).alloc _⟩
    · have hI1 : ¬ (1 : Int) ≤ vn := by omega
      go_enter Tryz.func76, Tryz.ntmps76
      go_wp2
      go_ret
      exact ⟨ret_bool (by rw [hr.out]; simp [isC, *]; try omega), (Bl.refl _).alloc _⟩
  · by_cases h9 : kd = 9
    · subst h9
      by_cases h0 : vn = 0
      · subst h0
        go_enter Tryz.func76, Tryz.ntmps76
        go_wp2
        go_ret
        exact ⟨ret_bool (by rw [hr.out]; simp [isC, *]; try omega), (Bl.refl _).alloc _⟩
      · have hI0 : ¬ (vn : Int) = 0 := by omega
        go_enter Tryz.func76, Tryz.ntmps76
        go_wp2
        go_ret
        exact ⟨ret_bool (by rw [hr.out]; simp [isC, *]; try omega), (Bl.refl _).alloc _⟩
    · go_enter Tryz.func76, Tryz.ntmps76
      go_wp2
      go_ret
      exact ⟨ret_bool (by rw [hr.out]; simp [isC, *]; try omega), (Bl.refl _).alloc _⟩

theorem wrap64_in (x : Int) (h : -9223372036854775808 ≤ x ∧ x ≤ 9223372036854775807) : wrap64 x = x := by
  have h' := IntWalk.i64_in x h
  rw [IntWalk.i64_left] at h'
  exact h'
/-- Does an address lie in one of the unit's cells? -/
def mineC (a b c d u x : Int) : Bool := decide ((loc a b c d x).2.2 = 0 ∧ (loc a b c d x).1 = u / b)

set_option maxRecDepth 100000 in
set_option maxHeartbeats 2000000 in
theorem refTrim_any (B0 y : Nat) (a b c d u ep mk : Int) (lv : Value) (n : Nat) (F : Nat → Wq) (e m : Int) (w : World) (h : Cw B0 w y a b c d u ep mk lv n F) :
    Calls Tryz.prog 46 #[.pointer (some ⟨y, 0, none⟩), .int .i64 e, .int .i64 m] w fun en w' => en = .returned (if e < ep then reply 5 ep 0 0 0 0 (.slice none 0 0) else reply 1 0 (if mk < m then m else mk) 0 0 0 (.slice none 0 0)) ∧ Cw B0 w' y a b c d u (if e < ep then ep else e) (if e < ep then mk else if mk < m then m else mk) lv n F ∧ Only (fun b => b = y) w w' := by
  have bA := (Bl.refl w).alloc (.cells blank 98)
  have ly := h.lt
  have HC := hid (oldC_any B0 y a b c d u ep mk lv n F e _ (h.bl bA))
  have HN := hid (heap_alloc_new w (.cells blank 98))
  have HbA := hid bA
  clear h bA
  unfold blank at HC HbA
  by_cases he : e < ep
  · simp only [he, if_true] at HC ⊢
    go_enter Tryz.func46, Tryz.ntmps46
    go_wp2_with fail
    refine HC.out.mono ?_
    rintro en w' ⟨rfl, hc, O⟩
    have hN : w'.heap[w.heap.size]? = some (.cells blank 98 (0, 0)) := (O.block _ (by simp) (by omega)).trans HN.out
    have lN : w.heap.size < w'.heap.size := (Array.getElem?_eq_some_iff.1 hN).1
    obtain ⟨n0, n1, n2, n3, n4, n5, n6, f0, f1, f2, f3, f4, f5, f6⟩ := blank_row hN
    obtain ⟨_, _, _, _, _, k5, _⟩ := hc.cells
    have ly' := hc.lt
    have HCw := hid hc
    have HO := hid ((Only.of_bl HbA.out).trans O)
    have HN2 := hid hN
    clear hc O hN HC
    go_wp2
    have Z := Only.set7 (w := w') (S := fun b => b = w.heap.size) rfl (.int .i64 5) (.int .i64 ep) (.int .i64 0) (.int .i64 0) (.int .i64 0) (.int .i64 0) (.slice none 0 0)
    refine bodyPost_ret (v := reply 5 ep 0 0 0 0 (.slice none 0 0)) (by simp [results, Tryz.results46, go_sem, reply, n0, n1, n2, n3, n4, n5, n6]) rfl ⟨rfl, HCw.out.other Z HN2.out (by omega), HO.out.trans_new Z (fun n e => Nat.le_of_eq e.symm)⟩
  · simp only [he, if_false] at HC ⊢
    by_cases hm : mk < m
    · simp only [hm, if_true]
      go_enter Tryz.func46, Tryz.ntmps46
      go_wp2_with fail
      refine HC.out.mono ?_
      rintro en w' ⟨rfl, hc, O⟩
      have hN : w'.heap[w.heap.size]? = some (.cells blank 98 (0, 0)) := (O.block _ (by simp) (by omega)).trans HN.out
      have lN : w.heap.size < w'.heap.size := (Array.getElem?_eq_some_iff.1 hN).1
      obtain ⟨n0, n1, n2, n3, n4, n5, n6, f0, f1, f2, f3, f4, f5, f6⟩ := blank_row hN
      obtain ⟨_, _, _, _, _, _, k6, _, _, g6, _⟩ := hc.cells
      have ly' := hc.lt
      have nyN : ¬ y = w.heap.size := by omega
      have nNy : ¬ w.heap.size = y := by omega
      have O2 : Only (fun b => b = y) w' (w'.setCell ⟨y, 6, none⟩ (.int .i64 m)) := (Only.refl (fun b => b = y) w').setCell ⟨y, 6, none⟩ (.inl rfl) _
      have HCw := hid (hc.set O2 (heap_setCell_same w' y 6 _ 77 (.int .i64 m) hc.blk))
      have HO := hid (((Only.of_bl HbA.out).trans O).trans O2)
      have HN2 := hid ((O2.block _ lN (by omega)).trans hN)
      clear hc O hN HC O2
      go_wp2
      have Z := Only.set7 (w := w'.setCell ⟨y, 6, none⟩ (.int .i64 m)) (S := fun b => b = w.heap.size) rfl (.int .i64 1) (.int .i64 0) (.int .i64 m) (.int .i64 0) (.int .i64 0) (.int .i64 0) (.slice none 0 0)
      refine bodyPost_ret (v := reply 1 0 m 0 0 0 (.slice none 0 0)) (by simp [results, Tryz.results46, go_sem, reply, n0, n1, n2, n3, n4, n5, n6]) rfl ⟨rfl, HCw.out.other Z HN2.out (by omega), HO.out.trans_new Z (fun n e => Nat.le_of_eq e.symm)⟩
    · simp only [hm, if_false]
      go_enter Tryz.func46, Tryz.ntmps46
      go_wp2_with fail
      refine HC.out.mono ?_
      rintro en w' ⟨rfl, hc, O⟩
      have hN : w'.heap[w.heap.size]? = some (.cells blank 98 (0, 0)) := (O.block _ (by simp) (by omega)).trans HN.out
      have lN : w.heap.size < w'.heap.size := (Array.getElem?_eq_some_iff.1 hN).1
      obtain ⟨n0, n1, n2, n3, n4, n5, n6, f0, f1, f2, f3, f4, f5, f6⟩ := blank_row hN
      obtain ⟨_, _, _, _, _, _, k6, _⟩ := hc.cells
      have ly' := hc.lt
      have HCw := hid hc
      have HO := hid ((Only.of_bl HbA.out).trans O)
      have HN2 := hid hN
      clear hc O hN HC
      go_wp2
      have Z := Only.set7 (w := w') (S := fun b => b = w.heap.size) rfl (.int .i64 1) (.int .i64 0) (.int .i64 mk) (.int .i64 0) (.int .i64 0) (.int .i64 0) (.slice none 0 0)
      refine bodyPost_ret (v := reply 1 0 mk 0 0 0 (.slice none 0 0)) (by simp [results, Tryz.results46, go_sem, reply, n0, n1, n2, n3, n4, n5, n6]) rfl ⟨rfl, HCw.out.other Z HN2.out (by omega), HO.out.trans_new Z (fun n e => Nat.le_of_eq e.symm)⟩

set_option maxRecDepth 100000 in
set_option maxHeartbeats 1000000 in
theorem refMine_any (B0 y : Nat) (a b c d u ep mk : Int) (lv : Value) (n : Nat) (F : Nat → Wq) (x : Int) (w : World) (h : Cw B0 w y a b c d u ep mk lv n F) (hu : 0 ≤ u) (hu9 : u ≤ 1000) (hf : fit a b c d = true) :
    Calls Tryz.prog 73 #[.pointer (some ⟨y, 0, none⟩), .int .i64 x] w fun en w' => en = .returned (.bool (mineC a b c d u x)) ∧ Bl w w' := by
  obtain ⟨k0, k1, k2, k3, k4, _⟩ := h.cells
  have ly := h.lt
  have HL := hid (locate_ref a b c d x w)
  obtain ⟨hb1, hb3⟩ := fit_bd2 hf
  obtain ⟨r, hr⟩ : ∃ r, Hid (r = mineC a b c d u x) := ⟨_, rfl⟩
  rw [← hr.out]
  unfold mineC at hr
  generalize loc a b c d x = L at *
  obtain ⟨l1, l2, l3⟩ := L
  unfold tup at HL
  simp only at HL hr
  have hb0 : ¬ b = 0 := by omega
  have hdv : Int.tdiv u b = u / b := Int.tdiv_eq_ediv_of_nonneg hu
  have hq1 : -9223372036854775808 ≤ u / b ∧ u / b ≤ u := ⟨by have := Int.ediv_nonneg hu (by omega : 0 ≤ b); omega, Int.ediv_le_self b hu⟩
  clear h
  go_enter Tryz.func73, Tryz.ntmps73
  go_wp2_with fail
  refine HL.out.mono ?_
  rintro en w' ⟨rfl, hb⟩
  have m1 := (hb.cell ly).trans k1
  have m4 := (hb.cell ly).trans k4
  have ly' := Nat.lt_of_lt_of_le ly hb.lt
  have HB := hid hb
  clear HL hb k0 k1 k2 k3 k4
  by_cases h3 : l3 = 0
  · subst h3
    by_cases h1 : l1 = u / b
    · go_wp2_with fail
      go_quiet (fail)
      go_wp2
      go_ret
      exact ⟨ret_bool (by rw [hr.out]; simp [h1]), HB.out.drewN _⟩
    · go_wp2_with fail
      go_quiet (fail)
      go_wp2
      go_ret
      exact ⟨ret_bool (by rw [hr.out]; simp [h1]), HB.out.drewN _⟩
  · go_wp2_with fail
    go_quiet (fail)
    go_wp2
    go_ret
    exact ⟨ret_bool (by rw [hr.out]; simp [h3]), HB.out.drewN _⟩
end Go.Proofs.YtkgjpfamjedncaaGreat
