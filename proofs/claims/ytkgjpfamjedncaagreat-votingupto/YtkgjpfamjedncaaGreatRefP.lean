/-
  The document's own voter: Prepare.
-/
import Derived.Test.YtkgjpfamjedncaaGreatRefV
import Derived.Deep.DeepCutAuto
namespace Go.Proofs.YtkgjpfamjedncaaGreat
open Go.RowKit
attribute [local go_sem ↓] Go.wp_at_zero Go.wp_at_succ

/-- The slots hold what E tells. -/
structure Rl (n : Nat) (F : Nat → Sq) (E : Int → Ep) : Prop where
  pos : ∀ i, i < n → 1 ≤ (F i).e
  dist : ∀ i j, i < n → j < n → (F i).e = (F j).e → i = j
  at' : ∀ i, i < n → (F i).s = E (F i).e
  free : ∀ e, 1 ≤ e → (∀ i, i < n → (F i).e ≠ e) → E e = ⟨0, 0, []⟩
theorem Rl.push {n : Nat} {F : Nat → Sq} {E : Int → Ep} (h : Rl n F E) (e : Int) (he : 1 ≤ e) (hno : ∀ j, j < n → (F j).e ≠ e) : Rl (n + 1) (upF F n ⟨e, ⟨0, 0, []⟩, .slice none 0 0⟩) E := by
  refine ⟨fun i hi => ?_, fun i j hi hj hij => ?_, fun i hi => ?_, fun e' he' hn => ?_⟩
  · by_cases ei : i = n
    · subst ei; rw [upF_same]; exact he
    · rw [upF_other _ _ _ _ ei]; exact h.pos i (by omega)
  · by_cases ei : i = n
    · by_cases ej : j = n
      · omega
      · subst ei; rw [upF_same, upF_other _ _ _ _ ej] at hij; exact absurd hij.symm (hno j (by omega))
    · by_cases ej : j = n
      · subst ej; rw [upF_same, upF_other _ _ _ _ ei] at hij; exact absurd hij (hno i (by omega))
      · rw [upF_other _ _ _ _ ei, upF_other _ _ _ _ ej] at hij; exact h.dist i j (by omega) (by omega) hij
  · by_cases ei : i = n
    · subst ei; rw [upF_same]; exact (h.free e he hno).symm
    · rw [upF_other _ _ _ _ ei]; exact h.at' i (by omega)
  · refine h.free e' he' fun i hi => ?_
    have := hn i (by omega)
    rwa [upF_other _ _ _ _ (by omega)] at this
theorem Rl.upd {n : Nat} {F : Nat → Sq} {E : Int → Ep} (h : Rl n F E) (i : Nat) (hi : i < n) (s : Ep) (v : Value) : Rl n (upF F i ⟨(F i).e, s, v⟩) (updE E (F i).e s) := by
  have he : ∀ j, (upF F i ⟨(F i).e, s, v⟩ j).e = (F j).e := fun j => by
    by_cases ej : j = i
    · subst ej; rw [upF_same]
    · rw [upF_other _ _ _ _ ej]
  refine ⟨fun j hj => by rw [he]; exact h.pos j hj, fun j k hj hk hjk => by rw [he, he] at hjk; exact h.dist j k hj hk hjk, fun j hj => ?_, fun e he' hn => ?_⟩
  · by_cases ej : j = i
    · subst ej; rw [upF_same]; simp [updE]
    · rw [upF_other _ _ _ _ ej]
      unfold updE
      rw [if_neg fun e => ej (h.dist j i hj hi e)]
      exact h.at' j hj
  · have hn' : ∀ j, j < n → (F j).e ≠ e := fun j hj => by have := hn j hj; rwa [he] at this
    unfold updE
    rw [if_neg fun e' => hn' i hi e'.symm]
    exact h.free e he' hn'

theorem has_or (n : Nat) (F : Nat → Sq) (e : Int) : (∃ i, Has n F e i) ∨ ∀ j, j < n → (F j).e ≠ e := by
  induction n with
  | zero => exact .inr fun j hj => by omega
  | succ n ih =>
    rcases ih with ⟨i, h1, h2, h3⟩ | h
    · exact .inl ⟨i, by omega, h2, h3⟩
    · by_cases en : (F n).e = e
      · exact .inl ⟨n, by omega, en, fun j hj => h j hj⟩
      · exact .inr fun j hj => by
          by_cases ej : j = n
          · subst ej; exact en
          · exact h j (by omega)

/-- What the document's voter has become. -/
structure Rn (B0 : Nat) (w0 w : World) (y : Nat) (lv lv' : Value) (n0 : Nat) (F0 : Nat → Sq) (n : Nat) (F : Nat → Sq) (E : Int → Ep) : Prop where
  rw : Rw B0 w y lv' n F
  rl : Rl n F E
  only : Only (Rfoot y lv) w0 w
  lies : ∀ b, lv'.ownBlock = some b → lv.ownBlock = some b ∨ w0.heap.size ≤ b
  vl : ∀ i, i < n → ∀ b, (F i).v.ownBlock = some b → (∃ k, k < n0 ∧ (F0 k).v.ownBlock = some b) ∨ w0.heap.size ≤ b

theorem slot_any (B0 y : Nat) (lv : Value) (n : Nat) (F : Nat → Sq) (E : Int → Ep) (e : Int) (w : World) (h : Rw B0 w y lv n F) (hl : Rl n F E) (he : 1 ≤ e) (hn : n ≤ 4000000) (hB : B0 ≤ w.heap.size) :
    Calls Tryz.prog 81 #[.pointer (some ⟨y, 0, none⟩), .int .i64 e] w fun en w' => ∃ i lv' n' F', en = .returned (.int .i64 (i : Nat)) ∧ i < n' ∧ n' ≤ n + 1 ∧ (F' i).e = e ∧ Rn B0 w w' y lv lv' n F n' F' E := by
  rcases has_or n F e with ⟨i, hi⟩ | hno
  · refine (slotOld_any B0 y lv n F e i w h hi hn).mono ?_
    rintro en w' ⟨rfl, rfl⟩
    exact ⟨i, lv, n, F, rfl, hi.1, by omega, hi.2.1, h, hl, Only.refl _ _, fun b hb => .inl hb, fun k hk b hb => .inl ⟨k, hk, hb⟩⟩
  · refine (slotNew_any B0 y lv n F e w h hno hn hB).mono ?_
    rintro en w' ⟨lv', rfl, h1, h2, h3⟩
    refine ⟨n, lv', n + 1, _, rfl, by omega, by omega, by rw [upF_same], h1, hl.push e he hno, h2, h3, fun k hk b hb => ?_⟩
    by_cases ek : k = n
    · subst ek; rw [upF_same] at hb; simp [Value.ownBlock] at hb
    · rw [upF_other _ _ _ _ ek] at hb; exact .inl ⟨k, by omega, hb⟩
/-- A number of a slot is written. -/
theorem Rw.set {B0 : Nat} {w : World} {y g c : Nat} {n : Nat} {F : Nat → Sq} (h : Rw B0 w y (.slice (some ⟨g, 0, none⟩) n c) n F) (i k : Nat) (hi : i < n) (hk : k < 4) (u : Value) (x : Sq) (hx : (sq4 (F i)).set k u = sq4 x) (hv : w.ownsRow 0 5 1 x.v x.s.val.length (x.s.val.map B8)) :
    Rw B0 (w.setCell ⟨g, i * 4 + k, none⟩ u) y (.slice (some ⟨g, 0, none⟩) n c) n (upF F i x) ∧ Only (Rfoot y (.slice (some ⟨g, 0, none⟩) n c)) w (w.setCell ⟨g, i * 4 + k, none⟩ u) := by
  have O : Only (Rfoot y (.slice (some ⟨g, 0, none⟩) n c)) w (w.setCell ⟨g, i * 4 + k, none⟩ u) := (Only.refl _ w).setCell ⟨g, i * 4 + k, none⟩ (.inl (.inr rfl)) u
  have hgy : g ≠ y := fun e => own_ne_block h.own h.blk (by decide) (by rw [← e]; rfl)
  have hst := h.own.stored (i * 4 + k) u
  rw [row4_set F n i k hi hk u x hx] at hst
  refine ⟨⟨(Below.heap_setCell _ _ _ _ (Ne.symm hgy)).trans h.blk, hst.1, fun j hj => ?_⟩, O⟩
  by_cases ej : j = i
  · subst ej
    rw [upF_same]
    refine O.owns hv fun b hb e => ?_
    rcases e with rfl | e
    · exact own_ne_block hv h.blk (by decide) hb
    · exact ownsRow_type hv h.own (by decide) b hb e
  · rw [upF_other _ _ _ _ ej]; exact h.vals O j hj

theorem Rn.fin {B0 : Nat} {w w1 w2 : World} {y : Nat} {lv lv' : Value} {n0 : Nat} {F0 : Nat → Sq} {n : Nat} {F : Nat → Sq} {E : Int → Ep} {c : Array Value} (h : Rn B0 (w.alloc (.cells blankV 105)) w1 y lv lv' n0 F0 n F E) (hN : w1.heap[w.heap.size]? = some (.cells c 105 (0, 0))) (O : Only (fun b => b = w.heap.size) w1 w2) : Rn B0 w w2 y lv lv' n0 F0 n F E := by
  refine ⟨h.rw.only O ?_ ?_ ?_, h.rl, ((Only.of_bl ((Bl.refl w).alloc _)).trans h.only).trans_new O (fun b e => Nat.le_of_eq e.symm), fun b hb => (h.lies b hb).imp id fun h1 => Nat.le_trans (by simp) h1, fun i hi b hb => (h.vl i hi b hb).imp id fun h1 => Nat.le_trans (by simp) h1⟩
  · intro e
    rw [← e, h.rw.blk] at hN
    simp at hN
  · exact fun b hb e => own_ne_block h.rw.own hN (by decide) (by rw [hb, e])
  · exact fun i hi b hb e => own_ne_block (h.rw.val i hi) hN (by decide) (by rw [hb, e])

set_option maxRecDepth 100000 in
set_option maxHeartbeats 1000000 in
theorem refPrepLow_any (y : Nat) (e b : Int) (w : World) (he : e < 1) :
    Calls Tryz.prog 53 #[.pointer (some ⟨y, 0, none⟩), .int .i64 e, .int .i64 b] w fun en w' => en = .returned (voteR 6 0 0 (.slice none 0 0)) ∧ Bl w w' := by
  go_enter Tryz.func53, Tryz.ntmps53
  go_wp2
  have bB := (Bl.refl w).alloc (.cells #[.int .i64 6, .int .i64 0, .int .i64 0, .slice none 0 0] 105)
  exact bodyPost_ret (v := voteR 6 0 0 (.slice none 0 0)) (by simp [results, Tryz.results53, go_sem, voteR]) rfl ⟨rfl, bB⟩

set_option maxRecDepth 100000 in
set_option maxHeartbeats 2000000 in
theorem refPrep_any (B0 y : Nat) (lv : Value) (n : Nat) (F : Nat → Sq) (E : Int → Ep) (e b : Int) (w : World) (h : Rw B0 w y lv n F) (hl : Rl n F E) (he : 1 ≤ e) (hn : n ≤ 4000000) (hB : B0 ≤ w.heap.size) (hno : b < 1 ∨ b ≤ (E e).pr) :
    Calls Tryz.prog 53 #[.pointer (some ⟨y, 0, none⟩), .int .i64 e, .int .i64 b] w fun en w' => ∃ lv' n' F', en = .returned (voteR 6 (E e).pr 0 (.slice none 0 0)) ∧ n' ≤ n + 1 ∧ Rn B0 w w' y lv lv' n F n' F' E := by
  have bA := (Bl.refl w).alloc (.cells blankV 105)
  have HS := hid (slot_any B0 y lv n F E e _ (h.bl bA) hl he hn (Nat.le_trans hB bA.lt))
  have ly := h.lt
  have ll : Hid (∀ b, lv.ownBlock = some b → b < w.heap.size) := fun b hb => (h.own.lt b hb).2
  unfold blankV at HS
  go_enter Tryz.func53, Tryz.ntmps53
  go_wp2_with fail
  refine HS.out.mono ?_
  rintro en w1 ⟨i, lv', n', F', rfl, hi, hn', hie, hR⟩
  have hN : w1.heap[w.heap.size]? = some (.cells blankV 105 (0, 0)) := (hR.only.block w.heap.size (by simp) (by
    rintro (e1 | e1)
    · omega
    · have := ll.out _ e1; omega)).trans (heap_alloc_new w _)
  have lN : w.heap.size < w1.heap.size := (Array.getElem?_eq_some_iff.1 hN).1
  obtain ⟨m0, m1, m2, m3, f0, f1, f2, f3⟩ := blankV_row hN
  obtain ⟨g, cap, hsh⟩ := own_shape4 hR.rw.own (by omega)
  subst hsh
  have c0 := cell_of_row w1 y 0 _ 88 (0, 0) hR.rw.blk
  simp at c0
  have ly1 := hR.rw.lt
  have hp : w1.cell? ⟨g, i * 4 + 1, none⟩ = some (.int .i64 (E e).pr) := by
    rw [hR.rw.own.cellAt (i * 4 + 1) (by omega), row4_get F' n' i 1 hi (by omega)]
    have := hR.rl.at' i hi
    rw [hie] at this
    simp [sq4, this]
  have HR := hid hR
  have HN := hid hN
  have hiI : (i : Int) < (n' : Int) := by omega
  clear HS hR hN h
  have F4 := hid (Only.set4 (w := w1) (S := fun b => b = w.heap.size) rfl (.int .i64 6) (.int .i64 (E e).pr) (.int .i64 0) (.slice none 0 0))
  by_cases hb1 : b < 1
  · clear hno
    go_wp2
    exact bodyPost_ret (v := voteR 6 (E e).pr 0 (.slice none 0 0)) (by simp [results, Tryz.results53, go_sem, voteR, m0, m1, m2, m3]) rfl ⟨_, n', F', rfl, hn', HR.out.fin HN.out F4.out⟩
  · have hle : b ≤ (E e).pr := by omega
    clear hno
    go_wp2
    exact bodyPost_ret (v := voteR 6 (E e).pr 0 (.slice none 0 0)) (by simp [results, Tryz.results53, go_sem, voteR, m0, m1, m2, m3]) rfl ⟨_, n', F', rfl, hn', HR.out.fin HN.out F4.out⟩

theorem Rn.turn {B0 : Nat} {w w1 w2 : World} {y : Nat} {lv lv' : Value} {n0 : Nat} {F0 : Nat → Sq} {n : Nat} {F : Nat → Sq} {E : Int → Ep} (h : Rn B0 w w1 y lv lv' n0 F0 n F E) (hb : Bl w1 w2) : Rn B0 w w2 y lv lv' n0 F0 n F E :=
  ⟨h.rw.bl hb, h.rl, h.only.trans (Only.of_bl hb), h.lies, h.vl⟩
theorem Rn.step {B0 : Nat} {w w1 w2 : World} {y : Nat} {lv lv' : Value} {n0 : Nat} {F0 : Nat → Sq} {n : Nat} {F F' : Nat → Sq} {E E' : Int → Ep} (h : Rn B0 w w1 y lv lv' n0 F0 n F E) (hr : Rw B0 w2 y lv' n F') (hl : Rl n F' E') (ho : Only (Rfoot y lv') w1 w2) (hv : ∀ i, i < n → ∀ b, (F' i).v.ownBlock = some b → (∃ k, k < n0 ∧ (F0 k).v.ownBlock = some b) ∨ w.heap.size ≤ b) : Rn B0 w w2 y lv lv' n0 F0 n F' E' := by
  refine ⟨hr, hl, ⟨ho.os.trans h.only.os, ho.tape.trans h.only.tape, ho.output.trans h.only.output, Nat.le_trans h.only.size ho.size, fun i hi hn => ?_⟩, h.lies, hv⟩
  rw [ho.block i (Nat.lt_of_lt_of_le hi h.only.size) ?_, h.only.block i hi hn]
  rintro (e | e)
  · exact hn (.inl e)
  · rcases h.lies i e with e1 | e1
    · exact hn (.inr e1)
    · omega

set_option maxRecDepth 100000 in
set_option maxHeartbeats 2000000 in
theorem refPrepYes_any (B0 y : Nat) (lv : Value) (n : Nat) (F : Nat → Sq) (E : Int → Ep) (e b : Int) (w : World) (h : Rw B0 w y lv n F) (hl : Rl n F E) (he : 1 ≤ e) (hn : n ≤ 4000000) (hB : B0 ≤ w.heap.size) (hb : 1 ≤ b) (hp : (E e).pr < b) :
    Calls Tryz.prog 53 #[.pointer (some ⟨y, 0, none⟩), .int .i64 e, .int .i64 b] w fun en w' => ∃ lv' n' F' v, en = .returned (voteR 1 b (E e).ba v) ∧ n' ≤ n + 1 ∧ Rn B0 w w' y lv lv' n F n' F' (updE E e ⟨b, (E e).ba, (E e).val⟩) ∧ w'.ownsRow 0 5 1 v (E e).val.length ((E e).val.map B8) := by
  have bA := (Bl.refl w).alloc (.cells blankV 105)
  have HS := hid (slot_any B0 y lv n F E e _ (h.bl bA) hl he hn (Nat.le_trans hB bA.lt))
  have ly := h.lt
  have ll : Hid (∀ b, lv.ownBlock = some b → b < w.heap.size) := fun b hb => (h.own.lt b hb).2
  unfold blankV at HS
  go_enter Tryz.func53, Tryz.ntmps53
  go_wp2_with fail
  refine HS.out.mono ?_
  rintro en w1 ⟨i, lv', n', F', rfl, hi, hn', hie, hR⟩
  have hN : w1.heap[w.heap.size]? = some (.cells blankV 105 (0, 0)) := (hR.only.block w.heap.size (by simp) (by
    rintro (e1 | e1)
    · omega
    · have := ll.out _ e1; omega)).trans (heap_alloc_new w _)
  obtain ⟨g, cap, hsh⟩ := own_shape4 hR.rw.own (by omega)
  subst hsh
  have hs := hR.rl.at' i hi
  rw [hie] at hs
  have hval := hR.rw.val i hi
  rw [hs] at hval
  obtain ⟨va, vc, hvv⟩ := owned_slice' hval
  have hR2 := hR.rw.set i 1 hi (by omega) (.int .i64 b) ⟨e, ⟨b, (E e).ba, (E e).val⟩, (F' i).v⟩ (by simp [sq4, hs, hie]) hval
  have hl2 := hR.rl.upd i hi ⟨b, (E e).ba, (E e).val⟩ (F' i).v
  rw [hie] at hl2
  have HR := hid (hR.step hR2.1 hl2 hR2.2 (fun k hk b hb => by
    by_cases ek : k = i
    · subst ek; rw [upF_same] at hb; exact hR.vl k hk b hb
    · rw [upF_other _ _ _ _ ek] at hb; exact hR.vl k hk b hb))
  have hg1 : g ≠ w.heap.size := fun e1 => own_ne_block hR.rw.own hN (by decide) (by rw [← e1]; rfl)
  have hgy : g ≠ y := fun e1 => own_ne_block hR.rw.own hR.rw.blk (by decide) (by rw [← e1]; rfl)
  have lg := (hR.rw.own.lt g rfl).2
  have hp1 : w1.cell? ⟨g, i * 4 + 1, none⟩ = some (.int .i64 (E e).pr) := by
    rw [hR.rw.own.cellAt (i * 4 + 1) (by omega), row4_get F' n' i 1 hi (by omega)]
    simp [sq4, hs]
  have hfr := hR.rw.own.frozenAt (i * 4 + 1)
  have c01 := cell_of_row w1 y 0 _ 88 (0, 0) hR.rw.blk
  simp at c01
  have ly1 := hR.rw.lt
  have hN2 : (w1.setCell ⟨g, i * 4 + 1, none⟩ (.int .i64 b)).heap[w.heap.size]? = some (.cells blankV 105 (0, 0)) := (Below.heap_setCell _ _ _ _ (Ne.symm hg1)).trans hN
  have hiI : (i : Int) < (n' : Int) := by omega
  have hnle : ¬ b ≤ (E e).pr := by omega
  have hv2 := hR2.1.val i hi
  rw [upF_same] at hv2
  have e2 : (w1.setCell ⟨g, i * 4 + 1, none⟩ (.int .i64 b)).cell? ⟨g, i * 4 + 2, none⟩ = some (.int .i64 (E e).ba) := by
    rw [hR2.1.own.cellAt (i * 4 + 2) (by omega), row4_get _ n' i 2 hi (by omega), upF_same]
    rfl
  have e3 : (w1.setCell ⟨g, i * 4 + 1, none⟩ (.int .i64 b)).cell? ⟨g, i * 4 + 3, none⟩ = some (.slice va (E e).val.length vc) := by
    rw [hR2.1.own.cellAt (i * 4 + 3) (by omega), row4_get _ n' i 3 hi (by omega), upF_same, ← hvv]
    rfl
  have e0 : (w1.setCell ⟨g, i * 4 + 1, none⟩ (.int .i64 b)).cell? ⟨y, 0, none⟩ = some (.slice (some ⟨g, 0, none⟩) n' cap) := by
    rw [cell_of_row _ y 0 _ 88 (0, 0) hR2.1.blk]; rfl
  have ly2 := hR2.1.lt
  have lg2 := (hR2.1.own.lt g rfl).2
  have HV := hid hv2
  rw [hvv] at HV
  have HE := hid (And.intro e0 (And.intro e2 e3))
  have HL2 := hid (And.intro ly2 lg2)
  have HN2 := hid hN2
  clear HS hR hN hR2 hl2 hval hs hvv hv2 hie h hN2 e0 e2 e3 ly2 lg2
  go_upto_region 7 with fail
  obtain ⟨W2, hW2⟩ : ∃ W2, W2 = w1.setCell ⟨g, i * 4 + 1, none⟩ (.int .i64 b) := ⟨_, rfl⟩
  rw [← hW2] at HR HV HE HL2 HN2
  rw [← hW2]
  clear hW2 c01 hp1 hfr lg ly1
  obtain ⟨e0, e2, e3⟩ := HE.out
  obtain ⟨ly2, lg2⟩ := HL2.out
  have lN : w.heap.size < W2.heap.size := (Array.getElem?_eq_some_iff.1 HN2.out).1
  obtain ⟨m0, m1, m2, m3, f0, f1, f2, f3⟩ := blankV_row HN2.out
  have F4 := hid (Only.set4 (w := W2.drew) (S := fun b => b = w.heap.size) rfl (.int .i64 1) (.int .i64 b) (.int .i64 (E e).ba) (.slice va (E e).val.length vc))
  have nn1 : ¬ w.heap.size = y := by omega
  have nn2 : ¬ w.heap.size = g := fun e => hg1 e.symm
  go_region_held3 (fun W => W.cell? ⟨y, 0, none⟩ = some (.slice (some ⟨g, 0, none⟩) n' cap) ∧ W.cell? ⟨g, i * 4 + 2, none⟩ = some (.int .i64 (E e).ba) ∧ W.cell? ⟨g, i * 4 + 3, none⟩ = some (.slice va (E e).val.length vc)) (go_keep) (fail)
  go_wp2
  have hN3 : W2.drew.heap[w.heap.size]? = some (.cells blankV 105 (0, 0)) := HN2.out
  exact bodyPost_ret (v := voteR 1 b (E e).ba (.slice va (E e).val.length vc)) (by simp [results, Tryz.results53, go_sem, voteR, m0, m1, m2, m3]) rfl ⟨_, n', _, _, rfl, hn', (HR.out.turn ((Bl.refl _).drew)).fin hN3 F4.out, F4.out.owns ((Only.of_bl (S := fun _ => False) ((Bl.refl _).drew)).owns HV.out fun _ _ e => e) fun b hb e => own_ne_block HV.out HN2.out (by decide) (by rw [hb, e])⟩
end Go.Proofs.YtkgjpfamjedncaaGreat
