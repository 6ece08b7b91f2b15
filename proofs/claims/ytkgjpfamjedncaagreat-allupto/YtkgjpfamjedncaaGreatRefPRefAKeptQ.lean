/-
  The document's own voter: Prepare.
-/
/-
  The document's own voter: Accept.
-/
/-
  A voter is kept as it is, with the image's length.
-/
import Derived.Test.YtkgjpfamjedncaaGreatLooksBRefVRefCRefDQ
import Derived.Deep.DeepCutAuto
import Derived.Test.YtkgjpfamjedncaaGreatVOpenVFurVCallsApartStrTailQ
namespace Go.Proofs.YtkgjpfamjedncaaGreat
open Go.RowKit
attribute [local go_sem ↓] Go.wp_at_zero Go.wp_at_succ

/-- The slots hold what E tells. -/
structure Rl (n : Nat) (F : Nat → Sq) (E : Int → Ep) : Prop where
  pos : ∀ i, i < n → 1 ≤ (F i).e
  dist : ∀ i j, i < n → j < n → (F i).e = (F j).e → i = j
  at' : ∀ i, i < n → (F i).s = E (F i).e
  free : ∀ e, 1 ≤ e → (∀ i, i < n → (F i).e ≠ e) → E e = ⟨0, 0, []⟩
theorem Rl.push {n : Nat} {F : Nat → Sq} {E : Int → Ep} (h : Rl n F E) (e : Int) (he : 1 ≤ e) (hno : ∀ j, j < n → (F j).e ≠ e) : Rl (n + 1) (upF F n ⟨e, ⟨0, 0, []⟩, .slice none 0 0⟩) E := by
  refine ⟨fun i hi => ?_, fun i j hi hj hij => ?_, fun i hi => ?_, fun e' he' hn => ?_⟩
  · by_cases ei : i = n
    · subst ei; rw [upF_same]; exact he
    · rw [upF_other _ _ _ _ ei]; exact h.pos i (by omega)
  · by_cases ei : i = n
    · by_cases ej : j = n
      · omega
      · subst ei; rw [upF_same, upF_other _ _ _ _ ej] at hij; exact absurd hij.symm (hno j (by omega))
    · by_cases ej : j = n
      · subst ej; rw [upF_same, upF_other _ _ _ _ ei] at hij; exact absurd hij (hno i (by omega))
      · rw [upF_other _ _ _ _ ei, upF_other _ _ _ _ ej] at hij; exact h.dist i j (by omega) (by omega) hij
  · by_cases ei : i = n
    · subst ei; rw [upF_same]; exact (h.free e he hno).symm
    · rw [upF_other _ _ _ _ ei]; exact h.at' i (by omega)
  · refine h.free e' he' fun i hi => ?_
    have := hn i (by omega)
    rwa [upF_other _ _ _ _ (by omega)] at this
theorem Rl.upd {n : Nat} {F : Nat → Sq} {E : Int → Ep} (h : Rl n F E) (i : Nat) (hi : i < n) (s : Ep) (v : Value) : Rl n (upF F i ⟨(F i).e, s, v⟩) (updE E (F i).e s) := by
  have he : ∀ j, (upF F i ⟨(F i).e, s, v⟩ j).e = (F j).e := fun j => by
    by_cases ej : j = i
    · subst ej; rw [upF_same]
    · rw [upF_other _ _ _ _ ej]
  refine ⟨fun j hj => by rw [he]; exact h.pos j hj, fun j k hj hk hjk => by rw [he, he] at hjk; exact h.dist j k hj hk hjk, fun j hj => ?_, fun e he' hn => ?_⟩
  · by_cases ej : j = i
    · subst ej; rw [upF_same]; simp [updE]
    · rw [upF_other _ _ _ _ ej]
      unfold updE
      rw [if_neg fun e => ej (h.dist j i hj hi e)]
      exact h.at' j hj
  · have hn' : ∀ j, j < n → (F j).e ≠ e := fun j hj => by have := hn j hj; rwa [he] at this
    unfold updE
    rw [if_neg fun e' => hn' i hi e'.symm]
    exact h.free e he' hn'

theorem has_or (n : Nat) (F : Nat → Sq) (e : Int) : (∃ i, Has n F e i) ∨ ∀ j, j < n → (F j).e ≠ e := by
  induction n with
  | zero => exact .inr fun j hj => by omega
  | succ n ih =>
    rcases ih with ⟨i, h1, h2, h3⟩ | h
    · exact .inl ⟨i, by omega, h2, h3⟩
    · by_cases en : (F n).e = e
      · exact .inl ⟨n, by omega, en, fun j hj => h j hj⟩
      · exact .inr fun j hj => by
          by_cases ej : j = n
          · subst ej; exact en
          · exact h j (by omega)

/-- What the document's voter has become. -/
structure Rn (B0 : Nat) (w0 w : World) (y : Nat) (lv lv' : Value) (n0 : Nat) (F0 : Nat → Sq) (n : Nat) (F : Nat → Sq) (E : Int → Ep) : Prop where
  rw : Rw B0 w y lv' n F
  rl : Rl n F E
  only : Only (Rfoot y lv) w0 w
  lies : ∀ b, lv'.ownBlock = some b → lv.ownBlock = some b ∨ w0.heap.size ≤ b
  vl : ∀ i, i < n → ∀ b, (F i).v.ownBlock = some b → (∃ k, k < n0 ∧ (F0 k).v.ownBlock = some b) ∨ w0.heap.size ≤ b

theorem slot_any (B0 y : Nat) (lv : Value) (n : Nat) (F : Nat → Sq) (E : Int → Ep) (e : Int) (w : World) (h : Rw B0 w y lv n F) (hl : Rl n F E) (he : 1 ≤ e) (hn : n ≤ 4000000) (hB : B0 ≤ w.heap.size) :
    Calls Tryz.prog 81 #[.pointer (some ⟨y, 0, none⟩), .int .i64 e] w fun en w' => ∃ i lv' n' F', en = .returned (.int .i64 (i : Nat)) ∧ i < n' ∧ n' ≤ n + 1 ∧ (F' i).e = e ∧ Rn B0 w w' y lv lv' n F n' F' E := by
  rcases has_or n F e with ⟨i, hi⟩ | hno
  · refine (slotOld_any B0 y lv n F e i w h hi hn).mono ?_
    rintro en w' ⟨rfl, rfl⟩
    exact ⟨i, lv, n, F, rfl, hi.1, by omega, hi.2.1, h, hl, Only.refl _ _, fun b hb => .inl hb, fun k hk b hb => .inl ⟨k, hk, hb⟩⟩
  · refine (slotNew_any B0 y lv n F e w h hno hn hB).mono ?_
    rintro en w' ⟨lv', rfl, h1, h2, h3⟩
    refine ⟨n, lv', n + 1, _, rfl, by omega, by omega, by rw [upF_same], h1, hl.push e he hno, h2, h3, fun k hk b hb => ?_⟩
    by_cases ek : k = n
    · subst ek; rw [upF_same] at hb; simp [Value.ownBlock] at hb
    · rw [upF_other _ _ _ _ ek] at hb; exact .inl ⟨k, by omega, hb⟩
/-- A number of a slot is written. -/
theorem Rw.set {B0 : Nat} {w : World} {y g c : Nat} {n : Nat} {F : Nat → Sq} (h : Rw B0 w y (.slice (some ⟨g, 0, none⟩) n c) n F) (i k : Nat) (hi : i < n) (hk : k < 4) (u : Value) (x : Sq) (hx : (sq4 (F i)).set k u = sq4 x) (hv : w.ownsRow 0 5 1 x.v x.s.val.length (x.s.val.map B8)) :
    Rw B0 (w.setCell ⟨g, i * 4 + k, none⟩ u) y (.slice (some ⟨g, 0, none⟩) n c) n (upF F i x) ∧ Only (Rfoot y (.slice (some ⟨g, 0, none⟩) n c)) w (w.setCell ⟨g, i * 4 + k, none⟩ u) := by
  have O : Only (Rfoot y (.slice (some ⟨g, 0, none⟩) n c)) w (w.setCell ⟨g, i * 4 + k, none⟩ u) := (Only.refl _ w).setCell ⟨g, i * 4 + k, none⟩ (.inl (.inr rfl)) u
  have hgy : g ≠ y := fun e => own_ne_block h.own h.blk (by decide) (by rw [← e]; rfl)
  have hst := h.own.stored (i * 4 + k) u
  rw [row4_set F n i k hi hk u x hx] at hst
  refine ⟨⟨(Below.heap_setCell _ _ _ _ (Ne.symm hgy)).trans h.blk, hst.1, fun j hj => ?_⟩, O⟩
  by_cases ej : j = i
  · subst ej
    rw [upF_same]
    refine O.owns hv fun b hb e => ?_
    rcases e with rfl | e
    · exact own_ne_block hv h.blk (by decide) hb
    · exact ownsRow_type hv h.own (by decide) b hb e
  · rw [upF_other _ _ _ _ ej]; exact h.vals O j hj

theorem Rn.fin {B0 : Nat} {w w1 w2 : World} {y : Nat} {lv lv' : Value} {n0 : Nat} {F0 : Nat → Sq} {n : Nat} {F : Nat → Sq} {E : Int → Ep} {c : Array Value} (h : Rn B0 (w.alloc (.cells blankV 105)) w1 y lv lv' n0 F0 n F E) (hN : w1.heap[w.heap.size]? = some (.cells c 105 (0, 0))) (O : Only (fun b => b = w.heap.size) w1 w2) : Rn B0 w w2 y lv lv' n0 F0 n F E := by
  refine ⟨h.rw.only O ?_ ?_ ?_, h.rl, ((Only.of_bl ((Bl.refl w).alloc _)).trans h.only).trans_new O (fun b e => Nat.le_of_eq e.symm), fun b hb => (h.lies b hb).imp id fun h1 => Nat.le_trans (by simp) h1, fun i hi b hb => (h.vl i hi b hb).imp id fun h1 => Nat.le_trans (by simp) h1⟩
  · intro e
    rw [← e, h.rw.blk] at hN
    simp at hN
  · exact fun b hb e => own_ne_block h.rw.own hN (by decide) (by rw [hb, e])
  · exact fun i hi b hb e => own_ne_block (h.rw.val i hi) hN (by decide) (by rw [hb, e])

set_option maxRecDepth 100000 in
set_option maxHeartbeats 1000000 in
theorem refPrepLow_any (y : Nat) (e b : Int) (w : World) (he : e < 1) :
    Calls Tryz.prog 53 #[.pointer (some ⟨y, 0, none⟩), .int .i64 e, .int .i64 b] w fun en w' => en = .returned (voteR 6 0 0 (.slice none 0 0)) ∧ Bl w w' := by
  go_enter Tryz.func53, Tryz.ntmps53
  go_wp2
  have bB := (Bl.refl w).alloc (.cells #[.int .i64 6, .int .i64 0, .int .i64 0, .slice none 0 0] 105)
  exact bodyPost_ret (v := voteR 6 0 0 (.slice none 0 0)) (by simp [results, Tryz.results53, go_sem, voteR]) rfl ⟨rfl, bB⟩

set_option maxRecDepth 100000 in
set_option maxHeartbeats 2000000 in
theorem refPrep_any (B0 y : Nat) (lv : Value) (n : Nat) (F : Nat → Sq) (E : Int → Ep) (e b : Int) (w : World) (h : Rw B0 w y lv n F) (hl : Rl n F E) (he : 1 ≤ e) (hn : n ≤ 4000000) (hB : B0 ≤ w.heap.size) (hno : b < 1 ∨ b ≤ (E e).pr) :
    Calls Tryz.prog 53 #[.pointer (some ⟨y, 0, none⟩), .int .i64 e, .int .i64 b] w fun en w' => ∃ lv' n' F', en = .returned (voteR 6 (E e).pr 0 (.slice none 0 0)) ∧ n' ≤ n + 1 ∧ Rn B0 w w' y lv lv' n F n' F' E := by
  have bA := (Bl.refl w).alloc (.cells blankV 105)
  have HS := hid (slot_any B0 y lv n F E e _ (h.bl bA) hl he hn (Nat.le_trans hB bA.lt))
  have ly := h.lt
  have ll : Hid (∀ b, lv.ownBlock = some b → b < w.heap.size) := fun b hb => (h.own.lt b hb).2
  unfold blankV at HS
  go_enter Tryz.func53, Tryz.ntmps53
  go_wp2_with fail
  refine HS.out.mono ?_
  rintro en w1 ⟨i, lv', n', F', rfl, hi, hn', hie, hR⟩
  have hN : w1.heap[w.heap.size]? = some (.cells blankV 105 (0, 0)) := (hR.only.block w.heap.size (by simp) (by
    rintro (e1 | e1)
    · omega
    · have := ll.out _ e1; omega)).trans (heap_alloc_new w _)
  have lN : w.heap.size < w1.heap.size := (Array.getElem?_eq_some_iff.1 hN).1
  obtain ⟨m0, m1, m2, m3, f0, f1, f2, f3⟩ := blankV_row hN
  obtain ⟨g, cap, hsh⟩ := own_shape4 hR.rw.own (by omega)
  subst hsh
  have c0 := cell_of_row w1 y 0 _ 88 (0, 0) hR.rw.blk
  simp at c0
  have ly1 := hR.rw.lt
  have hp : w1.cell? ⟨g, i * 4 + 1, none⟩ = some (.int .i64 (E e).pr) := by
    rw [hR.rw.own.cellAt (i * 4 + 1) (by omega), row4_get F' n' i 1 hi (by omega)]
    have := hR.rl.at' i hi
    rw [hie] at this
    simp [sq4, this]
  have HR := hid hR
  have HN := hid hN
  have hiI : (i : Int) < (n' : Int) := by omega
  clear HS hR hN h
  have F4 := hid (Only.set4 (w := w1) (S := fun b => b = w.heap.size) rfl (.int .i64 6) (.int .i64 (E e).pr) (.int .i64 0) (.slice none 0 0))
  by_cases hb1 : b < 1
  · clear hno
    go_wp2
    exact bodyPost_ret (v := voteR 6 (E e).pr 0 (.slice none 0 0)) (by simp [results, Tryz.results53, go_sem, voteR, m0, m1, m2, m3]) rfl ⟨_, n', F', rfl, hn', HR.out.fin HN.out F4.out⟩
  · have hle : b ≤ (E e).pr := by omega
    clear hno
    go_wp2
    exact bodyPost_ret (v := voteR 6 (E e).pr 0 (.slice none 0 0)) (by simp [results, Tryz.results53, go_sem, voteR, m0, m1, m2, m3]) rfl ⟨_, n', F', rfl, hn', HR.out.fin HN.out F4.out⟩

theorem Rn.turn {B0 : Nat} {w w1 w2 : World} {y : Nat} {lv lv' : Value} {n0 : Nat} {F0 : Nat → Sq} {n : Nat} {F : Nat → Sq} {E : Int → Ep} (h : Rn B0 w w1 y lv lv' n0 F0 n F E) (hb : Bl w1 w2) : Rn B0 w w2 y lv lv' n0 F0 n F E :=
  ⟨h.rw.bl hb, h.rl, h.only.trans (Only.of_bl hb), h.lies, h.vl⟩
theorem Rn.step {B0 : Nat} {w w1 w2 : World} {y : Nat} {lv lv' : Value} {n0 : Nat} {F0 : Nat → Sq} {n : Nat} {F F' : Nat → Sq} {E E' : Int → Ep} (h : Rn B0 w w1 y lv lv' n0 F0 n F E) (hr : Rw B0 w2 y lv' n F') (hl : Rl n F' E') (ho : Only (Rfoot y lv') w1 w2) (hv : ∀ i, i < n → ∀ b, (F' i).v.ownBlock = some b → (∃ k, k < n0 ∧ (F0 k).v.ownBlock = some b) ∨ w.heap.size ≤ b) : Rn B0 w w2 y lv lv' n0 F0 n F' E' := by
  refine ⟨hr, hl, ⟨ho.os.trans h.only.os, ho.tape.trans h.only.tape, ho.output.trans h.only.output, Nat.le_trans h.only.size ho.size, fun i hi hn => ?_⟩, h.lies, hv⟩
  rw [ho.block i (Nat.lt_of_lt_of_le hi h.only.size) ?_, h.only.block i hi hn]
  rintro (e | e)
  · exact hn (.inl e)
  · rcases h.lies i e with e1 | e1
    · exact hn (.inr e1)
    · omega

set_option maxRecDepth 100000 in
set_option maxHeartbeats 2000000 in
theorem refPrepYes_any (B0 y : Nat) (lv : Value) (n : Nat) (F : Nat → Sq) (E : Int → Ep) (e b : Int) (w : World) (h : Rw B0 w y lv n F) (hl : Rl n F E) (he : 1 ≤ e) (hn : n ≤ 4000000) (hB : B0 ≤ w.heap.size) (hb : 1 ≤ b) (hp : (E e).pr < b) :
    Calls Tryz.prog 53 #[.pointer (some ⟨y, 0, none⟩), .int .i64 e, .int .i64 b] w fun en w' => ∃ lv' n' F' v, en = .returned (voteR 1 b (E e).ba v) ∧ n' ≤ n + 1 ∧ Rn B0 w w' y lv lv' n F n' F' (updE E e ⟨b, (E e).ba, (E e).val⟩) ∧ w'.ownsRow 0 5 1 v (E e).val.length ((E e).val.map B8) := by
  have bA := (Bl.refl w).alloc (.cells blankV 105)
  have HS := hid (slot_any B0 y lv n F E e _ (h.bl bA) hl he hn (Nat.le_trans hB bA.lt))
  have ly := h.lt
  have ll : Hid (∀ b, lv.ownBlock = some b → b < w.heap.size) := fun b hb => (h.own.lt b hb).2
  unfold blankV at HS
  go_enter Tryz.func53, Tryz.ntmps53
  go_wp2_with fail
  refine HS.out.mono ?_
  rintro en w1 ⟨i, lv', n', F', rfl, hi, hn', hie, hR⟩
  have hN : w1.heap[w.heap.size]? = some (.cells blankV 105 (0, 0)) := (hR.only.block w.heap.size (by simp) (by
    rintro (e1 | e1)
    · omega
    · have := ll.out _ e1; omega)).trans (heap_alloc_new w _)
  obtain ⟨g, cap, hsh⟩ := own_shape4 hR.rw.own (by omega)
  subst hsh
  have hs := hR.rl.at' i hi
  rw [hie] at hs
  have hval := hR.rw.val i hi
  rw [hs] at hval
  obtain ⟨va, vc, hvv⟩ := owned_slice' hval
  have hR2 := hR.rw.set i 1 hi (by omega) (.int .i64 b) ⟨e, ⟨b, (E e).ba, (E e).val⟩, (F' i).v⟩ (by simp [sq4, hs, hie]) hval
  have hl2 := hR.rl.upd i hi ⟨b, (E e).ba, (E e).val⟩ (F' i).v
  rw [hie] at hl2
  have HR := hid (hR.step hR2.1 hl2 hR2.2 (fun k hk b hb => by
    by_cases ek : k = i
    · subst ek; rw [upF_same] at hb; exact hR.vl k hk b hb
    · rw [upF_other _ _ _ _ ek] at hb; exact hR.vl k hk b hb))
  have hg1 : g ≠ w.heap.size := fun e1 => own_ne_block hR.rw.own hN (by decide) (by rw [← e1]; rfl)
  have hgy : g ≠ y := fun e1 => own_ne_block hR.rw.own hR.rw.blk (by decide) (by rw [← e1]; rfl)
  have lg := (hR.rw.own.lt g rfl).2
  have hp1 : w1.cell? ⟨g, i * 4 + 1, none⟩ = some (.int .i64 (E e).pr) := by
    rw [hR.rw.own.cellAt (i * 4 + 1) (by omega), row4_get F' n' i 1 hi (by omega)]
    simp [sq4, hs]
  have hfr := hR.rw.own.frozenAt (i * 4 + 1)
  have c01 := cell_of_row w1 y 0 _ 88 (0, 0) hR.rw.blk
  simp at c01
  have ly1 := hR.rw.lt
  have hN2 : (w1.setCell ⟨g, i * 4 + 1, none⟩ (.int .i64 b)).heap[w.heap.size]? = some (.cells blankV 105 (0, 0)) := (Below.heap_setCell _ _ _ _ (Ne.symm hg1)).trans hN
  have hiI : (i : Int) < (n' : Int) := by omega
  have hnle : ¬ b ≤ (E e).pr := by omega
  have hv2 := hR2.1.val i hi
  rw [upF_same] at hv2
  have e2 : (w1.setCell ⟨g, i * 4 + 1, none⟩ (.int .i64 b)).cell? ⟨g, i * 4 + 2, none⟩ = some (.int .i64 (E e).ba) := by
    rw [hR2.1.own.cellAt (i * 4 + 2) (by omega), row4_get _ n' i 2 hi (by omega), upF_same]
    rfl
  have e3 : (w1.setCell ⟨g, i * 4 + 1, none⟩ (.int .i64 b)).cell? ⟨g, i * 4 + 3, none⟩ = some (.slice va (E e).val.length vc) := by
    rw [hR2.1.own.cellAt (i * 4 + 3) (by omega), row4_get _ n' i 3 hi (by omega), upF_same, ← hvv]
    rfl
  have e0 : (w1.setCell ⟨g, i * 4 + 1, none⟩ (.int .i64 b)).cell? ⟨y, 0, none⟩ = some (.slice (some ⟨g, 0, none⟩) n' cap) := by
    rw [cell_of_row _ y 0 _ 88 (0, 0) hR2.1.blk]; rfl
  have ly2 := hR2.1.lt
  have lg2 := (hR2.1.own.lt g rfl).2
  have HV := hid hv2
  rw [hvv] at HV
  have HE := hid (And.intro e0 (And.intro e2 e3))
  have HL2 := hid (And.intro ly2 lg2)
  have HN2 := hid hN2
  clear HS hR hN hR2 hl2 hval hs hvv hv2 hie h hN2 e0 e2 e3 ly2 lg2
  go_upto_region 7 with fail
  obtain ⟨W2, hW2⟩ : ∃ W2, W2 = w1.setCell ⟨g, i * 4 + 1, none⟩ (.int .i64 b) := ⟨_, rfl⟩
  rw [← hW2] at HR HV HE HL2 HN2
  rw [← hW2]
  clear hW2 c01 hp1 hfr lg ly1
  obtain ⟨e0, e2, e3⟩ := HE.out
  obtain ⟨ly2, lg2⟩ := HL2.out
  have lN : w.heap.size < W2.heap.size := (Array.getElem?_eq_some_iff.1 HN2.out).1
  obtain ⟨m0, m1, m2, m3, f0, f1, f2, f3⟩ := blankV_row HN2.out
  have F4 := hid (Only.set4 (w := W2.drew) (S := fun b => b = w.heap.size) rfl (.int .i64 1) (.int .i64 b) (.int .i64 (E e).ba) (.slice va (E e).val.length vc))
  have nn1 : ¬ w.heap.size = y := by omega
  have nn2 : ¬ w.heap.size = g := fun e => hg1 e.symm
  go_region_held3 (fun W => W.cell? ⟨y, 0, none⟩ = some (.slice (some ⟨g, 0, none⟩) n' cap) ∧ W.cell? ⟨g, i * 4 + 2, none⟩ = some (.int .i64 (E e).ba) ∧ W.cell? ⟨g, i * 4 + 3, none⟩ = some (.slice va (E e).val.length vc)) (go_keep) (fail)
  go_wp2
  have hN3 : W2.drew.heap[w.heap.size]? = some (.cells blankV 105 (0, 0)) := HN2.out
  exact bodyPost_ret (v := voteR 1 b (E e).ba (.slice va (E e).val.length vc)) (by simp [results, Tryz.results53, go_sem, voteR, m0, m1, m2, m3]) rfl ⟨_, n', _, _, rfl, hn', (HR.out.turn ((Bl.refl _).drew)).fin hN3 F4.out, F4.out.owns ((Only.of_bl (S := fun _ => False) ((Bl.refl _).drew)).owns HV.out fun _ _ e => e) fun b hb e => own_ne_block HV.out HN2.out (by decide) (by rw [hb, e])⟩
end Go.Proofs.YtkgjpfamjedncaaGreat

namespace Go.Proofs.YtkgjpfamjedncaaGreat
open Go.RowKit
attribute [local go_sem ↓] Go.wp_at_zero Go.wp_at_succ

set_option maxRecDepth 100000 in
set_option maxHeartbeats 1000000 in
theorem refAccLow_any (y : Nat) (e b : Int) (va : Option Addr) (vn vc : Nat) (w : World) (he : e < 1) :
    Calls Tryz.prog 55 #[.pointer (some ⟨y, 0, none⟩), .int .i64 e, .int .i64 b, .slice va vn vc] w fun en w' => en = .returned (voteR 6 0 0 (.slice none 0 0)) ∧ Bl w w' := by
  go_enter Tryz.func55, Tryz.ntmps55
  go_wp2
  have bB := (Bl.refl w).alloc (.cells #[.int .i64 6, .int .i64 0, .int .i64 0, .slice none 0 0] 105)
  exact bodyPost_ret (v := voteR 6 0 0 (.slice none 0 0)) (by simp [results, Tryz.results55, go_sem, voteR]) rfl ⟨rfl, bB⟩

set_option maxRecDepth 100000 in
set_option maxHeartbeats 2000000 in
theorem refAccNo_any (B0 y : Nat) (lv : Value) (n : Nat) (F : Nat → Sq) (E : Int → Ep) (e b : Int) (va : Option Addr) (vn vc : Nat) (w : World) (h : Rw B0 w y lv n F) (hl : Rl n F E) (he : 1 ≤ e) (hn : n ≤ 4000000) (hB : B0 ≤ w.heap.size) (hvn : vn ≤ 40000000) (hno : b < 1 ∨ b < (E e).pr ∨ ¬ (1 ≤ vn ∧ vn ≤ 255)) :
    Calls Tryz.prog 55 #[.pointer (some ⟨y, 0, none⟩), .int .i64 e, .int .i64 b, .slice va vn vc] w fun en w' => ∃ lv' n' F', en = .returned (voteR 6 (E e).pr 0 (.slice none 0 0)) ∧ n' ≤ n + 1 ∧ Rn B0 w w' y lv lv' n F n' F' E := by
  have bA := (Bl.refl w).alloc (.cells blankV 105)
  have HS := hid (slot_any B0 y lv n F E e _ (h.bl bA) hl he hn (Nat.le_trans hB bA.lt))
  have ly := h.lt
  have ll : Hid (∀ b, lv.ownBlock = some b → b < w.heap.size) := fun b hb => (h.own.lt b hb).2
  unfold blankV at HS
  go_enter Tryz.func55, Tryz.ntmps55
  go_wp2_with fail
  refine HS.out.mono ?_
  rintro en w1 ⟨i, lv', n', F', rfl, hi, hn', hie, hR⟩
  have hN : w1.heap[w.heap.size]? = some (.cells blankV 105 (0, 0)) := (hR.only.block w.heap.size (by simp) (by
    rintro (e1 | e1)
    · omega
    · have := ll.out _ e1; omega)).trans (heap_alloc_new w _)
  have lN : w.heap.size < w1.heap.size := (Array.getElem?_eq_some_iff.1 hN).1
  obtain ⟨m0, m1, m2, m3, f0, f1, f2, f3⟩ := blankV_row hN
  obtain ⟨g, cap, hsh⟩ := own_shape4 hR.rw.own (by omega)
  subst hsh
  have c0 := cell_of_row w1 y 0 _ 88 (0, 0) hR.rw.blk
  simp at c0
  have ly1 := hR.rw.lt
  have hp : w1.cell? ⟨g, i * 4 + 1, none⟩ = some (.int .i64 (E e).pr) := by
    rw [hR.rw.own.cellAt (i * 4 + 1) (by omega), row4_get F' n' i 1 hi (by omega)]
    have := hR.rl.at' i hi
    rw [hie] at this
    simp [sq4, this]
  have HR := hid hR
  have HN := hid hN
  have hiI : (i : Int) < (n' : Int) := by omega
  clear HS hR hN h
  have F4 := hid (Only.set4 (w := w1) (S := fun b => b = w.heap.size) rfl (.int .i64 6) (.int .i64 (E e).pr) (.int .i64 0) (.slice none 0 0))
  by_cases hb1 : b < 1
  · clear hno
    go_wp2
    exact bodyPost_ret (v := voteR 6 (E e).pr 0 (.slice none 0 0)) (by simp [results, Tryz.results55, go_sem, voteR, m0, m1, m2, m3]) rfl ⟨_, n', F', rfl, hn', HR.out.fin HN.out F4.out⟩
  · by_cases hb2 : b < (E e).pr
    · clear hno
      go_wp2
      exact bodyPost_ret (v := voteR 6 (E e).pr 0 (.slice none 0 0)) (by simp [results, Tryz.results55, go_sem, voteR, m0, m1, m2, m3]) rfl ⟨_, n', F', rfl, hn', HR.out.fin HN.out F4.out⟩
    · by_cases hb3 : vn < 1
      · have hb3' : (vn : Int) < 1 := by omega
        clear hno
        go_wp2
        exact bodyPost_ret (v := voteR 6 (E e).pr 0 (.slice none 0 0)) (by simp [results, Tryz.results55, go_sem, voteR, m0, m1, m2, m3]) rfl ⟨_, n', F', rfl, hn', HR.out.fin HN.out F4.out⟩
      · have hb3' : ¬ (vn : Int) < 1 := by omega
        have hb4 : (255 : Int) < vn := by omega
        clear hno
        go_wp2
        exact bodyPost_ret (v := voteR 6 (E e).pr 0 (.slice none 0 0)) (by simp [results, Tryz.results55, go_sem, voteR, m0, m1, m2, m3]) rfl ⟨_, n', F', rfl, hn', HR.out.fin HN.out F4.out⟩

theorem upF_upF (F : Nat → Sq) (k : Nat) (x y : Sq) : upF (upF F k x) k y = upF F k y := by
  funext j; unfold upF; split <;> rfl

set_option maxRecDepth 100000 in
set_option maxHeartbeats 4000000 in
theorem refAccYes_any (B0 y : Nat) (lv : Value) (n : Nat) (F : Nat → Sq) (E : Int → Ep) (e b : Int) (v : Value) (ys : List Int) (w : World) (h : Rw B0 w y lv n F) (hl : Rl n F E) (he : 1 ≤ e) (hn : n ≤ 4000000) (hB : B0 ≤ w.heap.size)
    (hv : Bs w v (ys.map B8)) (hvb : ∀ g, v.ownBlock = some g → ¬ Rfoot y lv g) (h1 : 1 ≤ ys.length) (h5 : ys.length ≤ 255) (hb : 1 ≤ b) (hp : (E e).pr ≤ b) :
    Calls Tryz.prog 55 #[.pointer (some ⟨y, 0, none⟩), .int .i64 e, .int .i64 b, v] w fun en w' => ∃ lv' n' F', en = .returned (voteR 1 b 0 (.slice none 0 0)) ∧ n' ≤ n + 1 ∧ Rn B0 w w' y lv lv' n F n' F' (updE E e ⟨b, b, ys⟩) := by
  obtain ⟨i5, j5, k0, k1, k2⟩ := info_parts Tryz.info5
  have bA := (Bl.refl w).alloc (.cells blankV 105)
  have HS := hid (slot_any B0 y lv n F E e _ (h.bl bA) hl he hn (Nat.le_trans hB bA.lt))
  have ly := h.lt
  have ll : Hid (∀ b, lv.ownBlock = some b → b < w.heap.size) := fun b hb => (h.own.lt b hb).2
  obtain ⟨ua, uc, ev⟩ := hv.len
  subst ev
  rw [List.length_map] at hv hvb ⊢
  have HV := hid (hv.bl bA)
  have HVB := hid hvb
  unfold blankV at HS
  clear hv hvb
  go_enter Tryz.func55, Tryz.ntmps55
  go_wp2_with fail
  refine HS.out.mono ?_
  rintro en w1 ⟨i, lv', n', F', rfl, hi, hn', hie, hR⟩
  have hN : w1.heap[w.heap.size]? = some (.cells blankV 105 (0, 0)) := (hR.only.block w.heap.size (by simp) (by
    rintro (e1 | e1)
    · omega
    · have := ll.out _ e1; omega)).trans (heap_alloc_new w _)
  have hV1 := HV.out.only hR.only HVB.out
  obtain ⟨g, cap, hsh⟩ := own_shape4 hR.rw.own (by omega)
  subst hsh
  have hs := hR.rl.at' i hi
  rw [hie] at hs
  have c0 := cell_of_row w1 y 0 _ 88 (0, 0) hR.rw.blk
  simp at c0
  have ly1 := hR.rw.lt
  have lg1 := (hR.rw.own.lt g rfl).2
  have hp1 : w1.cell? ⟨g, i * 4 + 1, none⟩ = some (.int .i64 (E e).pr) := by
    rw [hR.rw.own.cellAt (i * 4 + 1) (by omega), row4_get F' n' i 1 hi (by omega)]
    simp [sq4, hs]
  have hiI : (i : Int) < (n' : Int) := by omega
  have hnlt : ¬ b < (E e).pr := by omega
  have hnb : ¬ b < 1 := by omega
  have hv1 : ¬ (ys.length : Int) < 1 := by omega
  have hv5 : ¬ (255 : Int) < ys.length := by omega
  have hml : Hid (0 + (ys.map B8).length ≤ maxLen) := by unfold Hid maxLen; simp; omega
  have hby : Hid ((0 + (ys.map B8).length) * 1 ≤ 140737488355328) := by unfold Hid; simp; omega
  have hone : Hid (∀ q ∈ ys.map B8, q.oneCell' = true) := fun q hq => by obtain ⟨z, _, rfl⟩ := List.mem_map.1 hq; rfl
  have HV1 := hid hV1
  have HR := hid hR
  have HN := hid hN
  clear HS hR hN h hV1
  go_wp2_with (at_builtin; refine wpList_append_bs _ rfl _ _ 40 rfl w1.heap.size 5 i5 _ 1 Tryz.underlying40 j5 k0 k1 k2 rfl _ 0 [] rfl (World.ownsRow_nil _ _ _ _) _ _ rfl HV1.out hone.out hml.out hby.out (Nat.le_refl _) ?_)
  intro v2 w2 hG
  have hb2 : Bl w1 w2 := hG.only.to_bl fun k _ e => by simp [Value.ownBlock] at e
  have ho2 : w2.ownsRow w1.heap.size 5 1 v2 ys.length (ys.map B8) := by simpa using hG.own
  obtain ⟨xa, xc, hx⟩ := owned_slice' ho2
  subst hx
  have R2 := HR.out.turn hb2
  have hs2 := R2.rl.at' i hi
  rw [hie] at hs2
  have hval := R2.rw.val i hi
  have hv2 : w2.ownsRow 0 5 1 (.slice xa ys.length xc) ys.length (ys.map B8) := ownsRow_base ho2 fun _ _ => Nat.zero_le _
  have A1 := R2.rw.set i 1 hi (by omega) (.int .i64 b) ⟨e, ⟨b, (E e).ba, (E e).val⟩, (F' i).v⟩ (by simp [sq4, hs2, hie]) (by rw [hs2] at hval; exact hval)
  have A2 := A1.1.set i 2 hi (by omega) (.int .i64 b) ⟨e, ⟨b, b, (E e).val⟩, (F' i).v⟩ (by rw [upF_same]; simp [sq4]) (by have := A1.1.val i hi; rw [upF_same] at this; exact this)
  rw [upF_upF] at A2
  have hv3 := A1.2.owns hv2 (fun b hb e => by
    rcases e with rfl | e
    · exact own_ne_block hv2 R2.rw.blk (by decide) hb
    · exact ownsRow_type hv2 R2.rw.own (by decide) b hb e)
  have hv4 := A2.2.owns hv3 (fun b hb e => by
    rcases e with rfl | e
    · exact own_ne_block hv3 A1.1.blk (by decide) hb
    · exact ownsRow_type hv3 A1.1.own (by decide) b hb e)
  have A3 := A2.1.set i 3 hi (by omega) (.slice xa ys.length xc) ⟨e, ⟨b, b, ys⟩, .slice xa ys.length xc⟩ (by rw [upF_same]; simp [sq4]) hv4
  rw [upF_upF] at A3
  have hl3 := R2.rl.upd i hi ⟨b, b, ys⟩ (.slice xa ys.length xc)
  rw [hie] at hl3
  have lwA : w.heap.size ≤ w1.heap.size := Nat.le_trans (by simp) HR.out.only.size
  have HRn := hid (R2.step A3.1 hl3 ((A1.2.trans A2.2).trans A3.2) (fun k hk b hb => by
    by_cases ek : k = i
    · subst ek
      rw [upF_same] at hb
      exact .inr (Nat.le_trans HR.out.only.size (ho2.lt b hb).1)
    · rw [upF_other _ _ _ _ ek] at hb; exact R2.vl k hk b hb))
  have hg1 : ¬ g = w.heap.size := fun e1 => own_ne_block HR.out.rw.own HN.out (by decide) (by rw [← e1]; rfl)
  have hgy : ¬ g = y := fun e1 => own_ne_block HR.out.rw.own HR.out.rw.blk (by decide) (by rw [← e1]; rfl)
  have hN2 := (hb2.heap (Array.getElem?_eq_some_iff.1 HN.out).1).trans HN.out
  have q0 := (hb2.cell ly1).trans c0
  have ly2 := Nat.lt_of_lt_of_le ly1 hb2.lt
  have lg2 := Nat.lt_of_lt_of_le lg1 hb2.lt
  have lN : w.heap.size < w2.heap.size := (Array.getElem?_eq_some_iff.1 hN2).1
  obtain ⟨m0, m1, m2, m3, f0, f1, f2, f3⟩ := blankV_row hN2
  have p1 := R2.rw.own.cellAt (i * 4 + 1) (by omega)
  have p2 := R2.rw.own.cellAt (i * 4 + 2) (by omega)
  have p3 := R2.rw.own.cellAt (i * 4 + 3) (by omega)
  rw [row4_get F' n' i 1 hi (by omega)] at p1
  rw [row4_get F' n' i 2 hi (by omega)] at p2
  rw [row4_get F' n' i 3 hi (by omega)] at p3
  simp [sq4] at p1 p2 p3
  have r1 := R2.rw.own.frozenAt (i * 4 + 1)
  have r2 := R2.rw.own.frozenAt (i * 4 + 2)
  have r3 := R2.rw.own.frozenAt (i * 4 + 3)
  have HN2 := hid hN2
  have hN3 : Hid ((((w2.setCell ⟨g, i * 4 + 1, none⟩ (.int .i64 b)).setCell ⟨g, i * 4 + 2, none⟩ (.int .i64 b)).setCell ⟨g, i * 4 + 3, none⟩ (.slice xa ys.length xc)).heap[w.heap.size]? = some (.cells blankV 105 (0, 0))) := by
    have hne : w.heap.size ≠ g := fun e => hg1 e.symm
    exact (Below.heap_setCell _ _ _ _ hne).trans ((Below.heap_setCell _ _ _ _ hne).trans ((Below.heap_setCell _ _ _ _ hne).trans hN2))
  have F4 := hid (Only.set4 (w := ((w2.setCell ⟨g, i * 4 + 1, none⟩ (.int .i64 b)).setCell ⟨g, i * 4 + 2, none⟩ (.int .i64 b)).setCell ⟨g, i * 4 + 3, none⟩ (.slice xa ys.length xc)) (S := fun b => b = w.heap.size) rfl (.int .i64 1) (.int .i64 b) (.int .i64 0) (.slice none 0 0))
  clear A1 A2 A3 hv2 hv3 hv4 hl3 R2 hval hs2 ho2 hG hb2 c0 hp1 HR HN HV1 hs hN2 lg1 ly1
  go_wp2
  exact bodyPost_ret (v := voteR 1 b 0 (.slice none 0 0)) (by simp [results, Tryz.results55, go_sem, voteR, m0, m1, m2, m3]) rfl ⟨_, n', _, rfl, hn', HRn.out.fin hN3.out F4.out⟩
end Go.Proofs.YtkgjpfamjedncaaGreat

namespace Go.Proofs.YtkgjpfamjedncaaGreat
open Go.RowKit
attribute [local go_sem ↓] Go.wp_at_zero Go.wp_at_succ
theorem Tryz.info88 : (Tryz.prog.info? 88).map (fun i => (i.zero, i.size, i.bytes)) = some (some (.agg #[.slice none 0 0]), 1, 24) := by kernel_rfl
theorem Tryz.info3k : (Tryz.prog.info? 3).map (fun i => (i.zero, i.size, i.bytes)) = some (some (.int .i64 0), 1, 8) := by kernel_rfl

/-- 'append(v, u...)' where u reads as a list, of elements of some cells each. -/
theorem wpList_append_row {P : Program} (w : World) {ops : Array Oper} {rest : List Oper} {o : Oper} {a : Act} {Q : Exit → Act → World → Prop}
    (hg : o.guard = none) (s y : Operand) (t : TypeId) (hop : o.op = Op.call { callee := Callee.builtin Builtin.append, args := #[s, y], argTypes := #[t, t] })
    (base : Nat) (e : TypeId) (i : TypeInfo) (z : Value) (size bytes : Nat) (h1 : P.underlying t = some (.slice e)) (h2 : P.info? e = some i) (h3 : i.zero = some z) (h4 : i.size = size) (h5 : i.bytes = bytes) (h6 : z.cells.size = size) (h7 : 0 < size)
    (v : Value) (n : Nat) (xs : List Value) (hs : a.eval s = v) (hown : w.ownsRow base e size v n xs) (u : Value) (m b0 : Nat) (news : List Value) (hu : a.eval y = u) (hy : w.ownsRow b0 e size u m news) (h1c : ∀ q ∈ news, q.oneCell' = true)
    (b1 : n + m ≤ maxLen) (b2 : (n + m) * bytes ≤ 140737488355328) (hb : base ≤ w.heap.size)
    (hK : ∀ v' w', w'.ownsRow base e size v' (n + m) (xs ++ news) → Only (fun b => v.ownBlock = some b) w w' → (∀ b, v'.ownBlock = some b → v.ownBlock = some b ∨ w.heap.size ≤ b) → wpList P ops Q rest (a.put o.dst v') w') :
    wpList P ops Q (o :: rest) a w := by
  rcases hy.2 with ⟨hu0, hm0⟩ | ⟨g, cap, cur, hu1, _⟩
  · have hl := hy.1
    subst hm0
    obtain rfl : news = [] := List.length_eq_zero_iff.1 (by omega)
    refine wpList_append_own_none hg s y t hop base e i size h1 h2 v n xs hs hown (hu.trans hu0) ?_
    exact hK v w (by simpa using hown) (Only.refl _ _) (fun b hb => .inl hb)
  · refine wpList_append_own_at w hg s y t hop base e i z size bytes h1 h2 h3 h4 h5 h6 h7 v n xs hs hown ⟨g, 0, none⟩ m cap news (hu.trans hu1) hy.1 (fun j x hj => ?_) h1c b1 b2 hb ?_
    · rw [add_eq, Nat.zero_add]
      subst hu1
      rw [hy.cellAt j (by have := (List.getElem?_eq_some_iff.1 hj).1; have := hy.1; omega)]
      exact hj
    · intro v' w' r1 r2 _ r4
      refine hK v' w' r1 ((Only.of_grown r2).mono fun k _ e => e.symm) fun b hb' => ?_
      rcases r4 with r4 | r4
      · exact .inl (by rw [← r4]; exact hb')
      · rw [hb'] at r4; simp at r4; exact .inr (by omega)

theorem Rw.one {B0 : Nat} {w : World} {y : Nat} {lv : Value} {n : Nat} {F : Nat → Sq} (h : Rw B0 w y lv n F) : ∀ q ∈ row4 F n, q.oneCell' = true := by
  have key : ∀ m, m ≤ n → ∀ q ∈ row4 F m, q.oneCell' = true := by
    intro m
    induction m with
    | zero => intro _ q hq; simp [row4] at hq
    | succ m ih =>
      intro hm q hq
      rw [row4, List.mem_append] at hq
      rcases hq with hq | hq
      · exact ih (by omega) q hq
      · simp only [sq4, List.mem_cons, List.not_mem_nil, or_false] at hq
        rcases hq with rfl | rfl | rfl | rfl
        · rfl
        · rfl
        · rfl
        · exact owns_oneCell (h.val m (by omega))
  exact key n (Nat.le_refl _)

/-- What kept turns. -/
def Kfoot (q : Nat) (pv sv : Value) (b : Nat) : Prop := b = q ∨ pv.ownBlock = some b ∨ sv.ownBlock = some b

set_option maxRecDepth 100000 in
set_option maxHeartbeats 4000000 in
theorem kept_any (B0 q p y : Nat) (pv sv lv : Value) (m n : Nat) (xs zs : List Value) (F : Nat → Sq) (bm nr : Nat) (E : Int → Ep) (img : List Int) (M : Int → Value) (vi : Value) (w : World)
    (hq : w.heap[q]? = some (.cells #[.pointer (some ⟨p, 0, none⟩), .pointer (some ⟨y, 0, none⟩), pv, sv] 91 (0, 0))) (hr : Rw B0 w y lv n F) (hV : Vs 0 w p bm nr E img M vi 132)
    (hp : w.ownsRow B0 88 1 pv m xs) (hs : w.ownsRow B0 3 1 sv m zs) (hB : B0 ≤ w.heap.size) (hm : m ≤ 4000000) (hn : n ≤ 4000000) (hl : img.length ≤ 30000000) (hd : ∀ b, Kfoot q pv sv b → b ≠ p ∧ b ≠ bm ∧ ¬ Foot M vi b) :
    Calls Tryz.prog 34 #[.pointer (some ⟨q, 0, none⟩)] w fun en w' => ∃ pv' sv' lc, en = .returned (.tuple #[]) ∧ w'.heap[q]? = some (.cells #[.pointer (some ⟨p, 0, none⟩), .pointer (some ⟨y, 0, none⟩), pv', sv'] 91 (0, 0)) ∧
      w'.ownsRow B0 88 1 pv' (m + 1) (xs ++ [lc]) ∧ w'.ownsRow B0 3 1 sv' (m + 1) (zs ++ [.int .i64 img.length]) ∧ w'.ownsRow w.heap.size 140 4 lc n (row4 F n) ∧ Only (Kfoot q pv sv) w w' ∧ (∀ b, pv'.ownBlock = some b → pv.ownBlock = some b ∨ w.heap.size ≤ b) ∧ (∀ b, sv'.ownBlock = some b → sv.ownBlock = some b ∨ w.heap.size ≤ b) := by
  obtain ⟨i140, j140, z0, z1, z2⟩ := info_parts Tryz.info140
  obtain ⟨i88, j88, y0, y1, y2⟩ := info_parts Tryz.info88
  obtain ⟨i3, j3, x0, x1, x2⟩ := info_parts Tryz.info3k
  obtain ⟨la, lc0, hlv⟩ := own_len4 hr.own
  subst hlv
  obtain ⟨pa, pc, hpv⟩ := (ownsRow_sl hp).len
  rw [ownsRow_len hp] at hpv
  subst hpv
  obtain ⟨sa, sc, hsv⟩ := (ownsRow_sl hs).len
  rw [ownsRow_len hs] at hsv
  subst hsv
  have lq := (Array.getElem?_eq_some_iff.1 hq).1
  have ly := hr.lt
  have d0 := cell_of_row w q 0 _ 91 (0, 0) hq
  have d1 := cell_of_row w q 1 _ 91 (0, 0) hq
  have d2 := cell_of_row w q 2 _ 91 (0, 0) hq
  have g2 := frozen_of_row w q 2 _ 91 hq
  have c0 := cell_of_row w y 0 _ 88 (0, 0) hr.blk
  simp at d0 d1 d2 c0
  have H1c := hid hr.one
  have HR := hid hr
  have HP := hid hp
  have HSv := hid hs
  have HQ := hid hq
  have HV := hid hV
  have hm1 : Hid (0 + n ≤ maxLen) := by unfold Hid maxLen; omega
  have hb1 : Hid ((0 + n) * 48 ≤ 140737488355328) := by unfold Hid; omega
  have hm2 : Hid (m + 1 ≤ maxLen) := by unfold Hid maxLen; omega
  have hb2 : Hid ((m + 1) * 24 ≤ 140737488355328) := by unfold Hid; omega
  have hb3 : Hid ((m + 1) * 8 ≤ 140737488355328) := by unfold Hid; omega
  clear hr hp hs hq hV
  go_enter Tryz.func34, Tryz.ntmps34
  go_wp2_with (at_builtin; refine wpList_append_row _ rfl _ _ 86 rfl w.heap.size 140 i140 _ 4 48 Tryz.underlying86 j140 z0 z1 z2 rfl (by decide) _ 0 [] rfl (World.ownsRow_nil _ _ _ _) _ n B0 _ rfl HR.out.own H1c.out hm1.out hb1.out (Nat.le_refl _) ?_)
  intro lc w1 r1 r2 r3
  have b1 : Bl w w1 := r2.to_bl fun k _ e => by simp [Value.ownBlock] at e
  obtain ⟨ca, cc, hlc⟩ := own_len4 r1
  subst hlc
  have q2 := (b1.cell lq).trans d2
  have q0 := (b1.cell lq).trans d0
  have f2 := (b1.frozen lq).trans g2
  have lq1 := Nat.lt_of_lt_of_le lq b1.lt
  have HP1 := hid ((Only.of_bl (S := fun _ => False) b1).owns HP.out fun _ _ e => e)
  have HB1 := hid b1
  have HL1 := hid r1
  have np : Hid ((Value.slice pa m pc).ownBlock ≠ some q) := own_ne_block HP.out HQ.out (by decide)
  clear r1 r2 r3 b1 d0 d1 d2 c0 g2
  go_wp2_with (at_builtin; refine wpList_append_lies _ rfl _ _ 89 rfl B0 88 i88 _ 1 24 Tryz.underlying89 j88 y0 y1 y2 rfl (by decide) _ m _ rfl (HP1.out.alloc _) ⟨w1.heap.size, 0, none⟩ 1 1 [.slice ca n cc] rfl rfl (cell_one_new _ _ _) (by simp [Value.oneCell']) (by decide) hm2.out hb2.out (by have := HB1.out.lt; simp; omega) (w1.heap.size + 1) (by simp) ?_)
  intro gp capp w2 hown2 hgrow2 hat2 hlt2
  have O2 : Only (fun b => b = q ∨ (Value.slice pa m pc).ownBlock = some b) w1 (w2.setCell ⟨q, 2, none⟩ (.slice (some ⟨gp, 0, none⟩) (m + 1) capp)) := ((Only.of_bl ((Bl.refl w1).alloc _)).trans ((Only.of_grown hgrow2).mono fun k _ e => .inr e.symm)).setCell ⟨q, 2, none⟩ (.inl (.inl rfl)) _
  have hq1 := (HB1.out.heap lq).trans HQ.out
  have hq2 : w2.heap[q]? = some (.cells #[.pointer (some ⟨p, 0, none⟩), .pointer (some ⟨y, 0, none⟩), .slice pa m pc, .slice sa m sc] 91 (0, 0)) := by
    have h1 := hgrow2.block q (by simp; omega) (fun e => np.out e.symm)
    rw [h1, ((Bl.refl w1).alloc _).heap lq1]; exact hq1
  have hq3 := heap_setCell_same w2 q 2 _ 91 (.slice (some ⟨gp, 0, none⟩) (m + 1) capp) hq2
  have hown3 := ownsRow_of (w' := w2.setCell ⟨q, 2, none⟩ (.slice (some ⟨gp, 0, none⟩) (m + 1) capp)) hown2 fun b hb' => Below.heap_setCell _ _ _ _ (fun e => own_ne_block hown2 hq2 (by decide) (by rw [hb', e]))
  have kq := (far ((Bl.refl w1).alloc _) hgrow2 (o := 2) lq1 np.out).1.trans q2
  have kf := (far ((Bl.refl w1).alloc _) hgrow2 (o := 2) lq1 np.out).2.trans f2
  have HO2 := hid O2
  have HQ3 := hid hq3
  have HP3 := hid hown3
  have Hat2 := hid hat2
  have lq2 : q < w2.heap.size := (Array.getElem?_eq_some_iff.1 hq2).1
  clear O2 hq1 hq2 hq3 hown2 hown3 hgrow2 hat2 q2 q0 f2 HP1
  go_upto_region 3 with fail
  obtain ⟨W3, hW3⟩ : ∃ W3, W3 = w2.setCell ⟨q, 2, none⟩ (.slice (some ⟨gp, 0, none⟩) (m + 1) capp) := ⟨_, rfl⟩
  rw [← hW3] at HO2 HQ3 HP3
  rw [← hW3]
  clear hW3 kq kf
  have O3 : Only (fun b => b = q ∨ (Value.slice pa m pc).ownBlock = some b) w W3 := (Only.of_bl HB1.out).trans HO2.out
  have hV3 := HV.out.apart O3 (fun e => (hd p (e.imp id .inl)).1 rfl) (fun e => (hd bm (e.imp id .inl)).2.1 rfl) (fun g _ hF e => (hd g (e.imp id .inl)).2.2 hF)
  have hS3 := O3.owns HSv.out (fun b hb e => by
    rcases e with rfl | e
    · exact own_ne_block HSv.out HQ.out (by decide) hb
    · exact ownsRow_type HSv.out HP.out (by decide) b hb e)
  have hp1 := (Only.of_bl (S := fun _ => False) HB1.out).owns HP.out fun _ _ e => e
  have hL3 := HO2.out.owns HL1.out (fun b hb e => by
    rcases e with rfl | e
    · exact own_ne_block HL1.out ((HB1.out.heap lq).trans HQ.out) (by decide) hb
    · exact ownsRow_type HL1.out hp1 (by decide) b hb e)
  have lq3 : q < W3.heap.size := (Array.getElem?_eq_some_iff.1 HQ3.out).1
  have d0 := cell_of_row W3 q 0 _ 91 (0, 0) HQ3.out
  have d3 := cell_of_row W3 q 3 _ 91 (0, 0) HQ3.out
  have g3 := frozen_of_row W3 q 3 _ 91 HQ3.out
  simp at d0 d3
  have HI := hid (fvimage_any 0 p bm nr E img M vi 132 W3 hV3 hl)
  have HS3 := hid hS3
  have HL3 := hid hL3
  have HO3 := hid O3
  have lw3 := O3.size
  clear O3 hV3 hS3 hL3 hp1 HV
  go_wp2_with fail
  refine HI.out.mono ?_
  rintro en w4 ⟨iv, rfl, hb4, hiv⟩
  obtain ⟨ia, ic, rfl⟩ := owned_slice' hiv
  have k3 := (hb4.cell lq3).trans d3
  have kf := (hb4.frozen lq3).trans g3
  have lq4 := Nat.lt_of_lt_of_le lq3 hb4.lt
  have hS4 := hid ((Only.of_bl (S := fun _ => False) hb4).owns HS3.out fun _ _ e => e)
  have hP4 := hid ((Only.of_bl (S := fun _ => False) hb4).owns HP3.out fun _ _ e => e)
  have hL4 := hid ((Only.of_bl (S := fun _ => False) hb4).owns HL3.out fun _ _ e => e)
  have hQ4 := hid ((hb4.heap lq3).trans HQ3.out)
  have HB4 := hid hb4
  have ns : Hid ((Value.slice sa m sc).ownBlock ≠ some q) := own_ne_block HSv.out HQ.out (by decide)
  have lw4 := hb4.lt
  clear d0 d3 g3 HI hb4 hiv HS3 HP3 HL3 HQ3
  go_wp2_with (at_builtin; refine wpList_append_lies _ rfl _ _ 24 rfl B0 3 i3 _ 1 8 Tryz.underlying24 j3 x0 x1 x2 rfl (by decide) _ m _ rfl (hS4.out.alloc _) ⟨w4.heap.size, 0, none⟩ 1 1 [.int .i64 img.length] rfl rfl (cell_one_new _ _ _) (by simp [Value.oneCell']) (by decide) hm2.out hb3.out (by simp; omega) (w4.heap.size + 1) (by simp) ?_)
  intro gs caps w5 hown5 hgrow5 hat5 hlt5
  have hq5 : w5.heap[q]? = some (.cells #[.pointer (some ⟨p, 0, none⟩), .pointer (some ⟨y, 0, none⟩), .slice (some ⟨gp, 0, none⟩) (m + 1) capp, .slice sa m sc] 91 (0, 0)) := by
    have h1 := hgrow5.block q (by simp; omega) (fun e => ns.out e.symm)
    rw [h1, ((Bl.refl w4).alloc _).heap lq4]; exact hQ4.out
  have O5 : Only (fun b => b = q ∨ (Value.slice sa m sc).ownBlock = some b) w4 (w5.setCell ⟨q, 3, none⟩ (.slice (some ⟨gs, 0, none⟩) (m + 1) caps)) := ((Only.of_bl ((Bl.refl w4).alloc _)).trans ((Only.of_grown hgrow5).mono fun k _ e => .inr e.symm)).setCell ⟨q, 3, none⟩ (.inl (.inl rfl)) _
  have R1 := hid (heap_setCell_same w5 q 3 _ 91 (.slice (some ⟨gs, 0, none⟩) (m + 1) caps) hq5)
  have R2 := hid (O5.owns hP4.out (fun b hb e => by
    rcases e with rfl | e
    · exact own_ne_block hP4.out hQ4.out (by decide) hb
    · exact ownsRow_type hP4.out hS4.out (by decide) b hb e))
  have R3 := hid (ownsRow_of (w' := w5.setCell ⟨q, 3, none⟩ (.slice (some ⟨gs, 0, none⟩) (m + 1) caps)) hown5 fun b hb' => Below.heap_setCell _ _ _ _ (fun e => own_ne_block hown5 hq5 (by decide) (by rw [hb', e])))
  have R4 := hid (O5.owns hL4.out (fun b hb e => by
    rcases e with rfl | e
    · exact own_ne_block hL4.out hQ4.out (by decide) hb
    · exact ownsRow_type hL4.out hS4.out (by decide) b hb e))
  have R5 := hid (((HO3.out.mono (T := Kfoot q (.slice pa m pc) (.slice sa m sc)) fun k _ e => e.imp id .inl).trans (Only.of_bl HB4.out)).trans (O5.mono fun k _ e => e.imp id .inr))
  have kq := (far ((Bl.refl w4).alloc _) hgrow5 (o := 3) lq4 ns.out).1.trans k3
  have kf5 := (far ((Bl.refl w4).alloc _) hgrow5 (o := 3) lq4 ns.out).2.trans kf
  have lq5 : q < w5.heap.size := (Array.getElem?_eq_some_iff.1 hq5).1
  have Hat5 := hid hat5
  have HBl := hid HB1.out.lt
  clear O5 hq5 hown5 hgrow5 hat5 k3 kf hP4 hL4 hS4 hQ4
  go_wp2
  go_end0
  refine ⟨_, _, _, rfl, R1.out, R2.out, R3.out, R4.out, R5.out, fun b hb => ?_, fun b hb => ?_⟩
  · simp [Value.ownBlock] at hb
    subst hb
    rcases Hat2.out with h | h
    · exact .inl h
    · exact .inr (by have := HBl.out; omega)
  · simp [Value.ownBlock] at hb
    subst hb
    rcases Hat5.out with h | h
    · exact .inl h
    · exact .inr (by omega)
end Go.Proofs.YtkgjpfamjedncaaGreat
