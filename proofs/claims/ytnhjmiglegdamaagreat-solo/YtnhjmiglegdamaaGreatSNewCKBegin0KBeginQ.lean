-- A client is made, at the outer door.
-- The world is made: nodes.
-- The world is made.
import Derived.Test.YtnhjmiglegdamaaGreatSNewQ
import Derived.Deep.MidRow
import Derived.Test.YtnhjmiglegdamaaGreatKOutVKStep0KStepKBeatKCall0Q
import Derived.Test.YtnhjmiglegdamaaGreatSVopenSVnodeSVidleSQuestSContSAwaitSBkSPureQ
namespace Go.Proofs.YtnhjmiglegdamaaGreat
open Go.RowKit
attribute [local go_sem ↓] Go.wp_at_zero Go.wp_at_succ

theorem fill_size : ∀ (l : List Value) (k : Nat) (A : Array Value), (List.foldl (fun cs x => cs.setIfInBounds x.snd x.fst) A (l.zipIdx k)).size = A.size
  | [], _, _ => rfl
  | v :: l, k, A => by rw [List.zipIdx_cons, List.foldl_cons, fill_size l]; simp
theorem fill_at : ∀ (l : List Value) (k : Nat) (A : Array Value) (i : Nat), i < l.length → k + i < A.size → (List.foldl (fun cs x => cs.setIfInBounds x.snd x.fst) A (l.zipIdx k))[k + i]? = l[i]?
  | [], _, _, _, h, _ => by simp at h
  | v :: l, k, A, 0, _, hA => by
    rw [List.zipIdx_cons, List.foldl_cons]
    have key : ∀ (l : List Value) (k' : Nat) (A : Array Value) (j : Nat), j < k' → (List.foldl (fun cs x => cs.setIfInBounds x.snd x.fst) A (l.zipIdx k'))[j]? = A[j]? := by
      intro l
      induction l with
      | nil => intros; rfl
      | cons u l ih =>
        intro k' A j hj
        rw [List.zipIdx_cons, List.foldl_cons, ih _ _ _ (by omega), Array.getElem?_setIfInBounds_ne (by simp; omega)]
    rw [key _ _ _ _ (by omega)]
    simp at hA
    simp [hA]
  | v :: l, k, A, i + 1, h, hA => by
    rw [List.zipIdx_cons, List.foldl_cons, show k + (i + 1) = (k + 1) + i by omega, fill_at l (k + 1) _ i (by simpa using h) (by simp; omega)]
    simp
theorem fill_all (l : List Value) (A : Array Value) (h : A.size = l.length) : List.foldl (fun cs x => cs.setIfInBounds x.snd x.fst) A l.zipIdx = l.toArray := by
  apply Array.ext_getElem?
  intro i
  by_cases hi : i < l.length
  · have := fill_at l 0 A i hi (by omega)
    rw [Nat.zero_add] at this
    rw [this]; simp
  · rw [Array.getElem?_eq_none (by rw [fill_size]; omega), Array.getElem?_eq_none (by simp; omega)]
/-- A client of which nothing was asked. -/
theorem made_cl {B p n m : Nat} {c d x : Int} {w1 : World} {g bm : Nat} {tag : Nat → Nat} {tc : Nat} (ht : ∀ b, B ≤ b → tag b = tc) (hB : B ≤ bm) (hBp : B ≤ p)
    (hp : w1.heap[p]? = some (.cells (cliL n m c d x (.slice (some ⟨g, 0, none⟩) n n) (.slice none 0 0) bm 0 PQ.zero (.slice none 0 0) (.slice none 0 0) (.map none)).toArray 114 (0, 0))) (hm : w1.heap[bm]? = some (.map #[] 0)) (hL : LayOk w1 tag tc (.slice (some ⟨g, 0, none⟩) n n) n m) (q : Nat) : Cl w1 tag tc p q n m c d x ⟨0, [], PQ.zero, none⟩ :=
  ⟨_, .slice none 0 0, .slice none 0 0, .slice none 0 0, .map none, bm, 0, 0, hp, ht p hBp, hL, ⟨[], World.ownsRow_nil _ _ _ _, fun b hb => by simp [Value.ownBlock] at hb, fun i r hr => by simp at hr⟩, ht bm hB, hm, .inr rfl, ⟨Rd.nil, Rd.nil, .inl ⟨rfl, rfl⟩, fun _ => rfl⟩, fun b hb => by simp at hb, fun c hc => by simp at hc⟩

set_option maxRecDepth 100000 in
set_option maxHeartbeats 4000000 in
theorem newClient_cl (n m : Nat) (c d x : Int) (w : World) (hf : fit n m c d = true) (h0 : 1000 ≤ x) (h1 : x ≤ 1099) (tag : Nat → Nat) (tc : Nat) :
    Calls Tryz.prog 16 #[cfg n m c d, .int .i64 x] w fun e w' => ∃ p, e = .returned (.tuple #[.pointer (some ⟨p, 0, none⟩), .int .i64 0]) ∧ w.heap.size ≤ p ∧ Bl w w' ∧ ∀ q, Cl w' (tagTo tag w.heap.size tc) tc p q n m c d x ⟨0, [], PQ.zero, none⟩ := by
  have HN := hid (fun w => newL_yes n m c d x w hf h0 h1)
  have hA := (Bl.refl w).alloc (.cells #[.int .i64 n, .int .i64 m, .int .i64 c, .int .i64 d] 27)
  clear hf
  go_enter Tryz.func16, Tryz.ntmps16
  go_wp2_with fail
  refine (HN.out _).mono ?_
  rintro e w1 ⟨⟨p, rfl, g, bm, hlb, hlp, hp, hm, hL⟩, hb⟩
  obtain ⟨cs, hcs⟩ : ∃ cs, cs = cliL n m c d x (.slice (some ⟨g, 0, none⟩) n n) (.slice none 0 0) bm 0 PQ.zero (.slice none 0 0) (.slice none 0 0) (.map none) := ⟨_, rfl⟩
  have hc52 : cs.length = 52 := by rw [hcs]; rfl
  rw [← hcs] at hp
  have hrg : Hid (w1.rangeAt p 0 cs) := fun j v hv => by
    rw [Nat.zero_add, cell_of_row w1 p j _ 112 (0, 0) hp]
    simpa using hv
  have hin : Hid ((Tryz.prog.info? 112).map (·.size) = some cs.length) := by
    unfold Hid
    rw [hc52]; kernel_rfl
  have HC := hid hcs
  have HM := hid (And.intro hlb (And.intro hm hL))
  have hl1 : w.heap.size ≤ w1.heap.size := (hA.trans hb).lt
  have hl2 := hA.lt
  have HB := hid (hA.trans hb)
  have hbm : bm < w1.heap.size := (Array.getElem?_eq_some_iff.1 hm).1
  clear hp hm hL hcs HN hb
  go_wp2_with (refine wpList_load_mid rfl 112 (.tmp 18) rfl p 0 rfl cs _ hrg.out Tryz.underlying112 rfl hin.out ?_)
  go_ret2
  have fin : ∀ Z : Array Value, Z.size = 52 → List.foldl (fun cs x => cs.setIfInBounds x.snd x.fst) Z cs.zipIdx = cs.toArray := fun Z hZ => fill_all cs Z (by omega)
  obtain ⟨k1, k2, k3⟩ := HM.out
  refine ⟨w1.heap.size, rfl, hl1, HB.out.alloc _, fun q => made_cl (B := w.heap.size) (g := g) (bm := bm) (fun b hb => tagTo_new _ _ _ _ hb) (Nat.le_trans hl2 k1) hl1 ?_ ((heap_alloc_old w1 _ hbm).trans k2) ((k3 (tagTo tag w.heap.size tc) tc fun b hb => tagTo_new _ _ _ _ (Nat.le_trans hl2 hb)).only (Only.of_bl (S := fun _ => False) ((Bl.refl _).alloc _)) (fun _ _ _ e => e.elim) (fun _ _ e => e)) q⟩
  rw [← HC.out, fin _ rfl]
  exact heap_alloc_new w1 _
end Go.Proofs.YtnhjmiglegdamaaGreat

namespace Go.Proofs.YtnhjmiglegdamaaGreat
open Go.RowKit Go.Maps
attribute [local go_sem ↓] Go.wp_at_zero Go.wp_at_succ
theorem Tryz.info72 : (Tryz.prog.info? 72).map (fun i => (i.zero, i.size, i.bytes)) = some (some (.agg #[.int .i64 0, .pointer none, .int .i64 0, .bool false, .bool false]), 5, 32) := by kernel_rfl
theorem Tryz.info126 : (Tryz.prog.info? 126).map (fun i => (i.zero, i.size, i.bytes)) = some (some (.agg #[.int .i64 0, .pointer none, .bool false]), 3, 24) := by kernel_rfl
section
variable {P : Nat → Prop} {w w' : World} {tag tag' : Nat → Nat} {g p q n m v k : Nat} {ce : Int} {pv : Value} {ps : List Value}
/-- Units of which nothing was asked. -/
def us0 (n m : Nat) : List UQ := usOf (n * m) fun _ => ⟨St.first, []⟩
theorem Kt.retagNe {tg g p : Nat} {a b c d ch : Int} {rs : List Rc} {S : Nat → St} (h : Kt w tag tg p a b c d ch rs S) {arr : Array Value} {f : Nat × Nat} (hg : w.heap[g]? = some (.cells arr 124 f)) (ht : ∀ b, b ≠ g → tag b = tg → tag' b = tg) : Kt w tag' tg p a b c d ch rs S := by
  obtain ⟨K, hk, hw, hp, hF⟩ := h
  refine ⟨K, hk, hw, ht p (fun e => ?_) hp, fun b hb => ht b (fun e => ?_) (hF b hb)⟩
  · obtain ⟨arr', t, h1, h2, _⟩ := hk.at'
    rw [e, hg] at h1
    simp only [Option.some.injEq, Obj.cells.injEq] at h1
    rcases h2 with h2 | h2 <;> (rw [h2] at h1; exact absurd h1.2.1 (by decide))
  · subst e
    rcases hb with hb | ⟨i, hi, hb⟩
    · exact own_ne_block hk.own hg (by decide) hb
    · exact own_ne_block (hk.val i hi) hg (by decide) hb
theorem made_unit {i gu p : Nat} {a b c d ch : Int} (hg : w'.heap[gu]? = some (.cells #[.iface 228 (.agg #[.pointer (some ⟨p, 0, none⟩)]), .slice none 0 0] 124 (0, 0))) (lg : w.heap.size ≤ gu) (hk : Kt w' (tagTo tag w.heap.size (10 + 3 * i)) (10 + 3 * i) p a b c d ch [] SK0) (ht : ∀ b, tag' b = if b < w.heap.size then tag b else if b = gu then 11 + 3 * i else 10 + 3 * i) (hold : ∀ b, b < w.heap.size → tag b ≠ 10 + 3 * i) :
    Nd w' tag' (10 + 3 * i) (11 + 3 * i) (12 + 3 * i) gu a b c d ch [] SK0 [] := by
  refine ⟨p, .slice none 0 0, hg, by rw [ht, if_neg (by omega), if_pos rfl], hk.retagNe hg fun b hb e => ?_, [], ⟨World.ownsRow_nil _ _ _ _, fun b hb => by simp [Value.ownBlock] at hb, fun j hj => by simp at hj⟩, fun i j u v b _ h => by simp at h⟩
  rw [ht]
  by_cases hlt : b < w.heap.size
  · rw [tagTo_old _ _ _ _ hlt] at e
    exact absurd e (hold b hlt)
  · rw [if_neg hlt, if_neg hb]
/-- The world, with k nodes. -/
structure BgX (w : World) (tag : Nat → Nat) (g n m v : Nat) (ce : Int) (k : Nat) (pv : Value) (ps : List Value) : Prop where
  hg : w.heap[g]? = some (.cells (wdL n m v ce pv (.slice none 0 0) (.slice none 0 0) (.slice none 0 0) 0 (.slice none 0 0)).toArray 66 (0, 0))
  tg : tag g = 1
  row : RowT w tag 2 72 5 pv k ps
  pl : ∀ i, i < k → ∃ gi, PlAt ps n m i gi 0 ∧ NodeOk w tag n m v ce (us0 n m) 0 i gi 0
  tags : ∀ b, b < w.heap.size → tag b < 10 + 3 * k
theorem BgX.kst (h : BgX w tag g n m v ce k pv ps) (hk : KSt P w tag w' tag') (h1 : ¬ P 1) (h2 : ¬ P 2) (hP : ∀ i, i < k → ¬ P (10 + 3 * i) ∧ ¬ P (11 + 3 * i) ∧ ¬ P (12 + 3 * i)) (ht : ∀ b, b < w'.heap.size → tag' b < 10 + 3 * k) : BgX w' tag' g n m v ce k pv ps :=
  ⟨(hk.heap h.hg h.tg h1).1, (hk.heap h.hg h.tg h1).2, h.row.kst hk h2, fun i hi => by
    obtain ⟨gi, e1, e2⟩ := h.pl i hi
    exact ⟨gi, e1, e2.kst hk (hP i hi).1 (hP i hi).2.1 (hP i hi).2.2⟩, ht⟩
theorem BgX.cellAt (h : BgX w tag g n m v ce k pv ps) (o : Nat) {u : Value} (hu : (wdL n m v ce pv (.slice none 0 0) (.slice none 0 0) (.slice none 0 0) 0 (.slice none 0 0))[o]? = some u) : w.cell? ⟨g, o, none⟩ = some u := by
  rw [cell_of_row w g o _ 66 (0, 0) h.hg]; simpa using hu
theorem BgX.lt (h : BgX w tag g n m v ce k pv ps) : g < w.heap.size := (Array.getElem?_eq_some_iff.1 h.hg).1
/-- A node more. -/
theorem BgX.push {pa : Option Addr} {pc : Nat} (h : BgX w tag g n m v ce k (.slice pa k pc) ps) {W W1 w5 : World} (hW : Bl w W) {tagW : Nat → Nat} (htW : ∀ b, b < w.heap.size → tagW b = tag b) (htW2 : ∀ b, b < W.heap.size → tagW b < 13 + 3 * k) {gi : Nat} (hN : NodeOk W tagW n m v ce (us0 n m) 0 k gi 0) (hW1 : Bl W W1) {gg cp : Nat}
    (hown : w5.ownsRow 0 72 5 (.slice (some ⟨gg, 0, none⟩) (k + 1) cp) (k + 1) (ps ++ [.int .i64 (plId n m k), .pointer (some ⟨gi, 0, none⟩), .int .i64 0, .bool true, .bool false])) (hgrow : W1.grownBy w5 (Value.slice pa k pc).ownBlock) (hat : (Value.slice pa k pc).ownBlock = some gg ∨ W.heap.size ≤ gg) :
    ∃ tag2, (∀ b, b < w.heap.size → tag2 b = tag b) ∧ BgX (w5.setCell ⟨g, 4, none⟩ (.slice (some ⟨gg, 0, none⟩) (k + 1) cp)) tag2 g n m v ce (k + 1) (.slice (some ⟨gg, 0, none⟩) (k + 1) cp) (ps ++ [.int .i64 (plId n m k), .pointer (some ⟨gi, 0, none⟩), .int .i64 0, .bool true, .bool false]) ∧ Only (fun b => tag b = 1 ∨ tag b = 2) w (w5.setCell ⟨g, 4, none⟩ (.slice (some ⟨gg, 0, none⟩) (k + 1) cp)) := by
  have lw := h.lt
  have l1 := hW.lt
  have l2 := hW1.lt
  have l3 := hgrow.size
  have tl := h.row.tag
  have ll := fun b hb => (h.row.own.lt b hb).2
  obtain ⟨tag2, ht2⟩ : ∃ tag2, tag2 = fun b => if b < W.heap.size then tagW b else if b = gg then 2 else 9 := ⟨_, rfl⟩
  have oldW : ∀ b, b < W.heap.size → tag2 b = tagW b := fun b hb => by rw [ht2]; simp [hb]
  have old2 : ∀ b, b < w.heap.size → tag2 b = tag b := fun b hb => (oldW b (by omega)).trans (htW b hb)
  have hgg : tag2 gg = 2 := by
    rcases hat with e | e
    · rw [old2 gg (ll gg e)]; exact tl gg e
    · rw [ht2]; dsimp only; rw [if_neg (by omega), if_pos rfl]
  have OW : Only (fun b => tagW b = 1 ∨ tagW b = 2) W (w5.setCell ⟨g, 4, none⟩ (.slice (some ⟨gg, 0, none⟩) (k + 1) cp)) := ((Only.of_bl hW1).trans ((Only.of_grown hgrow).mono fun b _ e => .inr (by rw [htW b (ll b e.symm)]; exact tl b e.symm))).setCell ⟨g, 4, none⟩ (.inl (.inl (by rw [htW g lw]; exact h.tg))) _
  have kW : KSt (fun t => t = 1 ∨ t = 2) W tagW (w5.setCell ⟨g, 4, none⟩ (.slice (some ⟨gg, 0, none⟩) (k + 1) cp)) tag2 := ⟨OW, oldW⟩
  have kk : KSt (fun t => t = 1 ∨ t = 2) w tag (w5.setCell ⟨g, 4, none⟩ (.slice (some ⟨gg, 0, none⟩) (k + 1) cp)) tag2 := (KSt.of_bl' hW htW).trans kW
  have hg5 : w5.heap[g]? = some (.cells (wdL n m v ce (.slice pa k pc) (.slice none 0 0) (.slice none 0 0) (.slice none 0 0) 0 (.slice none 0 0)).toArray 66 (0, 0)) := by
    rw [hgrow.block g (by omega) (fun e => by have := tl g e.symm; rw [h.tg] at this; omega), hW1.heap (by omega), hW.heap lw]
    exact h.hg
  have hl : ps.length = k * 5 := h.row.own.1
  refine ⟨tag2, old2, ⟨set_heap 4 _ w5 _ hg5, (old2 g lw).trans h.tg, ⟨?_, fun b hb => ?_⟩, fun i hi => ?_, fun b hb => ?_⟩, kk.only⟩
  · exact ownsRow_of hown fun b hb => Below.heap_setCell _ _ _ _ (fun e => own_ne_block hown hg5 (by decide) (by rw [hb, e]))
  · have e : gg = b := by simpa [Value.ownBlock] using hb
    rw [← e]; exact hgg
  · by_cases hik : i < k
    · obtain ⟨gj, e1, e2⟩ := h.pl i hik
      refine ⟨gj, ⟨?_, ?_, ?_, ?_, ?_⟩, e2.kst kk (by omega) (by omega) (by omega)⟩
      · rw [List.getElem?_append_left (by omega)]; exact e1.1
      · rw [List.getElem?_append_left (by omega)]; exact e1.2.1
      · rw [List.getElem?_append_left (by omega)]; exact e1.2.2.1
      · rw [List.getElem?_append_left (by omega)]; exact e1.2.2.2.1
      · rw [List.getElem?_append_left (by omega)]; exact e1.2.2.2.2
    · have hik2 : i = k := by omega
      subst hik2
      have R := fun o (ho : o < 5) => show (ps ++ [.int .i64 (plId n m i), .pointer (some ⟨gi, 0, none⟩), .int .i64 0, .bool true, .bool false])[i * 5 + o]? = ([.int .i64 (plId n m i), .pointer (some ⟨gi, 0, none⟩), .int .i64 0, .bool true, .bool false] : List Value)[o]? by rw [List.getElem?_append_right (by omega), hl]; congr 1; omega
      exact ⟨gi, ⟨R 0 (by omega), R 1 (by omega), R 2 (by omega), R 3 (by omega), R 4 (by omega)⟩, hN.kst kW (by omega) (by omega) (by omega)⟩
  · rw [ht2]
    dsimp only
    by_cases hlt : b < W.heap.size
    · rw [if_pos hlt]
      have := htW2 b hlt
      omega
    · rw [if_neg hlt]
      split <;> omega
end
end Go.Proofs.YtnhjmiglegdamaaGreat

namespace Go.Proofs.YtnhjmiglegdamaaGreat
open Go.RowKit Go.Maps
attribute [local go_sem ↓] Go.wp_at_zero Go.wp_at_succ
section
variable {w : World} {tag : Nat → Nat} {g n m v : Nat} {ce : Int} {pv : Value} {ps : List Value}
def kw0 (n m : Nat) : KW := ⟨us0 n m, ⟨0, [], PQ.zero, none⟩, [], [], 0, 0⟩
set_option maxRecDepth 100000 in
set_option maxHeartbeats 4000000 in
theorem client_any (h : BgX w tag g n m v ce (n * m + v) pv ps) (hf : fit n m v ce = true) :
    Calls Tryz.prog 38 #[.pointer (some ⟨g, 0, none⟩)] w fun en w' => en = .returned (.bool true) ∧ Only (fun b => b = g) w w' ∧ ∃ tag' p av, (∀ b, b < w.heap.size → tag' b = tag b) ∧ ∀ q, WdX w' tag' g p q n m v ce (kw0 n m) pv av (.slice none 0 0) (.slice none 0 0) (.slice none 0 0) ps [] [] := by
  obtain ⟨i126, j126, r0, r1, r2⟩ := info_parts Tryz.info126
  have c0 := h.cellAt 0 rfl
  have c1 := h.cellAt 1 rfl
  have c2 := h.cellAt 2 rfl
  have c3 := h.cellAt 3 rfl
  have c5 := h.cellAt 5 rfl
  have lg := h.lt
  have HN := hid (newClient_cl n m v ce 1000 w hf (by decide) (by decide) tag 5)
  have H := hid h
  clear h
  go_enter Tryz.func38, Tryz.ntmps38
  go_upto_region 5 with (go_at_call 16; refine HN.out.mono ?_; rintro en w1 ⟨p, rfl, lp, hb1, hC1⟩; have HB1 := hid hb1; have HC1 := hid hC1; clear hb1 hC1)
  have hX1 := H.out.hg
  have b1 := HB1.out
  have hg1 := (b1.heap lg).trans hX1
  have d5 : w1.cell? ⟨g, 5, none⟩ = some (.slice none 0 0) := cell_of_row w1 g 5 _ 66 (0, 0) hg1
  have f5 := frozen_of_row w1 g 5 _ 66 hg1
  have lg1 := (Array.getElem?_eq_some_iff.1 hg1).1
  have HG1 := hid hg1
  have nn : Hid ((Value.slice none 0 0).ownBlock ≠ some g) := by unfold Hid; simp [Value.ownBlock]
  have hnil : Hid (w1.ownsRow 0 126 3 (.slice none 0 0) 0 []) := World.ownsRow_nil _ _ _ _
  clear hX1 hg1 c0 c1 c2 c3 c5 b1
  go_upto_region 6 with (at_builtin; refine wpList_append_lies _ rfl _ _ 62 rfl 0 126 i126 _ 3 24 Tryz.underlying62 j126 r0 r1 r2 rfl (by decide) (.slice none 0 0) 0 [] rfl (hnil.out.alloc _) ⟨w1.heap.size, 0, none⟩ 1 1 [.int .i64 1000, .pointer (some ⟨p, 0, none⟩), .bool true] rfl rfl (World.news_of_block (cs := #[.int .i64 1000, .pointer (some ⟨p, 0, none⟩), .bool true]) (t := 126) (fr := (0, 0)) (heap_alloc_new w1 _)) (by simp [Value.oneCell']) (by decide) (by decide) (by decide) (by simp) (w1.heap.size + 1) (by simp) ?_; intro gg cp w6 hown6 hgrow6 hat6 hlt6; have kc := (far ((Bl.refl w1).alloc _) hgrow6 (o := 5) lg1 nn.out).1.trans d5; have kf := (far ((Bl.refl w1).alloc _) hgrow6 (o := 5) lg1 nn.out).2.trans f5; have lg6 : g < w6.heap.size := (by have := hgrow6.size; simp at this; omega); have HX6 := hid (And.intro hown6 (And.intro hgrow6 hat6)); clear hown6 hgrow6 hat6 hlt6)
  go_wp2
  go_ret
  obtain ⟨hown6, hgrow6, hat6⟩ := HX6.out
  have h := H.out
  have b1 := HB1.out
  have l1 := b1.lt
  have hgg : gg = w1.heap.size + 1 := by
    rcases hat6 with e | e
    · simp [Value.ownBlock] at e
    · exact e
  have b6 : Bl w1 w6 := ((Bl.refl w1).alloc _).trans ((Only.of_grown hgrow6).to_bl fun k _ e => by simp [Value.ownBlock] at e)
  have bw6 := b1.trans b6
  have hg6 := (bw6.heap lg).trans h.hg
  have O : Only (fun b => b = g) w (w6.setCell ⟨g, 5, none⟩ (.slice (some ⟨gg, 0, none⟩) 1 cp)) := (Only.of_bl (S := fun b => b = g) bw6).setCell ⟨g, 5, none⟩ (.inl rfl) _
  obtain ⟨tag2, ht2⟩ : ∃ tag2, tag2 = fun b => if b < w.heap.size then tag b else if b = gg then 3 else 5 := ⟨_, rfl⟩
  have old2 : ∀ b, b < w.heap.size → tag2 b = tag b := fun b hb => by rw [ht2]; simp [hb]
  have k : KSt (fun t => t = 1) w tag (w6.setCell ⟨g, 5, none⟩ (.slice (some ⟨gg, 0, none⟩) 1 cp)) tag2 := ⟨O.mono fun b _ e => by rw [e]; exact h.tg, old2⟩
  have k1 : KSt (fun t => t = 1) w1 (tagTo tag w.heap.size 5) (w6.setCell ⟨g, 5, none⟩ (.slice (some ⟨gg, 0, none⟩) 1 cp)) tag2 := ⟨((Only.of_bl b6).setCell ⟨g, 5, none⟩ (.inl (by rw [tagTo_old _ _ _ _ lg]; exact h.tg)) _), fun b hb => by
    rw [ht2]
    dsimp only
    by_cases hlt : b < w.heap.size
    · rw [if_pos hlt, tagTo_old _ _ _ _ hlt]
    · rw [if_neg hlt, if_neg (by omega), tagTo_new _ _ _ _ (by omega)]⟩
  refine ⟨by simp, O, tag2, p, .slice (some ⟨gg, 0, none⟩) 1 cp, old2, fun q => ⟨set_heap 5 _ w6 _ hg6, (old2 g lg).trans h.tg, ⟨h.row.kst k (by omega), fun i hi => ?_⟩, ⟨?_, fun b hb => ?_⟩, (HC1.out q).kst k1 (by omega), ⟨RowT.nil _ _ _, fun i c hc => by simp [kw0] at hc⟩, PoolX.nil, [], RowT.nil _ _ _⟩⟩
  · obtain ⟨gi, e1, e2⟩ := h.pl i hi
    exact ⟨gi, 0, e1, e2.kst k (by omega) (by omega) (by omega)⟩
  · have := hown6
    simp only [List.nil_append] at this
    exact ownsRow_of this fun b hb => Below.heap_setCell _ _ _ _ (fun e => own_ne_block this hg6 (by decide) (by rw [hb, e]))
  · have e : gg = b := by simpa [Value.ownBlock] using hb
    rw [← e, ht2]
    dsimp only
    rw [if_neg (by omega), if_pos rfl]
theorem fit_small (hf : fit n m v ce = true) : 1 ≤ n ∧ n ≤ 3 ∧ 1 ≤ m ∧ m ≤ 3 ∧ 1 ≤ v ∧ v ≤ 5 ∧ n * m ≤ 9 ∧ 1 ≤ n * m := by
  have h := hf
  simp [fit] at h
  have h1 : n * m ≤ 3 * 3 := Nat.mul_le_mul (by omega) (by omega)
  have h2 : 1 * 1 ≤ n * m := Nat.mul_le_mul (by omega) (by omega)
  omega
set_option maxRecDepth 100000 in
set_option maxHeartbeats 4000000 in
theorem begin_any (w : World) (hf : fit n m v ce = true) :
    Calls Tryz.prog 26 #[cfg n m v ce] w fun en w' => ∃ g, en = .returned (.tuple #[.pointer (some ⟨g, 0, none⟩), .bool true]) ∧ Bl w w' ∧ ∃ tag' p pv av ps, (∀ b, b < w.heap.size → tag' b = 0) ∧ ∀ q, WdX w' tag' g p q n m v ce (kw0 n m) pv av (.slice none 0 0) (.slice none 0 0) (.slice none 0 0) ps [] [] := by
  obtain ⟨i72, j72, r0, r1, r2⟩ := info_parts Tryz.info72
  obtain ⟨s1, s2, s3, s4, s5, s6, s7, s8⟩ := fit_small hf
  obtain ⟨N, hN⟩ : ∃ N, n * m = N := ⟨_, rfl⟩
  have hNI : (n : Int) * (m : Int) = (N : Int) := by rw [← hN]; simp
  rw [hN] at s7 s8
  obtain ⟨W0, hW0⟩ : ∃ W0, w.alloc (.cells #[.int .i64 n, .int .i64 m, .int .i64 v, .int .i64 ce] 27) = W0 := ⟨_, rfl⟩
  obtain ⟨W1, hW1⟩ : ∃ W1, W0.alloc (.cells #[.int .i64 n, .int .i64 m, .int .i64 v, .int .i64 ce, .slice none 0 0, .slice none 0 0, .slice none 0 0, .slice none 0 0, .int .i64 0, .slice none 0 0, .slice none 0 0] 66) = W1 := ⟨_, rfl⟩
  have b0 : Bl w W0 := by rw [← hW0]; exact (Bl.refl w).alloc _
  have b1 : Bl W0 W1 := by rw [← hW1]; exact (Bl.refl W0).alloc _
  have z0 : W0.heap.size = w.heap.size + 1 := by rw [← hW0]; simp
  have z1 : W1.heap.size = W0.heap.size + 1 := by rw [← hW1]; simp
  have hc0 : W0.heap[w.heap.size]? = some (.cells #[.int .i64 n, .int .i64 m, .int .i64 v, .int .i64 ce] 27 (0, 0)) := by rw [← hW0]; exact heap_alloc_new w _
  have hc1 := (b1.heap (b := w.heap.size) (by omega)).trans hc0
  have hg1 : W1.heap[W0.heap.size]? = some (.cells (wdL n m v ce (.slice none 0 0) (.slice none 0 0) (.slice none 0 0) (.slice none 0 0) 0 (.slice none 0 0)).toArray 66 (0, 0)) := by rw [← hW1]; exact heap_alloc_new W0 _
  obtain ⟨tag0, ht0⟩ : ∃ tag0 : Nat → Nat, tag0 = fun b => if b < w.heap.size then 0 else if b = W0.heap.size then 1 else 9 := ⟨_, rfl⟩
  have hB0 : BgX W1 tag0 W0.heap.size n m v ce 0 (.slice none 0 0) [] := ⟨hg1, by rw [ht0]; dsimp only; rw [if_neg (by omega), if_pos rfl], RowT.nil _ _ _, fun i hi => by omega, fun b hb => by
    rw [ht0]
    dsimp only
    split
    · omega
    · split <;> omega⟩
  have HB0 := hid hB0
  have HT0 : Hid (∀ b, b < w.heap.size → tag0 b = 0) := fun b hb => by rw [ht0]; simp [hb]
  have Ht9 : Hid (tag0 w.heap.size = 9) := by unfold Hid; rw [ht0]; dsimp only; rw [if_neg (by omega), if_neg (by omega)]
  have HC1 := hid hc1
  have Hbl := hid (b0.trans b1)
  have HW0 := hid hW0
  have HW1 := hid hW1
  have hfx := hf
  have Hf := hid hf
  have x0 : W0.cell? ⟨w.heap.size, 0, none⟩ = some (.int .i64 n) := cell_of_row W0 _ 0 _ 27 (0, 0) hc0
  have x1 : W0.cell? ⟨w.heap.size, 1, none⟩ = some (.int .i64 m) := cell_of_row W0 _ 1 _ 27 (0, 0) hc0
  have x2 : W0.cell? ⟨w.heap.size, 2, none⟩ = some (.int .i64 v) := cell_of_row W0 _ 2 _ 27 (0, 0) hc0
  have x3 : W0.cell? ⟨w.heap.size, 3, none⟩ = some (.int .i64 ce) := cell_of_row W0 _ 3 _ 27 (0, 0) hc0
  have lx : w.heap.size < W0.heap.size := by omega
  obtain ⟨g, hg⟩ : ∃ g, w.heap.size + 1 = g := ⟨_, rfl⟩
  rw [z0, hg] at HB0
  clear hB0 hc0 hc1 hg1 b0 b1 hW0 hW1 ht0 hf hfx
  go_enter Tryz.func26, Tryz.ntmps26
  go_upto_region 1 with fail
  rw [HW0.out]
  go_upto_region 2 with fail
  rw [HW1.out]
  clear HW0 HW1 x0 x1 x2 x3 z0 z1 lx
  go_wp2
  go_loopw [5] (fun i wr => ∃ (k : Nat) (tag' : Nat → Nat) (pa : Option Addr) (pc : Nat) (ps : List Value), k ≤ N + v ∧ i = .int .i64 k ∧ Hid (∀ b, b < w.heap.size → tag' b = 0) ∧ Hid (Bl w wr) ∧ Hid (BgX wr tag' g n m v ce k (.slice pa k pc) ps) ∧ Hid (wr.heap[w.heap.size]? = some (.cells #[.int .i64 n, .int .i64 m, .int .i64 v, .int .i64 ce] 27 (0, 0)) ∧ tag' w.heap.size = 9)) (fun i _ => N + v - (Go.RowKit.intOf i).toNat)
  case atStart => exact ⟨0, tag0, none, 0, [], Nat.zero_le _, rfl, HT0, Hbl, HB0, HC1.out, Ht9.out⟩
  case round =>
    clear HT0 Hbl HB0 HC1 Ht9 tag0
    obtain ⟨k, tag', pa, pc, ps, hk, rfl, HT, HBl, HB, HC⟩ := hrel
    have lx : w.heap.size < wr.heap.size := (Array.getElem?_eq_some_iff.1 HC.out.1).1
    have x0 : wr.cell? ⟨w.heap.size, 0, none⟩ = some (.int .i64 n) := cell_of_row wr _ 0 _ 27 (0, 0) HC.out.1
    have x1 : wr.cell? ⟨w.heap.size, 1, none⟩ = some (.int .i64 m) := cell_of_row wr _ 1 _ 27 (0, 0) HC.out.1
    have x2 : wr.cell? ⟨w.heap.size, 2, none⟩ = some (.int .i64 v) := cell_of_row wr _ 2 _ 27 (0, 0) HC.out.1
    have x3 : wr.cell? ⟨w.heap.size, 3, none⟩ = some (.int .i64 ce) := cell_of_row wr _ 3 _ 27 (0, 0) HC.out.1
    by_cases hlt : k < N + v
    · have hltI : (k : Int) < (N : Int) + (v : Int) := by omega
      obtain ⟨idk, hidk⟩ : ∃ idk, plId n m k = idk := ⟨_, rfl⟩
      -- a node is opened
      have HO : Hid (Calls Tryz.prog 17 #[cfg n m v ce, .int .i64 idk, .slice none 0 0] wr fun e w' => ∃ gi, e = .returned (.tuple #[.pointer (some ⟨gi, 0, none⟩), .int .i64 0]) ∧ Bl wr w' ∧ ∃ tagW, (∀ b, b < wr.heap.size → tagW b = tag' b) ∧ (∀ b, b < w'.heap.size → tagW b < 13 + 3 * k) ∧ NodeOk w' tagW n m v ce (us0 n m) 0 k gi 0) := by
        have htl := HB.out.tags
        by_cases hkm : k < n * m
        · have hid0 : idk = k := by rw [← hidk]; unfold plId; rw [if_pos hkm]
          have hch : cha n m v ce idk = (((k / m : Nat) : Int), 0) := by
            unfold cha
            rw [if_pos Hf.out, if_neg (by omega), hid0]
            simp
          refine (openNode_unit n m v ce idk _ wr Hf.out (by omega) hch tag' (10 + 3 * k)).mono ?_
          rintro e w' ⟨gi, p, rfl, e1, e2, e3, e4⟩
          refine ⟨gi, rfl, e3, fun b => if b < wr.heap.size then tag' b else if b = gi then 11 + 3 * k else 10 + 3 * k, fun b hb => by simp [hb], fun b hb => ?_, .inl ⟨hkm, ⟨St.first, []⟩, [], SK0, ?_, made_unit e1 e2 e4 (fun b => rfl) fun b hb => by have := htl b hb; omega, rfl, by omega, by simp [flat], by simp [flat]⟩⟩
          · dsimp only
            split
            · have := htl b (by assumption); omega
            · split <;> omega
          · unfold us0
            exact usOf_get _ hkm
        · have hid0 : idk = 100 + k - (n * m : Nat) := by rw [← hidk]; unfold plId; rw [if_neg hkm]
          refine (openNode_voter n m v ce idk wr Hf.out (by omega) (by omega) (by omega)).mono ?_
          rintro e w' ⟨gi, p, mm, rfl, e1, e2, e3, e4, e5⟩
          refine ⟨gi, rfl, e5, tagTo tag' wr.heap.size (11 + 3 * k), fun b hb => tagTo_old _ _ _ _ hb, fun b hb => ?_, .inr ⟨by omega, rfl, p, mm, e1, tagTo_new _ _ _ _ e2, e4, tagTo_new _ _ _ _ e3⟩⟩
          unfold tagTo
          split
          · have := htl b (by assumption); omega
          · omega
      have hid1 : Hid ((k : Int) < N → idk = k) := fun h => by rw [← hidk]; unfold plId; rw [if_pos (by omega)]
      have hid2 : Hid (¬ (k : Int) < N → idk = 100 + k - N) := fun h => by rw [← hidk, ← hN]; unfold plId; rw [if_neg (by omega)]
      have HK := hid hidk
      clear hidk
      by_cases hkN : (k : Int) < N
      · have hik := hid1.out hkN
        have hge : ¬ ((N : Int) ≤ (k : Int)) := by omega
        rw [hik] at HO
        have Hik := hid hik
        clear hik hid1 hid2
        go_upto_region 9 with (go_at_call 17; refine HO.out.mono ?_; rintro en w2 ⟨gi, rfl, hb2, tagW, e1, e2, e3⟩; have HB2 := hid hb2; have HE := hid (And.intro e1 (And.intro e2 e3)); clear hb2 e1 e2 e3)
        have b2 := HB2.out
        have hrow2 := (Only.of_bl (S := fun _ => False) b2).owns HB.out.row.own fun _ _ e => e
        have hg2 := (b2.heap HB.out.lt).trans HB.out.hg
        have y4 : w2.cell? ⟨g, 4, none⟩ = some (.slice pa k pc) := cell_of_row w2 g 4 _ 66 (0, 0) hg2
        have f4 := frozen_of_row w2 g 4 _ 66 hg2
        have lg2 : g < w2.heap.size := (Array.getElem?_eq_some_iff.1 hg2).1
        have ngp : Hid ((Value.slice pa k pc).ownBlock ≠ some g) := own_ne_block hrow2 hg2 (by decide)
        have HR2 := hid hrow2
        have hm2 : Hid (k + 1 ≤ maxLen) := by unfold Hid maxLen; omega
        have hb2 : Hid ((k + 1) * 32 ≤ 140737488355328) := by unfold Hid; omega
        clear hrow2 hg2 b2
        go_upto_region 4 with (at_builtin; refine wpList_append_lies _ rfl _ _ 61 rfl 0 72 i72 _ 5 32 Tryz.underlying61 j72 r0 r1 r2 rfl (by decide) (.slice pa k pc) k ps rfl (HR2.out.alloc _) ⟨w2.heap.size, 0, none⟩ 1 1 [.int .i64 (k : Int), .pointer (some ⟨gi, 0, none⟩), .int .i64 0, .bool true, .bool false] rfl rfl (World.news_of_block (cs := #[.int .i64 (k : Int), .pointer (some ⟨gi, 0, none⟩), .int .i64 0, .bool true, .bool false]) (t := 72) (fr := (0, 0)) (heap_alloc_new w2 _)) (by simp [Value.oneCell']) (by decide) hm2.out hb2.out (by simp) (w2.heap.size + 1) (by simp) ?_; intro gg cp w6 hown6 hgrow6 hat6 hlt6; have kc := (far ((Bl.refl w2).alloc _) hgrow6 (o := 4) lg2 ngp.out).1.trans y4; have kf := (far ((Bl.refl w2).alloc _) hgrow6 (o := 4) lg2 ngp.out).2.trans f4; have lg6 : g < w6.heap.size := (by have := hgrow6.size; simp at this; omega); have HX6 := hid (And.intro hown6 (And.intro hgrow6 hat6)); clear hown6 hgrow6 hat6 hlt6)
        go_wp2
        obtain ⟨hown6, hgrow6, hat6⟩ := HX6.out
        obtain ⟨tag2, q1, q2, q3⟩ := HB.out.push HB2.out HE.out.1 HE.out.2.1 HE.out.2.2 ((Bl.refl w2).alloc (.cells #[.int .i64 (k : Int), .pointer (some ⟨gi, 0, none⟩), .int .i64 0, .bool true, .bool false] 72)) (gg := gg) (cp := cp) (by rw [HK.out, Hik.out]; exact hown6) hgrow6 (hat6.imp (fun e => e) (fun e => by omega))
        have kk : KSt (fun t => t = 1 ∨ t = 2) wr tag' _ tag2 := ⟨q3, q1⟩
        refine ⟨⟨k + 1, tag2, some ⟨gg, 0, none⟩, cp, _, by omega, by go_num, fun b hb => ?_, ?_, q2, kk.heap HC.out.1 HC.out.2 (by omega)⟩, by simp [Go.RowKit.intOf]; omega⟩
        · rw [q1 b (Nat.lt_of_lt_of_le hb HBl.out.lt)]; exact HT.out b hb
        · refine HBl.out.trans_only q3 fun b e => ?_
          apply Nat.le_of_not_lt
          intro hlt2
          have := HT.out b hlt2
          omega
      · have hik := hid2.out hkN
        have hge : (N : Int) ≤ (k : Int) := by omega
        rw [hik] at HO
        have Hik := hid hik
        clear hik hid1 hid2
        go_upto_region 9 with (go_at_call 17; refine HO.out.mono ?_; rintro en w2 ⟨gi, rfl, hb2, tagW, e1, e2, e3⟩; have HB2 := hid hb2; have HE := hid (And.intro e1 (And.intro e2 e3)); clear hb2 e1 e2 e3)
        have b2 := HB2.out
        have hrow2 := (Only.of_bl (S := fun _ => False) b2).owns HB.out.row.own fun _ _ e => e
        have hg2 := (b2.heap HB.out.lt).trans HB.out.hg
        have y4 : w2.cell? ⟨g, 4, none⟩ = some (.slice pa k pc) := cell_of_row w2 g 4 _ 66 (0, 0) hg2
        have f4 := frozen_of_row w2 g 4 _ 66 hg2
        have lg2 : g < w2.heap.size := (Array.getElem?_eq_some_iff.1 hg2).1
        have ngp : Hid ((Value.slice pa k pc).ownBlock ≠ some g) := own_ne_block hrow2 hg2 (by decide)
        have HR2 := hid hrow2
        have hm2 : Hid (k + 1 ≤ maxLen) := by unfold Hid maxLen; omega
        have hb2 : Hid ((k + 1) * 32 ≤ 140737488355328) := by unfold Hid; omega
        clear hrow2 hg2 b2
        go_upto_region 4 with (at_builtin; refine wpList_append_lies _ rfl _ _ 61 rfl 0 72 i72 _ 5 32 Tryz.underlying61 j72 r0 r1 r2 rfl (by decide) (.slice pa k pc) k ps rfl (HR2.out.alloc _) ⟨w2.heap.size, 0, none⟩ 1 1 [.int .i64 (100 + (k : Int) - (N : Int)), .pointer (some ⟨gi, 0, none⟩), .int .i64 0, .bool true, .bool false] rfl rfl (World.news_of_block (cs := #[.int .i64 (100 + (k : Int) - (N : Int)), .pointer (some ⟨gi, 0, none⟩), .int .i64 0, .bool true, .bool false]) (t := 72) (fr := (0, 0)) (heap_alloc_new w2 _)) (by simp [Value.oneCell']) (by decide) hm2.out hb2.out (by simp) (w2.heap.size + 1) (by simp) ?_; intro gg cp w6 hown6 hgrow6 hat6 hlt6; have kc := (far ((Bl.refl w2).alloc _) hgrow6 (o := 4) lg2 ngp.out).1.trans y4; have kf := (far ((Bl.refl w2).alloc _) hgrow6 (o := 4) lg2 ngp.out).2.trans f4; have lg6 : g < w6.heap.size := (by have := hgrow6.size; simp at this; omega); have HX6 := hid (And.intro hown6 (And.intro hgrow6 hat6)); clear hown6 hgrow6 hat6 hlt6)
        go_wp2
        obtain ⟨hown6, hgrow6, hat6⟩ := HX6.out
        obtain ⟨tag2, q1, q2, q3⟩ := HB.out.push HB2.out HE.out.1 HE.out.2.1 HE.out.2.2 ((Bl.refl w2).alloc (.cells #[.int .i64 (100 + (k : Int) - (N : Int)), .pointer (some ⟨gi, 0, none⟩), .int .i64 0, .bool true, .bool false] 72)) (gg := gg) (cp := cp) (by rw [HK.out, Hik.out]; exact hown6) hgrow6 (hat6.imp (fun e => e) (fun e => by omega))
        have kk : KSt (fun t => t = 1 ∨ t = 2) wr tag' _ tag2 := ⟨q3, q1⟩
        refine ⟨⟨k + 1, tag2, some ⟨gg, 0, none⟩, cp, _, by omega, by go_num, fun b hb => ?_, ?_, q2, kk.heap HC.out.1 HC.out.2 (by omega)⟩, by simp [Go.RowKit.intOf]; omega⟩
        · rw [q1 b (Nat.lt_of_lt_of_le hb HBl.out.lt)]; exact HT.out b hb
        · refine HBl.out.trans_only q3 fun b e => ?_
          apply Nat.le_of_not_lt
          intro hlt2
          have := HT.out b hlt2
          omega
    · have hge : ¬ ((k : Int) < (N : Int) + (v : Int)) := by omega
      have hkn : k = N + v := by omega
      have hBk := HB.out
      rw [hkn, ← hN] at hBk
      have HCl := hid (client_any hBk Hf.out)
      go_wp2_with (go_at_call 38; refine HCl.out.mono ?_; rintro en w2 ⟨rfl, hO2, tag2, p2, av2, t2, h2⟩; have HO2 := hid hO2; have HX2 := hid (And.intro t2 h2); clear hO2 t2 h2)
      go_ret2
      refine ⟨g, rfl, HBl.out.trans_only HO2.out fun b e => by omega, tag2, p2, _, av2, _, fun b hb => ?_, HX2.out.2⟩
      rw [HX2.out.1 b (Nat.lt_of_lt_of_le hb HBl.out.lt)]; exact HT.out b hb
end
end Go.Proofs.YtnhjmiglegdamaaGreat
