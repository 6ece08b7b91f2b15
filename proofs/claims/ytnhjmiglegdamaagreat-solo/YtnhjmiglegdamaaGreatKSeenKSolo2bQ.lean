-- What is told of an address: Solo's own answer.
-- What Solo has in memory: the box of what is wanted, the log's texts.
import Derived.Test.YtnhjmiglegdamaaGreatKOnePKGlue3Q
import Derived.Test.YtnhjmiglegdamaaGreatKOne3Q
import Derived.Laws.IdiomStrings
import Derived.Deep.DeepCutAuto
import Derived.Test.YtnhjmiglegdamaaGreatKSolo0KSolo1KSolo2KOne2Q
namespace Go.Proofs.YtnhjmiglegdamaaGreat
open Go.RowKit Go.Maps
attribute [local go_sem ↓] Go.wp_at_zero Go.wp_at_succ
section
set_option maxRecDepth 100000 in
set_option maxHeartbeats 4000000 in
/-- What is told of an address, as the text has it. -/
theorem seen_any (s : List Int) (b : Bool) (hs : ∀ d ∈ s, 0 ≤ d ∧ d ≤ 255) (w : World) :
    Calls Tryz.prog 31 #[.string (strOf s), .bool b] w fun en w' => ∃ ra rc, en = .returned (.agg #[.int .i64 (seenS s b).wh, .int .i64 0, .slice ra (seenS s b).val.length rc]) ∧ Bl w w' ∧ Sl w' (.slice ra (seenS s b).val.length rc) ((seenS s b).val.map B8) ∧ ∀ k, (Value.slice ra (seenS s b).val.length rc).ownBlock = some k → w.heap.size ≤ k ∧ k < w'.heap.size := by
  have hz0 : ∀ d ∈ ([] : List Int), 0 ≤ d ∧ d ≤ 255 := fun d hd => by simp at hd
  have hz1 : ∀ d ∈ ([106] : List Int), 0 ≤ d ∧ d ≤ 255 := fun d hd => by simp at hd; omega
  cases b
  · by_cases h0 : s = []
    · subst h0
      have he : strOf [] = ({ data := #[] } : ByteArray) := rfl
      rw [he]
      go_enter Tryz.func31, Tryz.ntmps31
      go_wp2
      refine bodyPost_ret (v := .agg #[.int .i64 3, .int .i64 0, .slice none 0 0]) (by simp [results, Tryz.results31, go_sem]) rfl ⟨none, 0, rfl, ?_, .inl ⟨_, _, rfl, rfl⟩, fun k hk => by simp [Value.ownBlock] at hk⟩
      exact (Bl.refl w).alloc _
    · by_cases h1 : s = [106]
      · subst h1
        have he : strOf [106] = ({ data := #[106] } : ByteArray) := rfl
        rw [he]
        go_enter Tryz.func31, Tryz.ntmps31
        go_wp2
        refine bodyPost_ret (v := .agg #[.int .i64 9, .int .i64 0, .slice none 0 0]) (by simp [results, Tryz.results31, go_sem]) rfl ⟨none, 0, rfl, ?_, .inl ⟨_, _, rfl, rfl⟩, fun k hk => by simp [Value.ownBlock] at hk⟩
        exact (Bl.refl w).alloc _
      · have hse : seenS s false = ⟨8, 0, s⟩ := by unfold seenS; rw [if_neg (by decide), if_neg h0, if_neg h1]
        rw [hse]
        have e0 : ¬ (strOf s).toList = [] := fun e => h0 (strOf_inj hs hz0 (by rw [e, Go.ByteArray.toList_eq, strOf_list]; rfl))
        have e1 : ¬ (strOf s).toList = [106] := fun e => h1 (strOf_inj hs hz1 (by rw [e, Go.ByteArray.toList_eq, strOf_list]; rfl))
        have e0' : (strOf s).toList.isEmpty = false := by
          cases hl : (strOf s).toList with
          | nil => exact absurd hl e0
          | cons _ _ => rfl
        have e1' : ((strOf s).toList == [106]) = false := by simpa using e1
        have hsz := strOf_size s
        have kc := run_bytes_of_string (P := Tryz.prog) (w.alloc (.cells #[.int .i64 0, .int .i64 0, .slice none 0 0] 43)) 9 40 5 (strOf s) Tryz.underlying9 Tryz.underlying40 Tryz.underlying5
        rw [hsz] at kc
        have hby : ∀ (O : Obj) cap f, Sl (((w.alloc O).alloc (.cells (bytesRow (strOf s) cap) 5 f)).drew) (.slice (some ⟨w.heap.size + 1, 0, none⟩) s.length cap) (s.map B8) := fun O cap f => by
          have e := (bytes_of (w.alloc O) s hs cap f).sl.bl ((Bl.refl _).drew)
          rw [show (w.alloc O).heap.size = w.heap.size + 1 by simp] at e
          exact e
        have Hby := hid hby
        generalize strOf s = sv at *
        generalize hgc : grownCap (w.alloc (.cells #[.int .i64 0, .int .i64 0, .slice none 0 0] 43)) s.length 0 5 = gc at *
        generalize hrow : bytesRow sv gc = row at *
        clear hby hsz hgc
        go_enter Tryz.func31, Tryz.ntmps31
        go_wp2
        refine bodyPost_ret (v := .agg #[.int .i64 8, .int .i64 0, .slice (some ⟨w.heap.size + 1, 0, none⟩) s.length gc]) (by simp [results, Tryz.results31, go_sem]) rfl ⟨some ⟨w.heap.size + 1, 0, none⟩, gc, rfl, (((Bl.refl w).alloc _).alloc _).drew, ?_, fun k hk => by simp [Value.ownBlock] at hk; subst hk; exact ⟨by omega, by simp⟩⟩
        have e := Hby.out (.cells #[.int .i64 8, .int .i64 0, .slice (some ⟨w.heap.size + 1, 0, none⟩) s.length gc] 43) gc (row.size, row.size + 1)
        rw [hrow] at e
        exact e
  · go_enter Tryz.func31, Tryz.ntmps31
    go_wp2
    refine bodyPost_ret (v := .agg #[.int .i64 4, .int .i64 0, .slice none 0 0]) (by simp [results, Tryz.results31, go_sem]) rfl ⟨none, 0, rfl, ?_, .inl ⟨_, _, rfl, rfl⟩, fun k hk => by simp [Value.ownBlock] at hk⟩
    exact (Bl.refl w).alloc _
end
end Go.Proofs.YtnhjmiglegdamaaGreat

namespace Go.Proofs.YtnhjmiglegdamaaGreat
open Go.RowKit Go.Maps
section
variable {w W : World} {tag : Nat → Nat} {g p n m v lg T wb : Nat} {ce : Int} {cv : Value} {K : KW} {L : Nat → Ct}
theorem So.ne (h : So w lg T W tag g p n m v ce cv K L) {arr : Array Value} {f : Nat × Nat} (hw : W.heap[wb]? = some (.cells arr 43 f)) : wb ≠ lg := fun e => own_ne_block h.lo.own hw (by decide) (by rw [e]; rfl)
theorem So.logFrz (h : So w lg T W tag g p n m v ce cv K L) (hT : 0 < T) (j : Nat) : W.frozen? ⟨lg, j, none⟩ = false := by
  obtain ⟨g', e, _, _, _, hf⟩ := h.lo.cells hT
  simp only [Option.some.injEq, Addr.mk.injEq, and_true] at e
  rw [e]
  exact hf j
theorem cell_far {b c o o' : Nat} {u : Value} (h : b ≠ c) : (W.setCell ⟨c, o', none⟩ u).cell? ⟨b, o, none⟩ = W.cell? ⟨b, o, none⟩ := World.cell?_of_block (Below.heap_setCell _ _ _ _ (by simp only; omega))
/-- What is wanted is laid into its box. -/
theorem So.want {x0 x1 x2 : Value} (h : So w lg T W tag g p n m v ce cv K L) (hw : W.heap[wb]? = some (.cells #[x0, x1, x2] 43 (0, 0))) (ht : tag wb = 0) (hwb : w.heap.size ≤ wb) {ra : Option Addr} {rc : Nat} {r : Rz} (hsl : Sl W (.slice ra r.val.length rc) (r.val.map B8)) (hnew : ∀ b, (Value.slice ra r.val.length rc).ownBlock = some b → tag b = 0 ∧ b < W.heap.size ∧ b ≠ wb) :
    So w lg T (((W.setCell ⟨wb, 0, none⟩ (.int .i64 r.wh)).setCell ⟨wb, 1, none⟩ (.int .i64 r.ad)).setCell ⟨wb, 2, none⟩ (.slice ra r.val.length rc)) tag g p n m v ce cv K L ∧ Wb w (((W.setCell ⟨wb, 0, none⟩ (.int .i64 r.wh)).setCell ⟨wb, 1, none⟩ (.int .i64 r.ad)).setCell ⟨wb, 2, none⟩ (.slice ra r.val.length rc)) tag wb r := by
  have hne := h.ne hw
  refine ⟨((h.set hwb ht hne 0 _).set hwb ht hne 1 _).set hwb ht hne 2 _, ra, rc, ?_, ht, hwb, ?_, fun b hb => ⟨(hnew b hb).1, by simp [World.setCell]; exact (hnew b hb).2.1⟩⟩
  · have h1 := set_heap 0 (.int .i64 r.wh) W [x0, x1, x2] hw
    have h2 := set_heap 1 (.int .i64 r.ad) _ _ h1
    exact set_heap 2 (.slice ra r.val.length rc) _ _ h2
  · rcases hsl with e | ⟨b, o, c, e1, e2, e3⟩
    · exact .inl e
    · have hb := (hnew b (by rw [e1]; rfl)).2.2
      refine .inr ⟨b, o, c, e1, by simp [World.setCell]; exact e2, fun j hj => ?_⟩
      rw [cell_far hb, cell_far hb, cell_far hb]
      exact e3 j hj
theorem So.want1 (h : So w lg T W tag g p n m v ce cv K L) (hw : W.heap[wb]? = some (.cells #[.int .i64 1, .int .i64 0, .slice none 0 0] 43 (0, 0))) (ht : tag wb = 0) (hwb : w.heap.size ≤ wb) (y : Int) :
    So w lg T (W.setCell ⟨wb, 1, none⟩ (.int .i64 y)) tag g p n m v ce cv K L ∧ Wb w (W.setCell ⟨wb, 1, none⟩ (.int .i64 y)) tag wb ⟨1, y, []⟩ :=
  ⟨h.set hwb ht (h.ne hw) 1 _, none, 0, set_heap 1 (.int .i64 y) W [.int .i64 1, .int .i64 0, .slice none 0 0] hw, ht, hwb, .inl ⟨_, _, rfl, rfl⟩, fun b hb => by simp [Value.ownBlock] at hb⟩
theorem So.want7 (h : So w lg T W tag g p n m v ce cv K L) (hw : W.heap[wb]? = some (.cells #[.int .i64 1, .int .i64 0, .slice none 0 0] 43 (0, 0))) (ht : tag wb = 0) (hwb : w.heap.size ≤ wb) :
    So w lg T (W.setCell ⟨wb, 0, none⟩ (.int .i64 7)) tag g p n m v ce cv K L ∧ Wb w (W.setCell ⟨wb, 0, none⟩ (.int .i64 7)) tag wb ⟨7, 0, []⟩ :=
  ⟨h.set hwb ht (h.ne hw) 0 _, none, 0, set_heap 0 (.int .i64 7) W [.int .i64 1, .int .i64 0, .slice none 0 0] hw, ht, hwb, .inl ⟨_, _, rfl, rfl⟩, fun b hb => by simp [Value.ownBlock] at hb⟩
/-- The cells of a call, out of the world. -/
theorem SW.call {cb l cc k : Nat} {c : PK} (h : SW W tag g p n m v ce (.slice (some ⟨cb, 0, none⟩) l cc) K) (hl : K.calls.length = l) (hc : K.calls[k]? = some c) :
    (g < W.heap.size ∧ W.cell? ⟨g, 7, none⟩ = some (.slice (some ⟨cb, 0, none⟩) l cc) ∧ cb < W.heap.size) ∧ ∃ ta tc ra rc, (W.cell? ⟨cb, k * 11, none⟩ = some (.int .i64 0) ∧ W.cell? ⟨cb, k * 11 + 1, none⟩ = some (.int .i64 k) ∧ W.cell? ⟨cb, k * 11 + 2, none⟩ = some (.int .i64 c.kind) ∧ W.cell? ⟨cb, k * 11 + 3, none⟩ = some (.int .i64 c.pos) ∧ W.cell? ⟨cb, k * 11 + 4, none⟩ = some (.string (strOf c.value)) ∧ W.cell? ⟨cb, k * 11 + 5, none⟩ = some (.slice ta c.tokens.length tc) ∧ W.cell? ⟨cb, k * 11 + 6, none⟩ = some (.int .i64 c.beg) ∧ W.cell? ⟨cb, k * 11 + 7, none⟩ = some (.int .i64 c.fin) ∧ W.cell? ⟨cb, k * 11 + 8, none⟩ = some (.int .i64 c.r.wh) ∧ W.cell? ⟨cb, k * 11 + 9, none⟩ = some (.int .i64 c.r.ad) ∧ W.cell? ⟨cb, k * 11 + 10, none⟩ = some (.slice ra c.r.val.length rc)) ∧ Sl W (.slice ra c.r.val.length rc) (c.r.val.map B8) := by
  obtain ⟨q, pv, av, hv, ps, cs, h⟩ := h
  subst hl
  obtain ⟨cb', ta, tc, ra, rc, e, lcb, d0, d1, d2, d3, d4, d5, d6, d7, d8, d9, d10, _, hs⟩ := h.ca.cells hc
  simp only [Option.some.injEq, Addr.mk.injEq, and_true] at e
  subst e
  exact ⟨⟨h.lt, h.cellAt 7 rfl, lcb⟩, ta, tc, ra, rc, ⟨d0, d1, d2, d3, d4, d5, d6, d7, d8, d9, d10⟩, hs⟩
theorem seenS_ad (s : List Int) (b : Bool) : (seenS s b).ad = 0 := by
  unfold seenS
  split
  · rfl
  · split
    · rfl
    · split <;> rfl
theorem logS_byt {k : Nat} (hL : LOk L k) (a : Nat) : ∀ d ∈ logS L a, 0 ≤ d ∧ d ≤ 255 := by
  unfold logS
  split
  · intro d hd; simp at hd
  · split
    · intro d hd; simp at hd; omega
    · exact (hL.ct a).byt
theorem logS_nil {k : Nat} (hL : LOk L k) (a : Nat) : logS L a = [] ↔ (L a).kd = 0 := by
  unfold logS
  rcases hL.three a with ⟨e1, e2⟩ | ⟨e1, e2⟩ | ⟨e1, e2⟩ <;> simp [e1, e2]
theorem str_nil {s : List Int} (hs : ∀ d ∈ s, 0 ≤ d ∧ d ≤ 255) (h : s ≠ []) : ¬ (strOf s).toList = [] ∧ (strOf s).toList.isEmpty = false := by
  have e0 : ¬ (strOf s).toList = [] := fun e => h (strOf_inj hs (fun d hd => by simp at hd) (by rw [e, Go.ByteArray.toList_eq, strOf_list]; rfl))
  refine ⟨e0, ?_⟩
  cases hl : (strOf s).toList with
  | nil => exact absurd hl e0
  | cons _ _ => rfl
end
end Go.Proofs.YtnhjmiglegdamaaGreat
