-- What a voter keeps.
import Derived.Test.YtbghhbpacijmmaaVMap
namespace Go.Proofs.Ytbghhbpacijmmaa
open Go.RowKit Go.Maps
attribute [local go_sem ↓] Go.wp_at_zero Go.wp_at_succ

structure Ep where
  pr : Int
  ba : Int
  val : List Int
def updE (E : Int → Ep) (k : Int) (s : Ep) : Int → Ep := fun j => if j = k then s else E j

/-- A voter: promises and votes, and its image. -/
structure Vs (base : Nat) (w : World) (p bm n : Nat) (E : Int → Ep) (img : List Int) (M : Int → Value) (vi : Value) (t : TypeId) : Prop where
  at' : w.heap[p]? = some (.cells #[.map (some bm), vi] t (0, 0))
  ty : t = 76 ∨ t = 78
  mp : Mp w bm n M
  ep : ∀ e, ∃ vv, M e = .agg #[.int .i64 (E e).pr, .int .i64 (E e).ba, vv] ∧ w.ownsRow base 5 1 vv (E e).val.length ((E e).val.map B8) ∧ ∀ g, vv.ownBlock = some g → vi.ownBlock ≠ some g
  own : w.ownsRow base 5 1 vi img.length (img.map B8)

theorem Vs.lt {base : Nat} {w : World} {p bm n : Nat} {E : Int → Ep} {img : List Int} {M : Int → Value} {vi : Value} {t : TypeId} (h : Vs base w p bm n E img M vi t) : p < w.heap.size := (Array.getElem?_eq_some_iff.1 h.at').1
theorem Vs.c0 {base : Nat} {w : World} {p bm n : Nat} {E : Int → Ep} {img : List Int} {M : Int → Value} {vi : Value} {t : TypeId} (h : Vs base w p bm n E img M vi t) : w.cell? ⟨p, 0, none⟩ = some (.map (some bm)) := by rw [cell_of_row w p 0 _ t (0, 0) h.at']; rfl
theorem Vs.c1 {base : Nat} {w : World} {p bm n : Nat} {E : Int → Ep} {img : List Int} {M : Int → Value} {vi : Value} {t : TypeId} (h : Vs base w p bm n E img M vi t) : w.cell? ⟨p, 1, none⟩ = some vi := by rw [cell_of_row w p 1 _ t (0, 0) h.at']; rfl
theorem Vs.pm {base : Nat} {w : World} {p bm n : Nat} {E : Int → Ep} {img : List Int} {M : Int → Value} {vi : Value} {t : TypeId} (h : Vs base w p bm n E img M vi t) : p ≠ bm := h.mp.ne h.at'
theorem Vs.own_ne {base : Nat} {w : World} {p bm n : Nat} {E : Int → Ep} {img : List Int} {M : Int → Value} {vi : Value} {t : TypeId} (h : Vs base w p bm n E img M vi t) {B : Nat} {v : Value} {k : Nat} {xs : List Value} (hv : w.ownsRow B 5 1 v k xs) : v.ownBlock ≠ some p := own_ne_block hv h.at' (by rcases h.ty with e | e <;> rw [e] <;> decide)
theorem Vs.only {S : Nat → Prop} {base : Nat} {w w' : World} {p bm n : Nat} {E : Int → Ep} {img : List Int} {M : Int → Value} {vi : Value} {t : TypeId} (h : Vs base w p bm n E img M vi t) (ho : Only S w w') (hs : ∀ b, S b → b ≠ p ∧ b ≠ bm ∧ ∀ cs f, w.heap[b]? ≠ some (.cells cs 5 f)) : Vs base w' p bm n E img M vi t := by
  have key : ∀ {v : Value} {k : Nat} {xs : List Value}, w.ownsRow base 5 1 v k xs → w'.ownsRow base 5 1 v k xs := fun hv => ho.owns hv fun b e hS => by
    obtain ⟨c, hc⟩ := own_type hv b e
    exact (hs b hS).2.2 _ _ hc
  refine ⟨(ho.block p h.lt fun e => (hs p e).1 rfl).trans h.at', h.ty, h.mp.only ho fun e => (hs bm e).2.1 rfl, fun e => ?_, key h.own⟩
  obtain ⟨vv, h1, h2, h3⟩ := h.ep e
  exact ⟨vv, h1, key h2, h3⟩
theorem Vs.bl {base : Nat} {w w' : World} {p bm n : Nat} {E : Int → Ep} {img : List Int} {M : Int → Value} {vi : Value} {t : TypeId} (h : Vs base w p bm n E img M vi t) (hb : Bl w w') : Vs base w' p bm n E img M vi t := h.only (Only.of_bl (S := fun _ => False) hb) fun _ e => e.elim

def thd : Value → Value
  | .agg a => (a.toList[2]?).getD (.slice none 0 0)
  | v => v
/-- The blocks of bytes that a voter has. -/
def Foot (M : Int → Value) (vi : Value) (g : Nat) : Prop := vi.ownBlock = some g ∨ ∃ e, (thd (M e)).ownBlock = some g
/-- A voter's call: what turns is its own, and what it has behind it was its own or is new. -/
structure Gone (p bm : Nat) (M : Int → Value) (vi : Value) (M' : Int → Value) (vi' : Value) (w w' : World) : Prop where
  only : Only (fun b => b = p ∨ b = bm ∨ vi.ownBlock = some b) w w'
  lies : ∀ g, Foot M' vi' g → Foot M vi g ∨ w.heap.size ≤ g
theorem Gone.pre {p bm : Nat} {M M' : Int → Value} {vi vi' : Value} {w W w' : World} (h : Gone p bm M vi M' vi' W w') (hb : Bl w W) : Gone p bm M vi M' vi' w w' :=
  ⟨(Only.of_bl hb).trans h.only, fun g hg => (h.lies g hg).imp id (Nat.le_trans hb.lt)⟩
theorem Gone.post {p bm : Nat} {M M' : Int → Value} {vi vi' : Value} {w w1 w' : World} (h : Gone p bm M vi M' vi' w w1) (hb : Bl w1 w') : Gone p bm M vi M' vi' w w' :=
  ⟨h.only.trans (Only.of_bl hb), h.lies⟩

/-- Behind a change of the map and a record. -/
theorem Vs.turn {base : Nat} {w W w2 w' : World} {p bm n : Nat} {E : Int → Ep} {img rec : List Int} {M : Int → Value} {vi vi' : Value} {t : TypeId} (h : Vs base w p bm n E img M vi t) (e : Int) (s : Ep) (vv : Value) {L : Nat} {xs : List Value}
    (hW : Bl w W) (hm : Only (fun x => x = bm) W w2) (hmp : Mp w2 bm (n + 1) (updM M e (.agg #[.int .i64 s.pr, .int .i64 s.ba, vv])))
    (hvv : W.ownsRow base 5 1 vv s.val.length (s.val.map B8)) (hap : ∀ g, vv.ownBlock = some g → vi.ownBlock ≠ some g) (hvl : ∀ g, vv.ownBlock = some g → Foot M vi g ∨ w.heap.size ≤ g)
    {w3 : World} (hb3 : Bl w2 w3) (hk : Kept base w3 w' p 1 vi vi' L xs) (hL : L = img.length + rec.length) (hx : xs = img.map B8 ++ rec.map B8) :
    Vs base w' p bm (n + 1) (updE E e s) (img ++ rec) (updM M e (.agg #[.int .i64 s.pr, .int .i64 s.ba, vv])) vi' t ∧ Gone p bm M vi (updM M e (.agg #[.int .i64 s.pr, .int .i64 s.ba, vv])) vi' w w' := by
  obtain ⟨W4, w5, hb4, hG, rfl⟩ := hk.ex
  have hv := h.bl hW
  have O3 : Only (fun b => b = bm) W W4 := hm.trans (Only.of_bl (hb3.trans hb4))
  have O5 : Only (fun b => b = bm ∨ vi.ownBlock = some b) W w5 := (O3.mono fun b _ e => .inl e).trans (hG.only.mono fun b _ e => .inr e)
  have hviP : vi.ownBlock ≠ some p := hv.own_ne hv.own
  have hP5 : w5.heap[p]? = some (.cells #[.map (some bm), vi] t (0, 0)) := (O5.block p hv.lt (by rintro (e | e); exact hv.pm e; exact hviP e)).trans hv.at'
  have OS : Only (fun b => b = p) w5 (w5.setCell ⟨p, 1, none⟩ vi') := (Only.refl (fun b => b = p) w5).setCell ⟨p, 1, none⟩ (.inl rfl) vi'
  have O6 : Only (fun b => b = p ∨ b = bm ∨ vi.ownBlock = some b) W (w5.setCell ⟨p, 1, none⟩ vi') := (O5.mono fun b _ e => .inr e).trans (OS.mono fun b _ e => .inl e)
  have keep : ∀ {v : Value} {k : Nat} {ys : List Value}, W.ownsRow base 5 1 v k ys → (∀ g, v.ownBlock = some g → vi.ownBlock ≠ some g) → (w5.setCell ⟨p, 1, none⟩ vi').ownsRow base 5 1 v k ys := fun hr ha => O6.owns hr fun b e hS => by
    rcases hS with rfl | rfl | hS
    · exact hv.own_ne hr e
    · exact hv.mp.ne_own hr e
    · exact ha b e hS
  have apart : ∀ {v : Value} {k : Nat} {ys : List Value}, W.ownsRow base 5 1 v k ys → (∀ g, v.ownBlock = some g → vi.ownBlock ≠ some g) → ∀ g, v.ownBlock = some g → vi'.ownBlock ≠ some g := fun hr ha g e e' => by
    rcases hG.lies g e' with e' | e'
    · exact ha g e e'
    · have := (hr.lt g e).2; have := O3.size; omega
  have hviB : vi.ownBlock ≠ some bm := hv.mp.ne_own hv.own
  refine ⟨⟨?_, h.ty, ?_, fun j => ?_, ?_⟩, (Only.of_bl hW).trans O6, fun g hg => ?_⟩
  rotate_left 4
  · rcases hg with hg | ⟨j, hg⟩
    · rcases hG.lies g hg with e' | e'
      · exact .inl (.inl e')
      · exact .inr (Nat.le_trans hW.lt (Nat.le_trans O3.size e'))
    · unfold updM at hg
      split at hg
      · exact hvl g hg
      · exact .inl (.inr ⟨j, hg⟩)
  · have := Go.heap_setCell_same w5 p 1 _ t vi' hP5
    exact this
  · refine ((hmp.bl (hb3.trans hb4)).only hG.only hviB).only OS (fun e => hv.pm e.symm)
  · unfold updM updE
    by_cases e1 : j = e
    · rw [if_pos e1, if_pos e1]
      exact ⟨vv, rfl, keep hvv hap, apart hvv hap⟩
    · rw [if_neg e1, if_neg e1]
      obtain ⟨u, h1, h2, h3⟩ := hv.ep j
      exact ⟨u, h1, keep h2 h3, apart h2 h3⟩
  · rw [List.length_append, List.map_append, ← hx, ← hL]
    exact OS.owns hG.own fun b e e' => own_ne_block hG.own hP5 (by rcases h.ty with e | e <;> rw [e] <;> decide) (by rw [e, e'])
end Go.Proofs.Ytbghhbpacijmmaa
