-- A voter apart from what else there is; its records go on; its image, opened anew.
-- Strings as bytes, and blocks that are told by a function.
import Derived.Test.YtkgjpfamjedncaaGreatVFurVCalls
import Derived.Test.YtkgjpfamjedncaaGreatVEqVAcc
import Derived.Test.YtkgjpfamjedncaaGreatRecFits
import Derived.Laws.IdiomStrings
namespace Go.Proofs.YtkgjpfamjedncaaGreat
open Go.RowKit Go.Maps

theorem Vs.apart {S : Nat → Prop} {base : Nat} {w w' : World} {p bm n : Nat} {E : Int → Ep} {img : List Int} {M : Int → Value} {vi : Value} {t : TypeId} (h : Vs base w p bm n E img M vi t) (ho : Only S w w') (h1 : ¬ S p) (h2 : ¬ S bm) (h3 : ∀ g, g < w.heap.size → Foot M vi g → ¬ S g) : Vs base w' p bm n E img M vi t := by
  refine ⟨(ho.block p h.lt h1).trans h.at', h.ty, h.mp.only ho h2, fun e => ?_, ho.owns h.own fun b e => h3 b (h.own.lt b e).2 (.inl e)⟩
  obtain ⟨vv, k1, k2, k3⟩ := h.ep e
  exact ⟨vv, k1, ho.owns k2 fun b e' => h3 b (k2.lt b e').2 (.inr ⟨e, by rw [k1]; exact e'⟩), k3⟩
theorem Vs.base0 {base : Nat} {w : World} {p bm n : Nat} {E : Int → Ep} {img : List Int} {M : Int → Value} {vi : Value} {t : TypeId} (h : Vs base w p bm n E img M vi t) : Vs 0 w p bm n E img M vi t := by
  refine ⟨h.at', h.ty, h.mp, fun e => ?_, ownsRow_base h.own fun _ _ => Nat.zero_le _⟩
  obtain ⟨vv, k1, k2, k3⟩ := h.ep e
  exact ⟨vv, k1, ownsRow_base k2 fun _ _ => Nat.zero_le _, k3⟩

/-- A record more. -/
theorem VWay.snoc {rs : List Rc} {S : Nat → Int → Ep} (h : VWay rs S) {r : Rc} {E' : Int → Ep} (hp : VPlays (S rs.length) r E') (ho : r.Ok vshs) : VWay (rs ++ [r]) (fun j => if j = rs.length + 1 then E' else S j) where
  zero := by simp [h.zero]
  step := fun j hj => by
    rw [List.length_append, List.length_singleton] at hj
    by_cases e : j < rs.length
    · rw [if_neg (by omega), if_neg (by omega), List.getElem_append_left e]
      exact h.step j e
    · obtain rfl : j = rs.length := by omega
      rw [if_neg (by omega), if_pos rfl]
      simpa using hp
  ok := fun x hx => by
    rcases List.mem_append.1 hx with hx | hx
    · exact h.ok x hx
    · simp at hx; subst hx; exact ho
theorem VWay.last {rs : List Rc} {S : Nat → Int → Ep} {r : Rc} {E' : Int → Ep} : (fun j => if j = rs.length + 1 then E' else S j) (rs ++ [r]).length = E' := by simp
theorem vok_prep (e b : Int) (he : (Lit.int .i64 e).wf = true) (hb : (Lit.int .i64 b).wf = true) : Rc.Ok vshs ⟨1, [e, b], []⟩ :=
  ⟨by simp, by simp, by simp, by simp, by simp, by simp; exact ⟨he, hb⟩, by simp, (1, 2, 0), by decide, rfl, rfl, by simp⟩
theorem vok_acc (e b : Int) (ys : List Int) (he : (Lit.int .i64 e).wf = true) (hb : (Lit.int .i64 b).wf = true) (hy : ys.length ≤ 255) (hys : ∀ d ∈ ys, 0 ≤ d ∧ d ≤ 255) : Rc.Ok vshs ⟨2, [e, b], ys⟩ :=
  ⟨by simp, by simp, by simp, by simp, hy, by simp; exact ⟨he, hb⟩, hys, (2, 2, 255), by decide, rfl, rfl, by simp; omega⟩
theorem cut_own {w : World} {base L c : Nat} {a : Option Addr} {rs : List Rc} (h : w.ownsRow base 5 1 (.slice a L c) L ((flat rs).map B8)) : Cut w a L c rs := by
  have hl := ownsRow_len h
  rw [List.length_map] at hl
  rcases h.2 with ⟨h', hz⟩ | ⟨g, cap, cur, h', hb, hg, hc, hm, hs, ht⟩
  · simp only [Value.slice.injEq] at h'
    obtain ⟨rfl, rfl, rfl⟩ := h'
    exact ⟨by omega, Nat.le_refl _, by decide, 0, 0, fun h => absurd h (by decide), fun j d h => absurd h (by omega)⟩
  · simp only [Value.slice.injEq] at h'
    obtain ⟨rfl, _, rfl⟩ := h'
    refine ⟨by omega, hc, by unfold maxLen at hm; omega, g, 0, fun _ => ⟨rfl, (h.lt g rfl).2⟩, fun j d hj hd => ?_⟩
    rw [Nat.zero_add, h.cellAt j (by omega), List.getElem?_map, hd]
    rfl

/-- Of epochs below one nothing is kept. -/
theorem VWay.low {rs : List Rc} {S : Nat → Int → Ep} (h : VWay rs S) : ∀ k, k ≤ rs.length → ∀ e, e < 1 → S k e = nop := by
  intro k
  induction k with
  | zero => intro _ e _; rw [h.zero]
  | succ k ih =>
    intro hk e he
    have h1 := ih (by omega) e he
    have h2 := h.step k (by omega)
    have key : ∀ E0 r E', VPlays E0 r E' → E0 e = nop → E' e = nop := by
      intro E0 r E' hp h0
      cases hp with
      | prep x b hx hb hlt => unfold updE; rw [if_neg (by omega)]; exact h0
      | acc x b ys hx => unfold updE; rw [if_neg (by omega)]; exact h0
    exact key _ _ _ h2 h1
end Go.Proofs.YtkgjpfamjedncaaGreat

namespace Go.Proofs.YtkgjpfamjedncaaGreat
open Go.RowKit

theorem strOf_size (ys : List Int) : (strOf ys).size = ys.length := by
  have := congrArg List.length (strOf_list ys)
  simpa using this
theorem strOf_dsize (ys : List Int) : (strOf ys).data.size = ys.length := strOf_size ys
theorem bytes_of (w : World) (ys : List Int) (hys : ∀ d ∈ ys, 0 ≤ d ∧ d ≤ 255) (cap : Nat) (f : Nat × Nat) : Bs (w.alloc (.cells (bytesRow (strOf ys) cap) 5 f)) (.slice (some ⟨w.heap.size, 0, none⟩) ys.length cap) (ys.map B8) := by
  refine .inr ⟨⟨w.heap.size, 0, none⟩, cap, by simp, fun j u hj => ?_⟩
  rw [add_eq, Nat.zero_add, cell_of_row _ _ j _ 5 f (heap_alloc_new w _)]
  obtain ⟨hl, rfl⟩ := List.getElem?_eq_some_iff.1 hj
  rw [List.length_map] at hl
  rw [bytesRow_at _ _ _ (by rw [strOf_dsize]; exact hl)]
  have h1 : (strOf ys).data[j]'(by rw [strOf_dsize]; exact hl) = UInt8.ofNat (ys[j]).toNat := by
    have := strOf_list ys
    have h2 : (strOf ys).data.toList[j]? = (ys.map (fun n => UInt8.ofNat n.toNat))[j]? := by rw [this]
    rw [List.getElem?_map, List.getElem?_eq_getElem hl, Array.getElem?_toList, Array.getElem?_eq_getElem (by rw [strOf_dsize]; exact hl)] at h2
    simpa using h2
  have h3 := hys ys[j] (List.getElem_mem hl)
  rw [h1, List.getElem_map]
  simp only [B8, UInt8.toNat_ofNat', Option.some.injEq, Value.int.injEq, true_and]
  omega
end Go.Proofs.YtkgjpfamjedncaaGreat
