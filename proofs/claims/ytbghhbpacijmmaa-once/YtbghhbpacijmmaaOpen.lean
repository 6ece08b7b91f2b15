-- Cells are opened from an image.
import Derived.Test.YtbghhbpacijmmaaImgOpen
namespace Go.Proofs.Ytbghhbpacijmmaa
open Go.RowKit
attribute [local go_sem ↓] Go.wp_at_zero Go.wp_at_succ

def no : Ct := ⟨0, 0, 0, []⟩
/-- Cells that nothing was done with. -/
def St.first : St := ⟨0, 0, fun _ => no⟩

/-- The states that the calls of records go through. -/
structure Way (a b c d ch : Int) (rs : List Rc) (S : Nat → St) : Prop where
  zero : S 0 = St.first
  step : ∀ j, (h : j < rs.length) → Plays a b c d ch (S j) rs[j] (S (j + 1))
  ok : ∀ r ∈ rs, r.Ok shs

theorem Way.vals {a b c d ch : Int} {rs : List Rc} {S : Nat → St} (h : Way a b c d ch rs S) : ∀ j, j ≤ rs.length → ∀ i, i < 16 → ((S j).ct i).val.length ≤ 255 := by
  intro j
  induction j with
  | zero => intro _ i _; rw [h.zero]; simp [St.first, no]
  | succ j ih =>
    intro hj i hi
    have hs := h.step j (by omega)
    have ih := ih (by omega) i hi
    generalize S (j + 1) = s' at hs ⊢
    generalize rs[j] = r at hs
    cases hs with
    | sealed => exact ih
    | trim => exact ih
    | write e x kd cl ca ys i' _ _ _ _ hc =>
      simp only
      split
      · have := isC_len hc; simp; omega
      · exact ih

theorem zero68 (i : Nat) (h : i < 72) : Try.zeroCells68[i]? = some (if i = 71 then .slice none 0 0 else if i < 7 then .int .i64 0 else if (i - 7) % 4 = 3 then .slice none 0 0 else .int .i64 0) := by
  have e : Try.zeroCells68.toList = (List.range 72).map (fun i => if i = 71 then Value.slice none 0 0 else if i < 7 then .int .i64 0 else if (i - 7) % 4 = 3 then .slice none 0 0 else .int .i64 0) := by kernel_rfl
  rw [← Array.getElem?_toList, e, List.getElem?_map, List.getElem?_range h]; rfl

theorem Ks.fresh (a b c d ch : Int) : ∃ K : Nat → Value, ∀ (base : Nat) (w : World) (p : Nat), w.heap[p]? = some (.cells (((((Try.zeroCells68.setIfInBounds 0 (.int .i64 a)).setIfInBounds 1 (.int .i64 b)).setIfInBounds 2 (.int .i64 c)).setIfInBounds 3 (.int .i64 d)).setIfInBounds 4 (.int .i64 ch)) 68 (0, 0)) → Ks base w p a b c d ch 0 0 (fun _ => no) [] K := by
  have hz : ∀ i, 5 ≤ i → (((((Try.zeroCells68.setIfInBounds 0 (.int .i64 a)).setIfInBounds 1 (.int .i64 b)).setIfInBounds 2 (.int .i64 c)).setIfInBounds 3 (.int .i64 d)).setIfInBounds 4 (.int .i64 ch))[i]? = Try.zeroCells68[i]? := by
    intro i h5
    rw [Array.getElem?_setIfInBounds_ne (by omega), Array.getElem?_setIfInBounds_ne (by omega), Array.getElem?_setIfInBounds_ne (by omega), Array.getElem?_setIfInBounds_ne (by omega), Array.getElem?_setIfInBounds_ne (by omega)]
  have hsz : (((((Try.zeroCells68.setIfInBounds 0 (.int .i64 a)).setIfInBounds 1 (.int .i64 b)).setIfInBounds 2 (.int .i64 c)).setIfInBounds 3 (.int .i64 d)).setIfInBounds 4 (.int .i64 ch)).size = 72 := by simp only [Array.size_setIfInBounds]; rfl
  have e0 : (((((Try.zeroCells68.setIfInBounds 0 (.int .i64 a)).setIfInBounds 1 (.int .i64 b)).setIfInBounds 2 (.int .i64 c)).setIfInBounds 3 (.int .i64 d)).setIfInBounds 4 (.int .i64 ch))[0]? = some (.int .i64 a) := rfl
  have e1 : (((((Try.zeroCells68.setIfInBounds 0 (.int .i64 a)).setIfInBounds 1 (.int .i64 b)).setIfInBounds 2 (.int .i64 c)).setIfInBounds 3 (.int .i64 d)).setIfInBounds 4 (.int .i64 ch))[1]? = some (.int .i64 b) := rfl
  have e2 : (((((Try.zeroCells68.setIfInBounds 0 (.int .i64 a)).setIfInBounds 1 (.int .i64 b)).setIfInBounds 2 (.int .i64 c)).setIfInBounds 3 (.int .i64 d)).setIfInBounds 4 (.int .i64 ch))[2]? = some (.int .i64 c) := rfl
  have e3 : (((((Try.zeroCells68.setIfInBounds 0 (.int .i64 a)).setIfInBounds 1 (.int .i64 b)).setIfInBounds 2 (.int .i64 c)).setIfInBounds 3 (.int .i64 d)).setIfInBounds 4 (.int .i64 ch))[3]? = some (.int .i64 d) := rfl
  have e4 : (((((Try.zeroCells68.setIfInBounds 0 (.int .i64 a)).setIfInBounds 1 (.int .i64 b)).setIfInBounds 2 (.int .i64 c)).setIfInBounds 3 (.int .i64 d)).setIfInBounds 4 (.int .i64 ch))[4]? = some (.int .i64 ch) := rfl
  generalize (((((Try.zeroCells68.setIfInBounds 0 (.int .i64 a)).setIfInBounds 1 (.int .i64 b)).setIfInBounds 2 (.int .i64 c)).setIfInBounds 3 (.int .i64 d)).setIfInBounds 4 (.int .i64 ch)) = arr at *
  refine ⟨fun i => (arr[i]?).getD undef, fun base w p h => ?_⟩
  have big : ∀ i, 5 ≤ i → i < 72 → (arr[i]?).getD undef = (if i = 71 then .slice none 0 0 else if i < 7 then .int .i64 0 else if (i - 7) % 4 = 3 then .slice none 0 0 else .int .i64 0) := by
    intro i h5 hi
    rw [hz i h5, zero68 i hi]; rfl
  have k71 : (arr[71]?).getD undef = .slice none 0 0 := by rw [big 71 (by decide) (by decide)]; rfl
  have kv : ∀ i, i < 16 → (arr[10 + 4 * i]?).getD undef = .slice none 0 0 := by
    intro i hi
    rw [big _ (by omega) (by omega), if_neg (by omega), if_neg (by omega), if_pos (by omega)]
  refine ⟨⟨_, 68, h, .inl rfl, fun i hi => ?_⟩, by simp only [e0]; rfl, by simp only [e1]; rfl, by simp only [e2]; rfl, by simp only [e3]; rfl, by simp only [e4]; rfl, ?_, ?_, ?_, fun i hi => ?_, fun i hi => ?_, fun i hi => ?_, fun i hi => ?_, fun i hi g hg => ?_⟩
  · simp only [Array.getElem?_eq_getElem (show i < arr.size by omega), Option.getD_some]
  · rw [big 5 (by decide) (by decide)]; rfl
  · rw [big 6 (by decide) (by decide)]; rfl
  · simp only [k71]; exact World.ownsRow_nil _ _ _ _
  · rw [big _ (by omega) (by omega), if_neg (by omega), if_neg (by omega), if_neg (by omega)]; rfl
  · rw [big _ (by omega) (by omega), if_neg (by omega), if_neg (by omega), if_neg (by omega)]; rfl
  · rw [big _ (by omega) (by omega), if_neg (by omega), if_neg (by omega), if_neg (by omega)]; rfl
  · simp only [kv i hi]; exact World.ownsRow_nil _ _ _ _
  · simp only [kv i hi] at hg; simp [Value.ownBlock] at hg

theorem Ks.base {base base' : Nat} {w : World} {p : Nat} {a b c d ch ep mk : Int} {ct : Nat → Ct} {img : List Int} {K : Nat → Value} (h : Ks base w p a b c d ch ep mk ct img K) (hb : base' ≤ base) : Ks base' w p a b c d ch ep mk ct img K :=
  ⟨h.at', h.k0, h.k1, h.k2, h.k3, h.k4, h.k5, h.k6, ownsRow_base h.own fun g e => Nat.le_trans hb (h.own.lt g e).1, h.kd, h.cl, h.ca, fun i hi => ownsRow_base (h.val i hi) fun g e => Nat.le_trans hb ((h.val i hi).lt g e).1, h.apart⟩

/-- What cells are while the records are done again. -/
structure Jc (p : Nat) (a b c d ch : Int) (rs : List Rc) (S : Nat → St) (w2 : World) (j : Nat) (W : World) : Prop where
  ks : ∃ K, Ks w2.heap.size W p a b c d ch (S j).ep (S j).mark (S j).ct (flat (rs.take j)) K ∧ (j = 0 → ∀ B, Ks B W p a b c d ch (S j).ep (S j).mark (S j).ct (flat (rs.take j)) K)
  only : Only (fun b => b = p) w2 W
  at2 : ∃ K, At w2 p K

theorem doing {p : Nat} {a b c d ch : Int} {rs : List Rc} {S : Nat → St} (hw : Way a b c d ch rs S) (hl : (flat rs).length ≤ 3000000) (base : Nat) : Doing 50 (.pointer (some ⟨p, 0, none⟩)) p 71 base rs (Jc p a b c d ch rs S) where
  img := by
    rintro w2 W j ⟨⟨K, hK, _⟩, _, _⟩ hj
    exact ⟨_, _, hK.at'.cell 71 (by decide), hK.own⟩
  blk := by
    rintro w2 W j ⟨_, _, ⟨K, cs, t, h1, h2, _⟩⟩
    exact ⟨cs, t, h1, by rcases h2 with rfl | rfl <;> decide⟩
  only := fun h => h.only
  bl := fun ⟨⟨K, hK, hz⟩, h2, h3⟩ hb => ⟨⟨K, hK.bl hb, fun e B => (hz e B).bl hb⟩, h2.trans (Only.of_bl hb), h3⟩
  step := by
    rintro w2 W j nv vv h ⟨⟨K, hK, _⟩, hO, hA⟩ hn hv hvb
    have hlj : (flat (rs.take j)).length ≤ 3000000 := by have := off_le rs j h; unfold off at this; omega
    refine (again_any w2.heap.size p base a b c d ch (S j) (S (j + 1)) rs[j] _ K nv vv W hK hO.size hlj (hw.vals j (by omega)) (hw.step j h) hn hv (fun g e e' => ?_)).mono ?_
    · have := hvb g e; have := (hK.own.lt g e').1; omega
    rintro e W' ⟨K', rfl, hK', hO'⟩
    refine ⟨rfl, ⟨⟨K', ?_, fun e => absurd e (by omega)⟩, ?_, hA⟩, _, hO', ?_⟩
    · rw [List.take_succ_eq_append_getElem h, flat_append]; simpa [flat] using hK'
    · refine ⟨hO'.os.trans hO.os, hO'.tape.trans hO.tape, hO'.output.trans hO.output, Nat.le_trans hO.size hO'.size, fun i hi hn' => ?_⟩
      rw [hO'.block i (Nat.lt_of_lt_of_le hi hO.size) (fun e => ?_), hO.block i hi hn']
      rcases e with e | e
      · exact hn' e
      · have := (hK.own.lt i e).1; omega
    · rintro x cs f hx (e | e)
      · obtain ⟨arr, t, h1, h2, _⟩ := hK.at'
        subst e
        rw [h1] at hx
        simp only [Option.some.injEq, Obj.cells.injEq] at hx
        rcases h2 with rfl | rfl <;> exact absurd hx.2.1 (by decide)
      · exact own_ne_block hK.own hx (by decide) e
end Go.Proofs.Ytbghhbpacijmmaa
