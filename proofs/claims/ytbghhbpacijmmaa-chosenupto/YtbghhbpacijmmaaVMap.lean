-- The map of a voter: what it holds for each epoch.
import Derived.Test.YtbghhbpacijmmaaImgOpen
import Derived.Maps.Own
import Derived.Maps.Views
namespace Go.Proofs.Ytbghhbpacijmmaa
open Go.RowKit Go.Maps

/-- An element reads as itself. -/
def Rv : Value → Option (DataW Value × List MemPlace) := fun v => some (.held v, [])
def ep0 : Value := .agg #[.int .i64 0, .int .i64 0, .slice none 0 0]
theorem zero92 (w : World) : (zeroValue 92).run Try.prog w = .ok ep0 w := by kernel_rfl
theorem key3 : Keyed Try.prog 3 := int_keyed Try.underlying3

/-- Block b is a map of at most n entries that holds M. -/
def Mp (w : World) (b n : Nat) (M : Int → Value) : Prop :=
  ∃ D : DataW Value, w.ownsMap Try.prog 3 Rv b n D ∧ IsMap D ∧ ∀ k, D.atKey (.int .i64 k) (.held ep0) = .held (M k)
def updM (M : Int → Value) (k : Int) (v : Value) : Int → Value := fun j => if j = k then v else M j

theorem Mp.lt {w : World} {b n : Nat} {M : Int → Value} (h : Mp w b n M) : b < w.heap.size := by
  obtain ⟨D, h1, _⟩ := h; exact h1.lt
theorem Mp.of_heap {w w' : World} {b n : Nat} {M : Int → Value} (h : Mp w b n M) (e : w'.heap[b]? = w.heap[b]?) : Mp w' b n M := by
  obtain ⟨D, ⟨es, clock, h1, h2⟩, h3⟩ := h
  exact ⟨D, ⟨es, clock, e.trans h1, h2⟩, h3⟩
theorem Mp.only {S : Nat → Prop} {w w' : World} {b n : Nat} {M : Int → Value} (h : Mp w b n M) (ho : Only S w w') (hs : ¬ S b) : Mp w' b n M := h.of_heap (ho.block b h.lt hs)
theorem Mp.bl {w w' : World} {b n : Nat} {M : Int → Value} (h : Mp w b n M) (hb : Bl w w') : Mp w' b n M := h.of_heap (hb.heap h.lt)
theorem Mp.mono {w : World} {b n n' : Nat} {M : Int → Value} (h : Mp w b n M) (hn : n ≤ n') : Mp w b n' M := by
  obtain ⟨D, h1, h2⟩ := h; exact ⟨D, h1.mono hn, h2⟩
theorem Mp.ne {w : World} {b n : Nat} {M : Int → Value} (h : Mp w b n M) {g : Nat} {cs : Array Value} {t : TypeId} {f : Nat × Nat} (hg : w.heap[g]? = some (.cells cs t f)) : g ≠ b := by
  rintro rfl
  obtain ⟨D, ⟨es, clock, h1, _⟩, _⟩ := h
  rw [hg] at h1; simp at h1
theorem Mp.ne_own {w : World} {b n : Nat} {M : Int → Value} (h : Mp w b n M) {base : Nat} {e : TypeId} {size : Nat} {v : Value} {k : Nat} {xs : List Value} (ho : w.ownsRow base e size v k xs) : v.ownBlock ≠ some b := by
  intro e'
  obtain ⟨c, hc⟩ := own_type ho b e'
  exact h.ne hc rfl

theorem Mp.made (w : World) : Mp (w.alloc (.map #[] 0)) w.heap.size 0 (fun _ => ep0) :=
  ⟨.map [], World.ownsMap_made w Try.prog 3 Rv, ⟨_, rfl⟩, fun _ => rfl⟩

theorem Mp.look {w : World} {b n : Nat} {M : Int → Value} (h : Mp w b n M) (k : Int) (hk : (Lit.int .i64 k).wf = true) : (Instr.lookup 74 (.map (some b)) (.int .i64 k) false).run Try.prog w = .ok (M k) w := by
  obtain ⟨D, h1, h2, h3⟩ := h
  obtain ⟨v, ps, hr, hv⟩ := h1.lookup (e := 92) key3 Try.underlying74 (zero92 w) (zd := .held ep0) (zp := []) rfl (keyOf_int_mk Try.underlying3 hk)
  rw [h3] at hv
  simp only [Rv, Option.some.injEq, Prod.mk.injEq, DataW.held.injEq] at hv
  rw [hr, hv.1]

theorem Mp.put {w : World} {b n : Nat} {M : Int → Value} (h : Mp w b n M) (k : Int) (hk : (Lit.int .i64 k).wf = true) (v : Value) (hn : n < maxLen) : ∃ w', (Instr.mapUpdate 74 (.map (some b)) (.int .i64 k) v).run Try.prog w = .ok () w' ∧ Mp w' b (n + 1) (updM M k v) ∧ Only (fun x => x = b) w w' := by
  obtain ⟨D, h1, h2, h3⟩ := h
  obtain ⟨w', hr, ho, hg⟩ := h1.update (e := 92) key3 Try.underlying74 hn (keyOf_int_mk Try.underlying3 hk) (val := v) (d := .held v) (ps := []) rfl
  refine ⟨w', hr, ⟨_, ho, ?_, fun j => ?_⟩, (Only.of_grown hg).mono fun x _ e => by simpa using e⟩
  · obtain ⟨es, rfl⟩ := h2
    exact ⟨_, rfl⟩
  · unfold updM
    by_cases e : j = k
    · subst e
      rw [if_pos rfl, atKey_put_same h2 (key3.key (keyOf_int_mk Try.underlying3 hk))]
    · rw [if_neg e, atKey_put_other (by simpa using e), h3]
end Go.Proofs.Ytbghhbpacijmmaa
