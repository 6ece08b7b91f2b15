-- The map of a client's pending calls: call i lies under the key i.
import Derived.Test.YtbghhbpacijmmaaGreatBaseNum
import Derived.Maps.RangeWalk
import Derived.Maps.RangeRun
namespace Go.Proofs.YtbghhbpacijmmaaGreat
open Go.RowKit
open Go.ChangeMaps (setBlock)

def ent (i p : Nat) : MapEntry := ⟨.int .i64 i, .pointer (some ⟨p, 0, none⟩), i⟩
def ents (ps : List Nat) : Array MapEntry := (ps.mapIdx ent).toArray
theorem ents_push (ps : List Nat) (q : Nat) : ents (ps ++ [q]) = (ents ps).push (ent ps.length q) := by
  simp [ents, List.mapIdx_append, List.mapIdx_cons]
theorem ents_size (ps : List Nat) : (ents ps).size = ps.length := by simp [ents]
theorem ents_mem {ps : List Nat} {e : MapEntry} (h : e ∈ (ents ps).toList) : ∃ i, ∃ (hi : i < ps.length), e = ent i ps[i] := by
  simp [ents, List.mem_mapIdx] at h
  obtain ⟨i, hi, rfl⟩ := h
  exact ⟨i, hi, rfl⟩
theorem ents_born (ps : List Nat) : ((ents ps).toList.map (·.born)).Nodup := by
  have : (ents ps).toList.map (·.born) = List.range ps.length := by
    apply List.ext_getElem
    · simp [ents]
    · intro i h1 h2; simp [ents, ent]
  rw [this]; exact List.nodup_range
theorem ents_isKey (ps : List Nat) : ∀ x ∈ (ents ps).toList, MapKept.IsKey (.int .i64) x.key := by
  intro x hx
  obtain ⟨i, hi, rfl⟩ := ents_mem hx
  simp [MapKept.IsKey, ent]

theorem find_none (ps : List Nat) (k : Int) (h : k < 0 ∨ (ps.length : Int) ≤ k) : Instr.findNow (.int .i64) (.int .i64 k) (ents ps).toList 0 = some none := by
  rcases MapKept.findNow_spec (d := .int .i64) (k := .int .i64 k) (by simp [MapKept.IsKey]) (ents ps).toList 0 (ents_isKey ps) with ⟨h1, _⟩ | ⟨j, e, h1, h2, h3⟩
  · exact h1
  · exfalso
    obtain ⟨i, hi, rfl⟩ := ents_mem (List.mem_of_getElem? h2)
    simp [ent] at h3
    omega

/-- A block that is no row is laid anew. -/
def setMap (w : World) (bm : Nat) (o : Obj) : World := { w with heap := w.heap.setIfInBounds bm o }
theorem setMap_only (w : World) (bm : Nat) (o : Obj) : Only (fun k => k = bm) w (setMap w bm o) :=
  ⟨rfl, rfl, rfl, by simp [setMap], fun k _ hs => by simp [setMap, Ne.symm hs]⟩
theorem setMap_at {w : World} {bm : Nat} (h : bm < w.heap.size) (o : Obj) : (setMap w bm o).heap[bm]? = some o := by simp [setMap, h]

theorem put_new (w : World) (bm : Nat) (ps : List Nat) (hb : w.heap[bm]? = some (.map (ents ps) ps.length)) (q : Nat) :
    (Instr.mapUpdate 98 (.map (some bm)) (.int .i64 ps.length) (.pointer (some ⟨q, 0, none⟩))).run Tryz.prog w = .ok () (setMap w bm (.map (ents (ps ++ [q])) (ps.length + 1))) := by
  have h1 := MapKept.run_findKey (P := Tryz.prog) (w := w) Tryz.underlying3 (find_none ps ps.length (by omega))
  have h2 := MapKept.run_checkKey (P := Tryz.prog) (w := w) (k := .int .i64 ps.length) Tryz.underlying3 (by simp [MapKept.IsKey]) false 9999
  simp only [Instr.mapUpdate, Sem.run_bind, run_underlying Tryz.underlying98, Result.andThen, MapKept.run_getObj_map hb, h2, h1]
  rw [MapKept.run_setObj_map _ hb, ents_push]
  rfl

theorem look_none (w : World) (bm : Nat) (ps : List Nat) (hb : w.heap[bm]? = some (.map (ents ps) ps.length)) (k : Int) (h : k < 0 ∨ (ps.length : Int) ≤ k) :
    (Instr.lookup 98 (.map (some bm)) (.int .i64 k) true).run Tryz.prog w = .ok (.tuple #[.pointer none, .bool false]) w := by
  have h1 := MapKept.run_findKey (P := Tryz.prog) (w := w) Tryz.underlying3 (find_none ps k h)
  have h2 := MapKept.run_checkKey (P := Tryz.prog) (w := w) (k := .int .i64 k) Tryz.underlying3 (by simp [MapKept.IsKey]) (ents ps).isEmpty 9999
  have h3 : (zeroValue 163).run Tryz.prog w = .ok (.pointer none) w := by kernel_rfl
  simp [Instr.lookup, Sem.run_bind, run_underlying Tryz.underlying98, Result.andThen, MapKept.run_getObj_map hb, h2, h1, h3]

/-- What is left shrinks by one. -/
theorem left_one (p : MapEntry → Bool) (e : MapEntry) : ∀ (l : List MapEntry), (l.map (·.born)).Nodup → e ∈ l → p e = true → (l.filter fun x => p x && !(x.born == e.born)).length + 1 = (l.filter p).length
  | [], _, h, _ => by simp at h
  | x :: l, hn, h, hp => by
    have hn' : x.born ∉ l.map (·.born) ∧ (l.map (·.born)).Nodup := List.nodup_cons.1 hn
    rcases List.mem_cons.1 h with rfl | h
    · have : (l.filter fun x => p x && !(x.born == e.born)) = l.filter p := by
        apply List.filter_congr
        intro y hy
        have : y.born ≠ e.born := fun q => hn'.1 (q ▸ List.mem_map.2 ⟨y, hy, rfl⟩)
        simp [this]
      simp [hp, this]
    · have ih := left_one p e l hn'.2 h hp
      have hx : x.born ≠ e.born := fun q => hn'.1 (q ▸ List.mem_map.2 ⟨e, h, rfl⟩)
      simp only [List.filter_cons]
      cases hpx : p x <;> simp [hx] <;> omega

theorem leftOf_push (ps : List Nat) (seen : Array Nat) (e : MapEntry) (h : e ∈ (leftOf (ents ps) seen).toList) : (leftOf (ents ps) (seen.push e.born)).size + 1 = (leftOf (ents ps) seen).size := by
  obtain ⟨h1, h2⟩ := mem_left h
  have := left_one (fun x => !seen.contains x.born) e (ents ps).toList (ents_born ps) h1 (by rw [h2]; rfl)
  have e1 : ∀ p : MapEntry → Bool, ((ents ps).filter p).size = ((ents ps).toList.filter p).length := fun p => by rw [← Array.toList_filter, Array.length_toList]
  unfold leftOf
  rw [e1, e1, ← this]
  congr 2
  apply List.filter_congr
  intro x _
  rw [contains_push]
  cases seen.contains x.born <;> simp
theorem leftOf_start (ps : List Nat) : (leftOf (ents ps) #[]).size = ps.length := by
  unfold leftOf
  rw [Array.filter_eq_self.2 (by simp), ents_size]

/-- Nothing is left; an entry is left; the world behind a step. -/
def NoneLeft (es : Array MapEntry) (seen : Array Nat) : Prop := (leftOf es seen).size = 0
def IsLeft (es : Array MapEntry) (seen : Array Nat) (e : MapEntry) : Prop := e ∈ (leftOf es seen).toList
def Stepped (w W : World) (r : Nat) (o : Obj) : Prop := ∃ w1 : World, (w1 = w ∨ w1 = w.drew) ∧ W = setBlock w1 r o

section
variable {P : Program} (w : World) {ops : Array Oper} {rest : List Oper} {o : Oper} {a : Act} {Q : Exit → Act → World → Prop}
theorem wpList_range_raw (hg : o.guard = none) (m : Operand) (t : TypeId) (hop : o.op = Op.range t m) (k e : TypeId) (ht : P.underlying t = some (.map k e)) (b : Nat) (es : Array MapEntry) (clock : Nat)
    (hm : a.eval m = .map (some b)) (hb : w.heap[b]? = some (.map es clock))
    (hK : wpList P ops Q rest (a.put o.dst (.pointer (some ⟨w.heap.size, 0, none⟩))) (w.alloc (.mapIter (some b) clock #[] clock))) :
    wpList P ops Q (o :: rest) a w := by
  refine wpList_plain hg fun K' hK' => ?_
  unfold Oper.wp
  simp [execOp, hop, hm, run_range_map w t k e b es clock ht hb, Result.andThen]
  exact hK' _ _ hK

theorem wpList_next_raw (hg : o.guard = none) (it : Operand) (hop : o.op = Op.next it false) (r b since : Nat) (seen : Array Nat) (es : Array MapEntry) (clock : Nat)
    (hit : a.eval it = .pointer (some ⟨r, 0, none⟩)) (hr : w.heap[r]? = some (.mapIter (some b) since seen clock)) (hb : w.heap[b]? = some (.map es clock)) (hrb : r ≠ b) (hold : ∀ x ∈ es.toList, x.born < since) (hsc : since ≤ clock) (hn : (es.toList.map (·.born)).Nodup)
    (hDone : NoneLeft es seen → wpList P ops Q rest (a.put o.dst (.tuple #[.bool false])) w)
    (hMore : ∀ (e : MapEntry) (W : World), IsLeft es seen e → Stepped w W r (.mapIter (some b) since (seen.push e.born) clock) → (Instr.entry (.pointer (some ⟨r, 0, none⟩))).run P W = .ok (.tuple #[e.key, e.val]) W →
      wpList P ops Q rest (a.put o.dst (.tuple #[.bool true, e.key, e.val])) W) :
    wpList P ops Q (o :: rest) a w := by
  refine wpList_plain hg fun K' hK' => ?_
  unfold Oper.wp
  rcases run_next_at (P := P) w o.type r b since clock seen es clock hr hb hold hsc with ⟨h0, hrun⟩ | ⟨e, he, w1, hw, hrun⟩
  · simp [execOp, hop, hit, hrun, Result.andThen]
    exact hK' _ _ (hDone h0)
  · simp [execOp, hop, hit, hrun, Result.andThen]
    refine hK' _ _ (hMore e _ he ⟨w1, hw, rfl⟩ ?_)
    have hlt : r < w.heap.size := (Array.getElem?_eq_some_iff.1 hr).1
    have hh : w1.heap = w.heap := by rcases hw with rfl | rfl <;> rfl
    refine run_entry_at _ r b since seen es clock e ?_ ?_ (mem_left he).1 hn
    · simp [setBlock, hh, hlt]
    · simp [setBlock, hh, hrb, hb]
end
end Go.Proofs.YtbghhbpacijmmaaGreat
