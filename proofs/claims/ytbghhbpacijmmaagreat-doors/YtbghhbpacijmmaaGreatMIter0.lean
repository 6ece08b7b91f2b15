-- A map is gone through, in whatever order.
import Derived.Test.YtbghhbpacijmmaaGreatBaseNum
import Derived.Maps.RangeWalk
import Derived.Maps.RangeRun
namespace Go.Proofs.YtbghhbpacijmmaaGreat
open Go.RowKit
open Go.ChangeMaps (setBlock)
theorem setBlock_only0 (w : World) (r : Nat) (o : Obj) : Only (fun k => k = r) w (setBlock w r o) :=
  ⟨rfl, rfl, rfl, by simp [setBlock], fun k _ hs => by simp [setBlock, Ne.symm hs]⟩
/-- Block r goes through the map gm; these entries have come. -/
structure It (w : World) (r gm : Nat) (es : Array MapEntry) (clk : Nat) (done : List MapEntry) : Prop where
  it : w.heap[r]? = some (.mapIter (some gm) clk ((done.map (·.born)).reverse.toArray) clk)
  mp : w.heap[gm]? = some (.map es clk)
  ne : r ≠ gm
  bo : ∀ x ∈ es.toList, x.born < clk
  nd : (es.toList.map (·.born)).Nodup
  sub : ∀ x ∈ done, x ∈ es.toList
  dn : (done.map (·.born)).Nodup
section
variable {w w' : World} {r gm clk : Nat} {es : Array MapEntry} {done : List MapEntry}
theorem It.lr (h : It w r gm es clk done) : r < w.heap.size := (Array.getElem?_eq_some_iff.1 h.it).1
theorem It.lm (h : It w r gm es clk done) : gm < w.heap.size := (Array.getElem?_eq_some_iff.1 h.mp).1
theorem It.only (h : It w r gm es clk done) {S : Nat → Prop} (ho : Only S w w') (h1 : ¬ S r) (h2 : ¬ S gm) : It w' r gm es clk done :=
  ⟨(ho.block r h.lr h1).trans h.it, (ho.block gm h.lm h2).trans h.mp, h.ne, h.bo, h.nd, h.sub, h.dn⟩
theorem It.bl (h : It w r gm es clk done) (hb : Bl w w') : It w' r gm es clk done := h.only (Only.of_bl (S := fun _ => False) hb) (fun e => e) (fun e => e)
theorem born_injL {x y : MapEntry} : ∀ {l : List MapEntry}, (l.map (·.born)).Nodup → x ∈ l → y ∈ l → x.born = y.born → x = y
  | [], _, hx, _, _ => by simp at hx
  | z :: l, hn, hx, hy, h => by
    rw [List.map_cons, List.nodup_cons] at hn
    rcases List.mem_cons.1 hx with rfl | hx' <;> rcases List.mem_cons.1 hy with rfl | hy'
    · rfl
    · exact absurd (List.mem_map.2 ⟨y, hy', h.symm⟩) hn.1
    · exact absurd (List.mem_map.2 ⟨x, hx', h⟩) hn.1
    · exact born_injL hn.2 hx' hy' h
theorem born_inj (hn : (es.toList.map (·.born)).Nodup) {x y : MapEntry} (hx : x ∈ es.toList) (hy : y ∈ es.toList) (h : x.born = y.born) : x = y := born_injL hn hx hy h
theorem len_of_sub {α : Type} : ∀ {l1 l2 : List α}, l1.Nodup → (∀ x ∈ l1, x ∈ l2) → l1.length ≤ l2.length
  | [], _, _, _ => Nat.zero_le _
  | x :: l1, l2, hn, hs => by
    obtain ⟨a, b, rfl⟩ := List.append_of_mem (hs x List.mem_cons_self)
    rw [List.nodup_cons] at hn
    have := len_of_sub (l1 := l1) (l2 := a ++ b) hn.2 fun y hy => by
      have := hs y (List.mem_cons_of_mem _ hy)
      simp at this ⊢
      rcases this with h | rfl | h
      · exact .inl h
      · exact absurd hy hn.1
      · exact .inr h
    simp at this ⊢; omega
theorem nodup_of_born : ∀ {l : List MapEntry}, (l.map (·.born)).Nodup → l.Nodup
  | [], _ => List.nodup_nil
  | x :: l, h => by
    rw [List.map_cons, List.nodup_cons] at h
    exact List.nodup_cons.2 ⟨fun hx => h.1 (List.mem_map.2 ⟨x, hx, rfl⟩), nodup_of_born h.2⟩
theorem It.len (h : It w r gm es clk done) : done.length ≤ es.size := by
  have := len_of_sub (nodup_of_born h.dn) h.sub
  simpa using this
theorem It.start (hm : w.heap[gm]? = some (.map es clk)) (bo : ∀ x ∈ es.toList, x.born < clk) (nd : (es.toList.map (·.born)).Nodup) : It (w.alloc (.mapIter (some gm) clk #[] clk)) w.heap.size gm es clk [] := by
  have lm := (Array.getElem?_eq_some_iff.1 hm).1
  exact ⟨heap_alloc_new w _, (heap_alloc_old w _ lm).trans hm, by omega, bo, nd, fun x hx => by simp at hx, by simp⟩
end
section
variable {P : Program} (w : World) {ops : Array Oper} {rest : List Oper} {o : Oper} {a : Act} {Q : Exit → Act → World → Prop}
theorem wpList_range_it (hg : o.guard = none) (m : Operand) (t : TypeId) (hop : o.op = Op.range t m) (k e : TypeId) (ht : P.underlying t = some (.map k e)) (b : Nat) (es : Array MapEntry) (clock : Nat)
    (hm : a.eval m = .map (some b)) (hb : w.heap[b]? = some (.map es clock)) (bo : ∀ x ∈ es.toList, x.born < clock) (nd : (es.toList.map (·.born)).Nodup)
    (hK : It (w.alloc (.mapIter (some b) clock #[] clock)) w.heap.size b es clock [] → wpList P ops Q rest (a.put o.dst (.pointer (some ⟨w.heap.size, 0, none⟩))) (w.alloc (.mapIter (some b) clock #[] clock))) :
    wpList P ops Q (o :: rest) a w := by
  refine wpList_plain hg fun K' hK' => ?_
  unfold Oper.wp
  simp [execOp, hop, hm, run_range_map w t k e b es clock ht hb, Result.andThen]
  exact hK' _ _ (hK (It.start hb bo nd))
theorem wpList_next_it (hg : o.guard = none) (it : Operand) (hop : o.op = Op.next it false) (r gm clk : Nat) (es : Array MapEntry) (done : List MapEntry)
    (hit : a.eval it = .pointer (some ⟨r, 0, none⟩)) (h : It w r gm es clk done)
    (hDone : done.Perm es.toList → wpList P ops Q rest (a.put o.dst (.tuple #[.bool false])) w)
    (hMore : ∀ (e : MapEntry) (W : World), e ∈ es.toList → It W r gm es clk (e :: done) → Only (fun b => b = r) w W → (Instr.entry (.pointer (some ⟨r, 0, none⟩))).run P W = .ok (.tuple #[e.key, e.val]) W →
      wpList P ops Q rest (a.put o.dst (.tuple #[.bool true, e.key, e.val])) W) :
    wpList P ops Q (o :: rest) a w := by
  refine wpList_plain hg fun K' hK' => ?_
  unfold Oper.wp
  obtain ⟨sn, hsn⟩ : ∃ sn, (done.map (·.born)).reverse.toArray = sn := ⟨_, rfl⟩
  have hi := h.it
  rw [hsn] at hi
  rcases run_next_at (P := P) w o.type r gm clk clk sn es clk hi h.mp h.bo (Nat.le_refl _) with ⟨h0, hrun⟩ | ⟨e, he, w1, hw, hrun⟩
  · simp [execOp, hop, hit, hrun, Result.andThen]
    refine hK' _ _ (hDone ?_)
    rw [List.perm_ext_iff_of_nodup (nodup_of_born h.dn) (nodup_of_born h.nd)]
    refine fun x => ⟨h.sub x, fun hx => ?_⟩
    have h1 : es.filter (fun x => !sn.contains x.born) = #[] := Array.size_eq_zero_iff.1 h0
    have h2 := Array.filter_eq_empty_iff.1 h1 x (by simpa using hx)
    rw [← hsn] at h2
    simp at h2
    obtain ⟨y, hy, hyb⟩ := h2
    rw [← born_inj h.nd (h.sub y hy) hx hyb]; exact hy
  · simp [execOp, hop, hit, hrun, Result.andThen]
    obtain ⟨hm1, hm2⟩ := mem_left he
    have hlt : r < w.heap.size := h.lr
    have hh : w1.heap = w.heap := by rcases hw with rfl | rfl <;> rfl
    have e1 : sn.push e.born = ((e :: done).map (·.born)).reverse.toArray := by rw [← hsn]; simp
    have hI : (setBlock w1 r (.mapIter (some gm) clk (sn.push e.born) clk)).heap[r]? = some (.mapIter (some gm) clk (sn.push e.born) clk) := by simp [setBlock, hh, hlt]
    have hM : (setBlock w1 r (.mapIter (some gm) clk (sn.push e.born) clk)).heap[gm]? = some (.map es clk) := by simp [setBlock, hh, h.ne, h.mp]
    refine hK' _ _ (hMore e _ hm1 ⟨by rw [hI, e1], hM, h.ne, h.bo, h.nd, fun x hx => ?_, ?_⟩ ?_ ?_)
    · rcases List.mem_cons.1 hx with rfl | hx
      · exact hm1
      · exact h.sub x hx
    · rw [List.map_cons, List.nodup_cons]
      refine ⟨fun hx => ?_, h.dn⟩
      rw [← hsn] at hm2
      simp at hm2
      obtain ⟨y, hy, hyb⟩ := List.mem_map.1 hx
      exact hm2 y hy hyb
    · rcases hw with rfl | rfl
      · exact setBlock_only0 _ _ _
      · exact (Only.of_bl ((Bl.refl w).drew)).trans (setBlock_only0 _ _ _)
    · exact run_entry_at _ r gm clk _ es clk e hI hM hm1 h.nd
end
end Go.Proofs.YtbghhbpacijmmaaGreat
