-- A client writes along the chain.
-- The map of a client's pending calls: call i lies under the key i.
-- A call ends.
-- The library's keys of a map, sorted, and its growing of a slice, at this program.
-- All units of a layout.
import Derived.Test.YtnhjmiglegdamaaGreatSClSUpSAskSChainQ
import Derived.Test.YtnhjmiglegdamaaGreatBaseNum
import Derived.Maps.RangeWalk
import Derived.Maps.RangeRun
import Derived.Shelf.SlIterI.Nil
import Derived.Shelf.SlIterI.Sorted
import Derived.Shelf.Spec.SlicesGrow
import Derived.Test.YtnhjmiglegdamaaGreatProg
namespace Go.Proofs.YtnhjmiglegdamaaGreat
open Go.RowKit Go.Maps
attribute [local go_sem ↓] Go.wp_at_zero Go.wp_at_succ
section
variable {w w0 w' : World} {tag tag' : Nat → Nat} {tc p q n m : Nat} {vo ce id : Int} {X X' : CX} {lv rv vv nv av pv vv' nv' av' ov cv ev ov' cv' ev' : Value} {bm born clk k gm : Nat} {c c' : PC}
theorem CStep.of_bl (h : Cl w tag tc p q n m vo ce id X) (hb : Bl w w') : CStep w tag tc p q n m vo ce id X w' := ⟨h.bl hb (fun b hb e => by rw [tagTo_old _ _ _ _ hb]; exact e), Only.of_bl hb⟩
theorem cl_chain2 (h : ClK w tag tc p q n m vo ce id X lv rv vv nv av bm born clk) (hc : X.pend = some c) (hA : AdOk n m vo ce c.addr) :
    Calls Tryz.prog 186 #[.pointer (some ⟨p, 0, none⟩), .pointer (some ⟨q, 0, none⟩)] w fun en w' => ∃ b o nc, en = .returned (.slice (some ⟨b, o, none⟩) m nc) ∧ Bl w w' ∧ b < w'.heap.size ∧ ∀ j : Nat, j < m → w'.cell? ⟨b, o + j, none⟩ = some (.int .i64 (c.addr % n * m + j)) := by
  refine (cl_chain h hc hA).mono ?_
  rintro en w' ⟨na, nc, rfl, hb, hr⟩
  have hlen : ((chainOf n m c.addr).map (Value.int .i64)).length = m := by simp [chainOf]
  have hm := hA.bd.2.2.1
  obtain ⟨b, o, cc, e, lb, _, _, hcell⟩ := hr.cell (by rw [hlen]; exact hm)
  rw [hlen] at e
  simp only [Value.slice.injEq, true_and] at e
  obtain ⟨rfl, rfl⟩ := e
  exact ⟨b, o, _, rfl, hb, lb, fun j hj => hcell j _ (by simp [chainOf, hj])⟩
set_option maxRecDepth 100000 in
set_option maxHeartbeats 4000000 in
theorem cl_writeNext (h : ClK w tag tc p q n m vo ce id X lv rv vv nv av bm born clk) (hc : X.pend = some c) (hA : AdOk n m vo ce c.addr) (hpl : c.place < m) (ha : 0 ≤ X.asked) (hb : X.asked ≤ 1000000) :
    Calls Tryz.prog 147 #[.pointer (some ⟨p, 0, none⟩), .pointer (some ⟨q, 0, none⟩)] w fun en w' => en = .returned (.tuple #[]) ∧ CStep w tag tc p q n m vo ce id (X.writeNext n m c) w' := by
  obtain ⟨ov, cv, ev, v3, n3, a3, hk, hl, k2, k3⟩ := h.call c hc
  obtain ⟨va, vc, rfl⟩ := hk.cont.shape
  rw [List.length_map] at hk
  have HC : Hid (∀ W, Bl w W → _) := fun W hW => cl_chain2 (h.bl hW (tag' := tag) (fun _ _ e => e)) hc hA
  have HK : Hid (∀ W, Bl w W → ∀ g, w.heap.size ≤ g → W.heap[g]? = some (.cells #[.int .i64 (c.addr % n * m + c.place)] 3 (0, 0)) → _) := fun W hW g hg hg2 => cl_ask (h.bl hW (tag' := tagTo tag w.heap.size tc) (fun b hb e => by rw [tagTo_old _ _ _ _ hb]; exact e)) hc ha hb 2 c.addr c.cont.kd c.cont.cl c.cont.ca c.cont.val [c.addr % n * m + c.place] va (some ⟨g, 0, none⟩) vc 1 (hk.cont.bl hW (fun b hb e => by rw [tagTo_old _ _ _ _ hb]; exact e)) (.inr ⟨g, 0, 1, _, _, rfl, tagTo_new _ _ _ _ hg, hg2, by simp, by decide, fun j x hj => by simpa using hj⟩)
  simp only [List.length_singleton] at HK
  have e12 := hk.cellAt 12 rfl
  have e2 := hk.cellAt 2 rfl
  have e8 := hk.cellAt 8 rfl
  have e9 := hk.cellAt 9 rfl
  have e10 := hk.cellAt 10 rfl
  have e11 := hk.cellAt 11 rfl
  have lq := hk.lt
  have H := hid (Cl.of h)
  have hp0 : (0 : Int) ≤ (c.place : Int) := by omega
  have hp1 : (c.place : Int) < (m : Int) := by omega
  clear h hk
  go_enter Tryz.func147, Tryz.ntmps147
  go_upto_region 0 with fail
  go_cut [4] (fun y wx => y = .int .i64 (c.addr % n * m + c.place) ∧ Hid (Bl w wx))
  case first =>
    go_region_with (first | (go_at_call 186; refine (HC.out _ ?hb).mono ?_; (case hb => first | exact Bl.refl _ | exact (Bl.refl _).drew | exact (Bl.refl _).drewN _); rintro en w2 ⟨b2, o2, nc2, rfl, hb2, lb2, hr2⟩; have hB : Bl w w2 := Bl.trans (by first | exact Bl.refl _ | exact (Bl.refl _).drew | exact (Bl.refl _).drewN _) hb2; have z4 := (hB.cell lq).trans e12; have z5 := hr2 c.place hpl; have HB2 := hid hB; clear hb2 hB hr2))
    all_goals (go_wp2_with fail; go_meet)
    all_goals exact ⟨rfl, HB2.out⟩
  case rest =>
    obtain ⟨rfl, HB⟩ := hcut
    have d2 := (HB.out.cell lq).trans e2
    have d8 := (HB.out.cell lq).trans e8
    have d9 := (HB.out.cell lq).trans e9
    have d10 := (HB.out.cell lq).trans e10
    have d11 := (HB.out.cell lq).trans e11
    have lqc := Nat.lt_of_lt_of_le lq HB.out.lt
    have lw := HB.out.lt
    clear e2 e8 e9 e10 e11 e12 HC
    go_upto_region 1 with fail
    go_region_with (first | (go_at_call 187; refine (HK.out _ (HB.out.trans ?hb) _ ?hl ?hg).mono ?_; (case hb => repeat (first | exact Bl.refl _ | refine Bl.drew ?_ | refine Bl.drewN ?_ _ | refine Bl.alloc ?_ _)); (case hg => first | exact heap_alloc_new _ _ | exact heap_alloc_new wc.drew _ | exact heap_alloc_new (wc.drewN _) _); (case hl => first | omega | (simp; omega)); rintro en w3 ⟨rfl, hs3⟩; have HS3 := hid (CStep.trans (CStep.of_bl H.out (HB.out.trans (by repeat (first | exact Bl.refl _ | refine Bl.drew ?_ | refine Bl.drewN ?_ _ | refine Bl.alloc ?_ _)))) hs3); clear hs3))
    all_goals
      go_wp2
      go_end0
      exact ⟨rfl, HS3.out⟩
end
end Go.Proofs.YtnhjmiglegdamaaGreat

namespace Go.Proofs.YtnhjmiglegdamaaGreat
open Go.RowKit
open Go.ChangeMaps (setBlock)

def ent (i p : Nat) : MapEntry := ⟨.int .i64 i, .pointer (some ⟨p, 0, none⟩), i⟩
def ents (ps : List Nat) : Array MapEntry := (ps.mapIdx ent).toArray
theorem ents_push (ps : List Nat) (q : Nat) : ents (ps ++ [q]) = (ents ps).push (ent ps.length q) := by
  simp [ents, List.mapIdx_append, List.mapIdx_cons]
theorem ents_size (ps : List Nat) : (ents ps).size = ps.length := by simp [ents]
theorem ents_mem {ps : List Nat} {e : MapEntry} (h : e ∈ (ents ps).toList) : ∃ i, ∃ (hi : i < ps.length), e = ent i ps[i] := by
  simp [ents, List.mem_mapIdx] at h
  obtain ⟨i, hi, rfl⟩ := h
  exact ⟨i, hi, rfl⟩
theorem ents_born (ps : List Nat) : ((ents ps).toList.map (·.born)).Nodup := by
  have : (ents ps).toList.map (·.born) = List.range ps.length := by
    apply List.ext_getElem
    · simp [ents]
    · intro i h1 h2; simp [ents, ent]
  rw [this]; exact List.nodup_range
theorem ents_isKey (ps : List Nat) : ∀ x ∈ (ents ps).toList, MapKept.IsKey (.int .i64) x.key := by
  intro x hx
  obtain ⟨i, hi, rfl⟩ := ents_mem hx
  simp [MapKept.IsKey, ent]

theorem find_none (ps : List Nat) (k : Int) (h : k < 0 ∨ (ps.length : Int) ≤ k) : Instr.findNow (.int .i64) (.int .i64 k) (ents ps).toList 0 = some none := by
  rcases MapKept.findNow_spec (d := .int .i64) (k := .int .i64 k) (by simp [MapKept.IsKey]) (ents ps).toList 0 (ents_isKey ps) with ⟨h1, _⟩ | ⟨j, e, h1, h2, h3⟩
  · exact h1
  · exfalso
    obtain ⟨i, hi, rfl⟩ := ents_mem (List.mem_of_getElem? h2)
    simp [ent] at h3
    omega

/-- A block that is no row is laid anew. -/
def setMap (w : World) (bm : Nat) (o : Obj) : World := { w with heap := w.heap.setIfInBounds bm o }
theorem setMap_only (w : World) (bm : Nat) (o : Obj) : Only (fun k => k = bm) w (setMap w bm o) :=
  ⟨rfl, rfl, rfl, by simp [setMap], fun k _ hs => by simp [setMap, Ne.symm hs]⟩
theorem setMap_at {w : World} {bm : Nat} (h : bm < w.heap.size) (o : Obj) : (setMap w bm o).heap[bm]? = some o := by simp [setMap, h]

theorem put_new (w : World) (bm : Nat) (ps : List Nat) (hb : w.heap[bm]? = some (.map (ents ps) ps.length)) (q : Nat) :
    (Instr.mapUpdate 98 (.map (some bm)) (.int .i64 ps.length) (.pointer (some ⟨q, 0, none⟩))).run Tryz.prog w = .ok () (setMap w bm (.map (ents (ps ++ [q])) (ps.length + 1))) := by
  have h1 := MapKept.run_findKey (P := Tryz.prog) (w := w) Tryz.underlying3 (find_none ps ps.length (by omega))
  have h2 := MapKept.run_checkKey (P := Tryz.prog) (w := w) (k := .int .i64 ps.length) Tryz.underlying3 (by simp [MapKept.IsKey]) false 9999
  simp only [Instr.mapUpdate, Sem.run_bind, run_underlying Tryz.underlying98, Result.andThen, MapKept.run_getObj_map hb, h2, h1]
  rw [MapKept.run_setObj_map _ hb, ents_push]
  rfl

theorem look_none (w : World) (bm : Nat) (ps : List Nat) (hb : w.heap[bm]? = some (.map (ents ps) ps.length)) (k : Int) (h : k < 0 ∨ (ps.length : Int) ≤ k) :
    (Instr.lookup 98 (.map (some bm)) (.int .i64 k) true).run Tryz.prog w = .ok (.tuple #[.pointer none, .bool false]) w := by
  have h1 := MapKept.run_findKey (P := Tryz.prog) (w := w) Tryz.underlying3 (find_none ps k h)
  have h2 := MapKept.run_checkKey (P := Tryz.prog) (w := w) (k := .int .i64 k) Tryz.underlying3 (by simp [MapKept.IsKey]) (ents ps).isEmpty 9999
  have h3 : (zeroValue 159).run Tryz.prog w = .ok (.pointer none) w := by kernel_rfl
  simp [Instr.lookup, Sem.run_bind, run_underlying Tryz.underlying98, Result.andThen, MapKept.run_getObj_map hb, h2, h1, h3]

/-- What is left shrinks by one. -/
theorem left_one (p : MapEntry → Bool) (e : MapEntry) : ∀ (l : List MapEntry), (l.map (·.born)).Nodup → e ∈ l → p e = true → (l.filter fun x => p x && !(x.born == e.born)).length + 1 = (l.filter p).length
  | [], _, h, _ => by simp at h
  | x :: l, hn, h, hp => by
    have hn' : x.born ∉ l.map (·.born) ∧ (l.map (·.born)).Nodup := List.nodup_cons.1 hn
    rcases List.mem_cons.1 h with rfl | h
    · have : (l.filter fun x => p x && !(x.born == e.born)) = l.filter p := by
        apply List.filter_congr
        intro y hy
        have : y.born ≠ e.born := fun q => hn'.1 (q ▸ List.mem_map.2 ⟨y, hy, rfl⟩)
        simp [this]
      simp [hp, this]
    · have ih := left_one p e l hn'.2 h hp
      have hx : x.born ≠ e.born := fun q => hn'.1 (q ▸ List.mem_map.2 ⟨e, h, rfl⟩)
      simp only [List.filter_cons]
      cases hpx : p x <;> simp [hx] <;> omega

theorem leftOf_push (ps : List Nat) (seen : Array Nat) (e : MapEntry) (h : e ∈ (leftOf (ents ps) seen).toList) : (leftOf (ents ps) (seen.push e.born)).size + 1 = (leftOf (ents ps) seen).size := by
  obtain ⟨h1, h2⟩ := mem_left h
  have := left_one (fun x => !seen.contains x.born) e (ents ps).toList (ents_born ps) h1 (by rw [h2]; rfl)
  have e1 : ∀ p : MapEntry → Bool, ((ents ps).filter p).size = ((ents ps).toList.filter p).length := fun p => by rw [← Array.toList_filter, Array.length_toList]
  unfold leftOf
  rw [e1, e1, ← this]
  congr 2
  apply List.filter_congr
  intro x _
  rw [contains_push]
  cases seen.contains x.born <;> simp
theorem leftOf_start (ps : List Nat) : (leftOf (ents ps) #[]).size = ps.length := by
  unfold leftOf
  rw [Array.filter_eq_self.2 (by simp), ents_size]

/-- Nothing is left; an entry is left; the world behind a step. -/
def NoneLeft (es : Array MapEntry) (seen : Array Nat) : Prop := (leftOf es seen).size = 0
def IsLeft (es : Array MapEntry) (seen : Array Nat) (e : MapEntry) : Prop := e ∈ (leftOf es seen).toList
def Stepped (w W : World) (r : Nat) (o : Obj) : Prop := ∃ w1 : World, (w1 = w ∨ w1 = w.drew) ∧ W = setBlock w1 r o

section
variable {P : Program} (w : World) {ops : Array Oper} {rest : List Oper} {o : Oper} {a : Act} {Q : Exit → Act → World → Prop}
theorem wpList_range_raw (hg : o.guard = none) (m : Operand) (t : TypeId) (hop : o.op = Op.range t m) (k e : TypeId) (ht : P.underlying t = some (.map k e)) (b : Nat) (es : Array MapEntry) (clock : Nat)
    (hm : a.eval m = .map (some b)) (hb : w.heap[b]? = some (.map es clock))
    (hK : wpList P ops Q rest (a.put o.dst (.pointer (some ⟨w.heap.size, 0, none⟩))) (w.alloc (.mapIter (some b) clock #[] clock))) :
    wpList P ops Q (o :: rest) a w := by
  refine wpList_plain hg fun K' hK' => ?_
  unfold Oper.wp
  simp [execOp, hop, hm, run_range_map w t k e b es clock ht hb, Result.andThen]
  exact hK' _ _ hK

theorem wpList_next_raw (hg : o.guard = none) (it : Operand) (hop : o.op = Op.next it false) (r b since : Nat) (seen : Array Nat) (es : Array MapEntry) (clock : Nat)
    (hit : a.eval it = .pointer (some ⟨r, 0, none⟩)) (hr : w.heap[r]? = some (.mapIter (some b) since seen clock)) (hb : w.heap[b]? = some (.map es clock)) (hrb : r ≠ b) (hold : ∀ x ∈ es.toList, x.born < since) (hsc : since ≤ clock) (hn : (es.toList.map (·.born)).Nodup)
    (hDone : NoneLeft es seen → wpList P ops Q rest (a.put o.dst (.tuple #[.bool false])) w)
    (hMore : ∀ (e : MapEntry) (W : World), IsLeft es seen e → Stepped w W r (.mapIter (some b) since (seen.push e.born) clock) → (Instr.entry (.pointer (some ⟨r, 0, none⟩))).run P W = .ok (.tuple #[e.key, e.val]) W →
      wpList P ops Q rest (a.put o.dst (.tuple #[.bool true, e.key, e.val])) W) :
    wpList P ops Q (o :: rest) a w := by
  refine wpList_plain hg fun K' hK' => ?_
  unfold Oper.wp
  rcases run_next_at (P := P) w o.type r b since clock seen es clock hr hb hold hsc with ⟨h0, hrun⟩ | ⟨e, he, w1, hw, hrun⟩
  · simp [execOp, hop, hit, hrun, Result.andThen]
    exact hK' _ _ (hDone h0)
  · simp [execOp, hop, hit, hrun, Result.andThen]
    refine hK' _ _ (hMore e _ he ⟨w1, hw, rfl⟩ ?_)
    have hlt : r < w.heap.size := (Array.getElem?_eq_some_iff.1 hr).1
    have hh : w1.heap = w.heap := by rcases hw with rfl | rfl <;> rfl
    refine run_entry_at _ r b since seen es clock e ?_ ?_ (mem_left he).1 hn
    · simp [setBlock, hh, hlt]
    · simp [setBlock, hh, hrb, hb]
end
end Go.Proofs.YtnhjmiglegdamaaGreat

namespace Go.Proofs.YtnhjmiglegdamaaGreat
open Go.RowKit Go.Maps
attribute [local go_sem ↓] Go.wp_at_zero Go.wp_at_succ
theorem del98 (w : World) (bm clk born : Nat) (k : Int) (v : Value) (ty : TypeId) (hb : w.heap[bm]? = some (.map #[⟨.int .i64 k, v, born⟩] clk)) :
    (Builtin.delete_ #[98, 3] ty #[.map (some bm), .int .i64 k]).run Tryz.prog w = .ok (.tuple #[]) (setMap w bm (.map #[] clk)) := by
  have h0 : Instr.findNow (.int .i64) (.int .i64 k) (#[⟨.int .i64 k, v, born⟩] : Array MapEntry).toList 0 = some (some (0, v)) := by
    simp [Instr.findNow, Instr.sameNow]
  have h1 := MapKept.run_findKey (P := Tryz.prog) (w := w) Tryz.underlying3 h0
  have h2 := MapKept.run_checkKey (P := Tryz.prog) (w := w) (k := .int .i64 k) Tryz.underlying3 (by simp [MapKept.IsKey]) false 9999
  simp [Builtin.delete_, Sem.run_bind, run_underlying Tryz.underlying98, Result.andThen, MapKept.run_getObj_map hb, h2, h1, MapKept.run_setObj_map _ hb, setMap]
theorem ResOk.set {w : World} {tag : Nat → Nat} {tc g len cap : Nat} {rs : List Rz} (h : ResOk w tag tc (.slice (some ⟨g, 0, none⟩) len cap) rs) (hl : rs.length = len) (i : Nat) (hi : i < rs.length) (r : Rz) (s : Value) (hs : Rd w tag tc 5 s (r.val.map B8)) :
    ResOk (((w.setCell ⟨g, i * 3, none⟩ (.int .i64 r.wh)).setCell ⟨g, i * 3 + 1, none⟩ (.int .i64 r.ad)).setCell ⟨g, i * 3 + 2, none⟩ s) tag tc (.slice (some ⟨g, 0, none⟩) len cap) (rs.set i r) := by
  obtain ⟨xs, h1, h2, h3⟩ := h
  rw [hl] at h1
  obtain ⟨k1, g1⟩ := h1.stored (i * 3) (.int .i64 r.wh)
  obtain ⟨k2, g2⟩ := k1.stored (i * 3 + 1) (.int .i64 r.ad)
  obtain ⟨k3, g3⟩ := k2.stored (i * 3 + 2) s
  have hxl : xs.length = len * 3 := h1.1
  have ho : Only (fun b => b = g) w (((w.setCell ⟨g, i * 3, none⟩ (.int .i64 r.wh)).setCell ⟨g, i * 3 + 1, none⟩ (.int .i64 r.ad)).setCell ⟨g, i * 3 + 2, none⟩ s) := (((Only.refl (fun b => b = g) w).setCell ⟨g, _, none⟩ (.inl rfl) _).setCell ⟨g, _, none⟩ (.inl rfl) _).setCell ⟨g, _, none⟩ (.inl rfl) _
  obtain ⟨ca, hca⟩ := own_type h1 g rfl
  have hT : ∀ b, b < w.heap.size → tag b = tc → b = g → Mu w b := fun b _ _ e => by rw [e]; exact Mu.of_ne hca (by decide)
  refine ⟨((xs.set (i * 3) (.int .i64 r.wh)).set (i * 3 + 1) (.int .i64 r.ad)).set (i * 3 + 2) s, by rw [List.length_set, hl]; exact k3, h2, fun j r' hr => ?_⟩
  by_cases e : j = i
  · subst e
    rw [List.getElem?_set_self hi] at hr
    simp only [Option.some.injEq] at hr
    subst hr
    refine ⟨?_, ?_, s, ?_, hs.only ho hT (.inr (.inl rfl)) (fun _ _ e => e)⟩
    · rw [List.getElem?_set_ne (by omega), List.getElem?_set_ne (by omega), Nat.mul_comm, List.getElem?_set_self (by omega)]
    · rw [List.getElem?_set_ne (by omega), Nat.mul_comm, List.getElem?_set_self (by simp; omega)]
    · rw [Nat.mul_comm, List.getElem?_set_self (by simp; omega)]
  · rw [List.getElem?_set_ne (Ne.symm e)] at hr
    obtain ⟨y1, y2, s', y3, y4⟩ := h3 j r' hr
    refine ⟨?_, ?_, s', ?_, y4.only ho hT (.inr (.inl rfl)) (fun _ _ e => e)⟩
    · rw [List.getElem?_set_ne (by omega), List.getElem?_set_ne (by omega), List.getElem?_set_ne (by omega)]; exact y1
    · rw [List.getElem?_set_ne (by omega), List.getElem?_set_ne (by omega), List.getElem?_set_ne (by omega)]; exact y2
    · rw [List.getElem?_set_ne (by omega), List.getElem?_set_ne (by omega), List.getElem?_set_ne (by omega)]; exact y3
section
variable {w w0 w' : World} {tag tag' : Nat → Nat} {tc p q n m : Nat} {vo ce id : Int} {X X' : CX} {lv rv vv nv av pv vv' nv' av' ov cv ev ov' cv' ev' : Value} {bm born clk k gm : Nat} {c c' : PC}
theorem own_not_map {b : Nat} (hm : ∃ es k, w.heap[b]? = some (.map es k)) {base : Nat} {e : TypeId} {size : Nat} {v : Value} {l : Nat} {xs : List Value} (ho : w.ownsRow base e size v l xs) : v.ownBlock ≠ some b := by
  intro e'
  obtain ⟨cc, hc⟩ := own_type ho b e'
  obtain ⟨es, k, hb⟩ := hm
  rw [hb] at hc; simp at hc
/-- The results turn. -/
theorem ClK.reR (h : ClK w tag tc p q n m vo ce id X lv rv vv nv av bm born clk) {w1 : World} {rs : List Rz} (ho : Only (fun b => rv.ownBlock = some b) w w1) (hr : ResOk w1 tag tc rv rs) (hl : rs.length = X.res.length) :
    ClK w1 tag tc p q n m vo ce id { X with res := rs } lv rv vv nv av bm born clk := by
  obtain ⟨xs, h1, h2, _⟩ := h.res
  have hT : ∀ b, b < w.heap.size → tag b = tc → rv.ownBlock = some b → Mu w b := fun b _ _ e => by
    obtain ⟨ca, hca⟩ := own_type h1 b e
    exact Mu.of_ne hca (by decide)
  have ht : ∀ b, b < w.heap.size → tag b = tc → tag b = tc := fun _ _ e => e
  refine ⟨(ho.block p h.lp (own_ne_block h1 h.hp (by decide))).trans h.hp, h.tp, h.lay.only ho hT ht, hr, h.tb, (ho.block bm h.lb (own_not_map ⟨_, _, h.mp⟩ h1)).trans h.mp, h.bc, h.pr.only ho hT (fun b hb _ _ => own_not_map (h.pr.ans.map hb).2.2 h1) ht, h.nb, fun c hc => ?_⟩
  have := (h.call c hc).only ho hT (fun _ _ ⟨arr, ha⟩ => own_ne_block h1 ha (by decide)) (fun _ _ _ hm _ => own_not_map hm h1) ht
  rw [← hl] at this
  exact this
/-- Nothing is pending any more. -/
theorem ClK.noPend (h : ClK w tag tc p q n m vo ce id X lv rv vv nv av bm born clk) : ClK (setMap w bm (.map #[] clk)) tag tc p q n m vo ce id { X with pend := none } lv rv vv nv av bm born clk := by
  have ho := setMap_only w bm (.map #[] clk)
  have hT : ∀ b, b < w.heap.size → tag b = tc → b = bm → Mu w b := fun b _ _ e => by rw [e]; exact Mu.of_map h.mp
  have ht : ∀ b, b < w.heap.size → tag b = tc → tag b = tc := fun _ _ e => e
  exact ⟨(ho.block p h.lp fun e => map_ne ⟨_, _, h.mp⟩ h.hp e.symm).trans h.hp, h.tp, h.lay.only ho hT ht, h.res.only ho hT (fun b hb _ _ e => by
    obtain ⟨xs, h1, _⟩ := h.res
    exact own_not_map ⟨_, _, h.mp⟩ h1 (by rw [hb, e])) ht, h.tb, setMap_at h.lb _, .inr rfl, h.pr.only ho hT (fun b hb _ _ e => h.nb b hb (by rw [e])) ht, h.nb, fun c hc => by simp at hc⟩
set_option maxRecDepth 100000 in
set_option maxHeartbeats 4000000 in
theorem cl_end (h : ClK w tag tc p q n m vo ce id X lv rv vv nv av bm born clk) (hc : X.pend = some c) (r : Rz) (sa : Option Addr) (sc : Nat) (hs : Rd w tag tc 5 (.slice sa r.val.length sc) (r.val.map B8)) :
    Calls Tryz.prog 95 #[.pointer (some ⟨p, 0, none⟩), .pointer (some ⟨q, 0, none⟩), .agg #[.int .i64 r.wh, .int .i64 r.ad, .slice sa r.val.length sc]] w fun en w' => en = .returned (.tuple #[]) ∧ CStep w tag tc p q n m vo ce id (X.end' c r) w' := by
  obtain ⟨ov, cv, ev, v3, n3, a3, hk, hl, k2, k3⟩ := h.call c hc
  obtain ⟨W, hW⟩ : ∃ W, w.alloc (.cells #[.int .i64 r.wh, .int .i64 r.ad, .slice sa r.val.length sc] 43) = W := ⟨_, rfl⟩
  have bW := (Bl.refl w).alloc (.cells #[.int .i64 r.wh, .int .i64 r.ad, .slice sa r.val.length sc] 43)
  have hX := heap_alloc_new w (.cells #[.int .i64 r.wh, .int .i64 r.ad, .slice sa r.val.length sc] 43)
  rw [hW] at bW hX
  have hW1 := h.bl bW (tag' := tagTo tag w.heap.size tc) (fun b hb e => by rw [tagTo_old _ _ _ _ hb]; exact e)
  have hsW := hs.bl bW (tag' := tagTo tag w.heap.size tc) (fun b hb e => by rw [tagTo_old _ _ _ _ hb]; exact e)
  obtain ⟨xs, h1, h2, h3⟩ := hW1.res
  obtain ⟨g, cap, hrv⟩ : ∃ g cap, rv = .slice (some ⟨g, 0, none⟩) X.res.length cap := by
    rcases h1.2 with ⟨_, h0⟩ | ⟨g, cap, cur, e, _⟩
    · omega
    · exact ⟨g, cap, e⟩
  subst hrv
  have HR := hid (hW1.res.set rfl c.num hl r _ hsW)
  have HW1 := hid hW1
  have lgW := (h1.lt g rfl).2
  have lgw : g < w.heap.size := by
    obtain ⟨xs, h1', _⟩ := h.res
    exact (h1'.lt g rfl).2
  have tgg : tag g = tc := by
    obtain ⟨xs, _, h2', _⟩ := h.res
    exact h2' g rfl
  have xl : xs.length = X.res.length * 3 := h1.1
  have x0 : W.cell? ⟨g, c.num * 3, none⟩ = some xs[c.num * 3] := by rw [h1.cellAt _ (by omega), List.getElem?_eq_getElem]
  have x1 : W.cell? ⟨g, c.num * 3 + 1, none⟩ = some xs[c.num * 3 + 1] := by rw [h1.cellAt _ (by omega), List.getElem?_eq_getElem]
  have x2 : W.cell? ⟨g, c.num * 3 + 2, none⟩ = some xs[c.num * 3 + 2] := by rw [h1.cellAt _ (by omega), List.getElem?_eq_getElem]
  have f0 := h1.frozenAt (c.num * 3)
  have f1 := h1.frozenAt (c.num * 3 + 1)
  have f2 := h1.frozenAt (c.num * 3 + 2)
  obtain ⟨r0, r1, r2, lr⟩ := row3 hX
  have d7 := hW1.cellAt 7 rfl
  have d8 := hW1.cellAt 8 rfl
  obtain ⟨ov2, cv2, ev2, v32, n32, a32, hk2, _⟩ := hW1.call c hc
  have e1 := hk2.cellAt 1 rfl
  have lp := hW1.lp
  have lq := hk2.lt
  have ngp : g ≠ p := fun e => own_ne_block h1 hW1.hp (by decide) (by rw [e]; rfl)
  have ngq : g ≠ q := fun e => own_ne_block h1 hk2.hq (by decide) (by rw [e]; rfl)
  generalize xs[c.num * 3] = y0 at *
  generalize xs[c.num * 3 + 1] = y1 at *
  generalize xs[c.num * 3 + 2] = y2 at *
  have ngb : g ≠ w.heap.size := by omega
  have hn0 : (0 : Int) ≤ (c.num : Int) := by omega
  have hn1 : (c.num : Int) < (X.res.length : Int) := by omega
  have HT := hid (pq_tc h hk (Only.refl _ w))
  have HWW := hid hW
  have Hmu : Hid (Mu w g) := by
    obtain ⟨xs, h1', _⟩ := h.res
    obtain ⟨ca, hca⟩ := own_type h1' g rfl
    exact Mu.of_ne hca (by decide)
  have Hmb : Hid (Tc tag tc w bm) := ⟨h.tb, Mu.of_map h.mp⟩
  have lbw := h.lb
  have BW := hid bW
  clear h hk hk2 hW1 hsW h1 h2 h3 hW bW hX hs
  go_enter Tryz.func95, Tryz.ntmps95
  go_upto_region 1 with fail
  rw [HWW.out]
  clear HWW
  go_cut [] (fun wx => Hid (ClK wx (tagTo tag w.heap.size tc) tc p q n m vo ce id { X with res := X.res.set c.num r } lv (.slice (some ⟨g, 0, none⟩) X.res.length cap) vv nv av bm born clk) ∧ Hid (Only (fun b => b = g) W wx))
  case first =>
    go_region
    all_goals (go_wp2_with fail; go_meet)
    have ho : Only (fun b => b = g) W (((W.setCell ⟨g, c.num * 3, none⟩ (.int .i64 r.wh)).setCell ⟨g, c.num * 3 + 1, none⟩ (.int .i64 r.ad)).setCell ⟨g, c.num * 3 + 2, none⟩ (.slice sa r.val.length sc)) := (((Only.refl (fun b => b = g) W).setCell ⟨g, _, none⟩ (.inl rfl) _).setCell ⟨g, _, none⟩ (.inl rfl) _).setCell ⟨g, _, none⟩ (.inl rfl) _
    exact ⟨(HW1.out.reR (ho.mono fun b _ e => by rw [e]; rfl) HR.out (by simp)).bl ((Bl.refl _).drew) (fun _ _ e => e), ho.drew⟩
  case rest =>
    obtain ⟨HC, HO⟩ := hcut
    have j8 := HC.out.cellAt 8 rfl
    obtain ⟨ov2, cv2, ev2, v32, n32, a32, hk2, _⟩ := HC.out.call c hc
    have j1 := hk2.cellAt 1 rfl
    have lp3 := HC.out.lp
    have lq3 := hk2.lt
    have hmp := HC.out.mp
    simp only [hc, pendE] at hmp
    have hd1 := fun ty => del98 wc bm clk born c.num (.pointer (some ⟨q, 0, none⟩)) ty hmp
    have hd2 := fun ty => del98 wc.drew bm clk born c.num (.pointer (some ⟨q, 0, none⟩)) ty hmp
    clear hk2 hmp x0 x1 x2 f0 f1 f2 r0 r1 r2 d7 d8 e1
    go_upto_region 2 with fail
    go_region
    go_wp2
    go_end0
    have hfin := (HC.out.bl ((Bl.refl wc).drew) (tag' := tagTo tag w.heap.size tc) (fun _ _ e => e)).noPend
    refine ⟨rfl, Cl.of hfin, ?_⟩
    have O1 : Only (fun b => b = g ∨ b = bm) w (setMap wc.drew bm (.map #[] clk)) := (((Only.of_bl BW.out).trans (HO.out.mono fun _ _ e => .inl e)).trans (Only.of_bl ((Bl.refl wc).drew))).trans ((setMap_only wc.drew bm (.map #[] clk)).mono fun _ _ e => .inr e)
    exact O1.mono fun b _ e => by
      rcases e with rfl | rfl
      · exact ⟨tgg, Hmu.out⟩
      · exact Hmb.out
end
end Go.Proofs.YtnhjmiglegdamaaGreat

namespace Go.Proofs.YtnhjmiglegdamaaGreat
open Go.Shelf
def Tryz.keysA_ren : Go.Shelf.Ren := ⟨fun | 7 => 234 | 10 => 262 | n => n, fun | 23 => 98 | 26 => 3 | 3 => 159 | 28 => 315 | 0 => 0 | 27 => 314 | 33 => 128 | 4 => 4 | n => n, fun | n => n⟩
theorem Tryz.keysA : Go.Proofs.SlLaysZI.n7 Tryz.prog Tryz.keysA_ren := {
  mixed := by kernel_rfl
  f7 := ⟨Tryz.f234.name, by decide, Tryz.func234.trans (congrArg some (by kernel_rfl))⟩
  f10 := ⟨Tryz.f262.name, by decide, Tryz.func262.trans (congrArg some (by kernel_rfl))⟩
  t0 := Tryz.underlying0
  a0 := Tryz.isAgg0
  z0 := Tryz.sizeOf0
  v0 := Tryz.zeroValue0
  t4 := Tryz.underlying4
  a4 := Tryz.isAgg4
  z4 := Tryz.sizeOf4
  v4 := Tryz.zeroValue4
  t23 := Tryz.underlying98
  a23 := Tryz.isAgg98
  z23 := Tryz.sizeOf98
  v23 := Tryz.zeroValue98
  t26 := Tryz.underlying3
  a26 := Tryz.isAgg3
  z26 := Tryz.sizeOf3
  v26 := Tryz.zeroValue3
  t27 := Tryz.underlying314
  a27 := Tryz.isAgg314
  z27 := Tryz.sizeOf314
  v27 := Tryz.zeroValue314
  t28 := Tryz.underlying315
  a28 := Tryz.isAgg315
  z28 := Tryz.sizeOf315
  v28 := Tryz.zeroValue315
  t33 := Tryz.underlying128
  a33 := Tryz.isAgg128
  z33 := Tryz.sizeOf128
  v33 := Tryz.zeroValue128 }
def Tryz.sortedA_ren : Go.Shelf.Ren := ⟨fun | 6 => 233 | 8 => 261 | 9 => 94 | 11 => 281 | 13 => 155 | 12 => 154 | 23 => 202 | 24 => 203 | 14 => 193 | 15 => 194 | 16 => 195 | 17 => 196 | 18 => 197 | 19 => 198 | 20 => 199 | 21 => 200 | 22 => 201 | 25 => 235 | 26 => 236 | 27 => 237 | 28 => 238 | 29 => 239 | 30 => 240 | 31 => 263 | n => n, fun | 26 => 3 | 28 => 315 | 24 => 24 | 0 => 0 | 3 => 3 | 37 => 141 | 48 => 276 | 50 => 278 | 4 => 4 | 40 => 270 | 39 => 269 | 45 => 137 | 5 => 5 | 9 => 9 | 51 => 317 | 55 => 321 | 57 => 342 | 58 => 343 | 33 => 128 | n => n, fun | n => n⟩
theorem Tryz.sortedA : Go.Proofs.SlLaysZI.n6 Tryz.prog Tryz.sortedA_ren := {
  mixed := by kernel_rfl
  f6 := ⟨Tryz.f233.name, by decide, Tryz.func233.trans (congrArg some (by kernel_rfl))⟩
  f8 := ⟨Tryz.f261.name, by decide, Tryz.func261.trans (congrArg some (by kernel_rfl))⟩
  f11 := ⟨Tryz.f281.name, by decide, Tryz.func281.trans (congrArg some (by kernel_rfl))⟩
  t0 := Tryz.underlying0
  a0 := Tryz.isAgg0
  z0 := Tryz.sizeOf0
  v0 := Tryz.zeroValue0
  t24 := Tryz.underlying24
  a24 := Tryz.isAgg24
  z24 := Tryz.sizeOf24
  v24 := Tryz.zeroValue24
  t26 := Tryz.underlying3
  a26 := Tryz.isAgg3
  z26 := Tryz.sizeOf3
  v26 := Tryz.zeroValue3
  t28 := Tryz.underlying315
  a28 := Tryz.isAgg315
  z28 := Tryz.sizeOf315
  v28 := Tryz.zeroValue315
  i26 := by kernel_rfl }
def Tryz.growI_ren : Go.Shelf.Ren := ⟨fun | 4 => 260 | n => n, fun | 22 => 24 | 25 => 3 | 3 => 3 | 4 => 4 | 9 => 9 | 20 => 20 | 0 => 0 | n => n, fun | n => n⟩
theorem Tryz.growI : Go.Proofs.Lays8.n4 Tryz.prog Tryz.growI_ren := {
  mixed := by kernel_rfl
  f4 := ⟨Tryz.f260.name, by decide, Tryz.func260.trans (congrArg some (by kernel_rfl))⟩
  t0 := Tryz.underlying0
  a0 := Tryz.isAgg0
  z0 := Tryz.sizeOf0
  v0 := Tryz.zeroValue0
  t3 := Tryz.underlying3
  a3 := Tryz.isAgg3
  z3 := Tryz.sizeOf3
  v3 := Tryz.zeroValue3
  t4 := Tryz.underlying4
  a4 := Tryz.isAgg4
  z4 := Tryz.sizeOf4
  v4 := Tryz.zeroValue4
  t9 := Tryz.underlying9
  a9 := Tryz.isAgg9
  z9 := Tryz.sizeOf9
  v9 := Tryz.zeroValue9
  t20 := Tryz.underlying20
  a20 := Tryz.isAgg20
  z20 := Tryz.sizeOf20
  v20 := Tryz.zeroValue20
  t22 := Tryz.underlying24
  a22 := Tryz.isAgg24
  z22 := Tryz.sizeOf24
  v22 := Tryz.zeroValue24 }
end Go.Proofs.YtnhjmiglegdamaaGreat

namespace Go.Proofs.YtnhjmiglegdamaaGreat
open Go.RowKit Go.Maps
attribute [local go_sem ↓] Go.wp_at_zero Go.wp_at_succ
theorem grow_nil (k : Nat) (w : World) (h0 : 0 < k) (h1 : k ≤ 100) :
    Calls Tryz.prog 260 #[.slice none 0 0, .int .i64 k] w fun e w' => ∃ g cap, e = .returned (.slice (some ⟨g, 0, none⟩) 0 cap) ∧ w'.ownsRow w.heap.size 3 1 (.slice (some ⟨g, 0, none⟩) 0 cap) 0 [] ∧ Bl w w' := by
  obtain ⟨i3, ji, jz0, jz1, jz2⟩ := info_parts Tryz.info3
  refine (Any8.slices_Grow_grow Tryz.growI i3 (.int .i64 0) ji jz0 (by rw [jz1]; decide) none 0 0 k [] w (by omega) (by omega) (by rw [jz2]; omega) (by omega) (by simp) (fun _ => rfl) (fun a e => by simp at e)).mono ?_
  rintro e w' ⟨rfl, rfl⟩
  refine ⟨_, _, rfl, ?_, ((Bl.refl w).drew).alloc _⟩
  have hc1 := grownCap_ge w (0 + k) 0 3
  have hc2 := grownCap_le_maxLen w (0 + k) 0 3 (by unfold maxLen; omega)
  change (_ : World).ownsRow w.heap.size 3 1 (.slice (some ⟨w.heap.size, 0, none⟩) 0 (grownCap w (0 + k) 0 3)) 0 []
  refine ⟨rfl, .inr ⟨w.heap.size, _, _, rfl, Nat.le_refl _, heap_alloc_new w.drew _, Nat.zero_le _, hc2, ?_, by simp⟩⟩
  have hz : ∀ j, (Builtin.zeroCells (Value.int .i64 0).cells j).size = j := fun j => by
    rw [size_zeroCells]; exact Nat.mul_one j
  change (#[] ++ Builtin.zeroCells (Value.int .i64 0).cells (0 + k - 0) ++ Builtin.zeroCells (Value.int .i64 0).cells (grownCap w (0 + k) 0 3 - (0 + k))).size = grownCap w (0 + k) 0 3 * 1
  rw [Array.size_append, Array.size_append, hz, hz]
  simp
  simp at hc1
  omega
theorem range_next (j m : Nat) : (List.range (j * m)).map (fun (i : Nat) => Value.int .i64 i) ++ (List.range m).map (fun (i : Nat) => Value.int .i64 (j * m + i)) = (List.range ((j + 1) * m)).map (fun (i : Nat) => Value.int .i64 i) := by
  apply List.ext_getElem
  · simp [Nat.add_mul]
  · intro i h1 h2
    by_cases h : i < j * m
    · rw [List.getElem_append_left (by simpa using h)]; simp
    · rw [List.getElem_append_right (by simpa using h)]
      simp
      omega
set_option maxRecDepth 100000 in
set_option maxHeartbeats 4000000 in
theorem concat_any {w : World} {tag : Nat → Nat} {tc n m : Nat} {v : Value} (h : LayOk w tag tc v n m) (n1 : 1 ≤ n) (n3 : n ≤ 3) (m1 : 1 ≤ m) (m3 : m ≤ 3) :
    Calls Tryz.prog 232 #[v] w fun e w' => ∃ g cap, e = .returned (.slice (some ⟨g, 0, none⟩) (n * m) cap) ∧ w'.ownsRow w.heap.size 3 1 (.slice (some ⟨g, 0, none⟩) (n * m) cap) (n * m) ((allOf n m).map (Value.int .i64)) ∧ Bl w w' := by
  obtain ⟨i3, ji, jz0, jz1, jz2⟩ := info_parts Tryz.info3
  obtain ⟨g, arr, rfl, tg, hg, hx⟩ := h
  have lg := (Array.getElem?_eq_some_iff.1 hg).1
  have Hrow : Hid (∀ j : Nat, j < n → ∃ b o c, w.cell? ⟨g, j, none⟩ = some (.slice (some ⟨b, o, none⟩) m c) ∧ b < w.heap.size ∧ ∀ k u, ((List.range m).map fun (i : Nat) => Value.int .i64 (j * m + i))[k]? = some u → w.cell? ⟨b, o + k, none⟩ = some u) := fun j hj => by
    obtain ⟨x, h1, h2⟩ := hx j hj
    obtain ⟨b, o, c, rfl, lb, _, _, hcell⟩ := h2.cell (by simp; omega)
    rw [List.length_map, List.length_range] at h1
    exact ⟨b, o, c, by rw [cell_of_row w g j arr 24 (0, 0) hg]; exact h1, lb, fun k u hk => hcell k u hk⟩
  have hmul : n * m ≤ 9 := Nat.le_trans (Nat.mul_le_mul n3 m3) (by decide)
  have hpos : 0 < n * m := Nat.mul_pos n1 m1
  have HG := hid (fun w => grow_nil (n * m) w hpos (by omega))
  clear hx hg
  go_enter Tryz.func232, Tryz.ntmps232
  go_wp2
  go_loop [3, 11] (fun s i => ∃ j : Nat, j ≤ n ∧ i = .int .i64 j ∧ s = .int .i64 (j * m : Nat)) (fun _ i => n - (Go.RowKit.intOf i).toNat)
  case atStart => exact ⟨0, Nat.zero_le _, rfl, by simp⟩
  case round =>
    obtain ⟨j, hj, rfl, rfl⟩ := hrel
    by_cases hlt : j < n
    · obtain ⟨b, o, c, h1, lb, h2⟩ := Hrow.out j hlt
      have hjm : j * m ≤ 9 := Nat.le_trans (Nat.mul_le_mul hj (Nat.le_refl m)) hmul
      have hjm2 : (j * m : Nat) + m ≤ 12 := by omega
      have hs : ((j + 1) * m : Nat) = j * m + m := by rw [Nat.add_mul]; omega
      have hltI : (j : Int) < (n : Int) := by omega
      generalize j * m = jm at *
      have Hs := hid hs
      clear hs h2
      go_wp2
      go_round
      case rel => exact ⟨j + 1, by omega, by go_num, by rw [Hs.out]; go_num⟩
      case measure => simp [Go.RowKit.intOf]; omega
    · have hjn : j = n := by omega
      subst hjn
      go_wp2_with fail
      refine (HG.out _).mono ?_
      rintro e w1 ⟨g1, cap1, rfl, ho1, hb1⟩
      have Ho1 := hid ho1
      have Hb1 := hid hb1
      clear ho1 hb1 HG
      go_wp2
      go_loopw [6, 27] (fun d i wr => ∃ k : Nat, k ≤ j ∧ i = .int .i64 k ∧ (∃ g2 cap2, d = .slice (some ⟨g2, 0, none⟩) (k * m) cap2 ∧ Hid (wr.ownsRow w.heap.size 3 1 (.slice (some ⟨g2, 0, none⟩) (k * m) cap2) (k * m) ((List.range (k * m)).map (fun (i : Nat) => Value.int .i64 i)))) ∧ Hid (Bl w wr)) (fun _ i _ => j - (Go.RowKit.intOf i).toNat)
      case atStart => exact ⟨0, Nat.zero_le _, rfl, ⟨g1, cap1, by simp, by unfold Hid; simpa using Ho1.out⟩, Hb1.out⟩
      case round =>
        obtain ⟨k, hk, rfl, ⟨g2, cap2, rfl, Ho2⟩, Hb2⟩ := hrel
        by_cases hlt : k < j
        · obtain ⟨b, o, c, h1, lb, h2⟩ := Hrow.out k hlt
          have hkm : k * m ≤ 9 := Nat.le_trans (Nat.mul_le_mul hk (Nat.le_refl m)) hmul
          have Hs : Hid ((k + 1) * m = k * m + m) := by unfold Hid; rw [Nat.add_mul]; omega
          have Hr := hid (range_next k m)
          have hltI : (k : Int) < (j : Int) := by omega
          have d1 := (Hb2.out.cell lg).trans h1
          have lgr := Nat.lt_of_lt_of_le lg Hb2.out.lt
          have lwr := Hb2.out.lt
          have hnews : Hid (∀ i u, ((List.range m).map fun (i : Nat) => Value.int .i64 (k * m + i))[i]? = some u → wr.cell? ((⟨b, o, none⟩ : Addr).add i) = some u) := fun i u hu => by rw [add_eq, Hb2.out.cell lb]; exact h2 i u hu
          have hone : Hid (∀ u ∈ ((List.range m).map fun (i : Nat) => Value.int .i64 (k * m + i)), u.oneCell' = true) := fun u hu => by
            obtain ⟨i, _, rfl⟩ := List.mem_map.1 hu
            rfl
          have hml : Hid (k * m + m ≤ maxLen) := by unfold Hid maxLen; omega
          have hby : Hid ((k * m + m) * 8 ≤ 140737488355328) := by unfold Hid; omega
          clear h2 h1
          go_wp2_with (at_builtin; refine wpList_append_lies _ rfl _ _ 24 rfl w.heap.size 3 i3 (.int .i64 0) 1 8 Tryz.underlying24 ji jz0 jz1 jz2 rfl (by decide) _ (k * m) _ rfl Ho2.out ⟨b, o, none⟩ m c _ rfl (by simp) hnews.out hone.out m1 hml.out hby.out lwr wr.heap.size rfl ?_)
          intro g' cap' w3 hown hgrow hat hlt'
          have HB3 : Hid (Bl w w3) := Hb2.out.trans_only (Only.of_grown hgrow) fun b e => (Ho2.out.lt b e.symm).1
          have HO3 : Hid (w3.ownsRow w.heap.size 3 1 (.slice (some ⟨g', 0, none⟩) ((k + 1) * m) cap') ((k + 1) * m) ((List.range ((k + 1) * m)).map (fun (i : Nat) => Value.int .i64 i))) := by
            unfold Hid
            rw [← Hr.out, Hs.out]; exact hown
          clear hown hgrow hat
          go_wp2
          go_roundw
          case rel => exact ⟨k + 1, by omega, by go_num, ⟨g', cap', by rw [Hs.out], HO3⟩, HB3⟩
          case measure => simp [Go.RowKit.intOf]; omega
        · have hkj : k = j := by omega
          subst hkj
          go_wp2
          go_ret
          refine ⟨g2, cap2, rfl, ?_, Hb2.out⟩
          have e : (allOf k m).map (Value.int .i64) = (List.range (k * m)).map (fun (i : Nat) => Value.int .i64 i) := by simp [allOf, Function.comp_def]
          rw [e]; exact Ho2.out
set_option maxRecDepth 100000 in
theorem all_any {w : World} {tag : Nat → Nat} {tc n m : Nat} {v : Value} (h : LayOk w tag tc v n m) (n1 : 1 ≤ n) (n3 : n ≤ 3) (m1 : 1 ≤ m) (m3 : m ≤ 3) :
    Calls Tryz.prog 188 #[v] w fun e w' => ∃ g cap, e = .returned (.slice (some ⟨g, 0, none⟩) (n * m) cap) ∧ w'.ownsRow w.heap.size 3 1 (.slice (some ⟨g, 0, none⟩) (n * m) cap) (n * m) ((allOf n m).map (Value.int .i64)) ∧ Bl w w' := by
  have H := hid (concat_any h n1 n3 m1 m3)
  obtain ⟨g0, arr, rfl, _⟩ := h
  go_enter Tryz.func188, Tryz.ntmps188
  go_wp2_with (go_at_call 232; refine H.out.mono ?_; rintro e w2 ⟨g, cap, rfl, ho, hb⟩; have HO := hid ho; have HB := hid hb; clear H ho hb)
  go_ret
  exact ⟨g, cap, rfl, HO.out, HB.out⟩
section
variable {w w0 w' : World} {tag tag' : Nat → Nat} {tc p q n m : Nat} {vo ce id : Int} {X X' : CX} {lv rv vv nv av pv vv' nv' av' ov cv ev ov' cv' ev' : Value} {bm born clk k gm : Nat} {c c' : PC}
set_option maxHeartbeats 1000000 in
/-- How the call will end. -/
theorem ClK.setE (h : ClK w tag tc p q n m vo ce id X lv rv vv nv av bm born clk) (hc : X.pend = some c) (wh ad : Int) : ClK (puts w q 13 [.int .i64 wh, .int .i64 ad, .slice none 0 0]) tag tc p q n m vo ce id { X with pend := some { c with e := ⟨wh, ad, []⟩ } } lv rv vv nv av bm born clk := by
  obtain ⟨ov, cv, ev, v3, n3, a3, hk, hl, k2, k3⟩ := h.call c hc
  have ho : Only (fun b => b = q) w (puts w q 13 [.int .i64 wh, .int .i64 ad, .slice none 0 0]) := puts_only (S := fun b => b = q) (.inl rfl) _ 13 w (Only.refl _ w)
  exact h.reQ hc hk ho (hk.re (c' := { c with e := ⟨wh, ad, []⟩ }) ho (puts_heap _ 13 w _ hk.hq) hk.own hk.cont Rd.nil hk.q) hl rfl k2 k3
theorem Cl.step (h : ClK w tag tc p q n m vo ce id X lv rv vv nv av bm born clk) (hk : CallOk w tag tc q c ov cv ev vv' nv' av') (k : Cl w' (tagTo tag w.heap.size tc) tc p q n m vo ce id X') (ho : Only (fun b => b = p ∨ b = q) w w') : CStep w tag tc p q n m vo ce id X' w' := ⟨k, pq_tc h hk ho⟩
set_option maxRecDepth 100000 in
set_option maxHeartbeats 4000000 in
theorem cl_lay (h : ClK w tag tc p q n m vo ce id X lv rv vv nv av bm born clk) (hc : X.pend = some c) (hf : fit n m vo ce = true) (ha : 0 ≤ X.asked) (hb : X.asked ≤ 1000000) (mark wh ad : Int) :
    Calls Tryz.prog 149 #[.pointer (some ⟨p, 0, none⟩), .pointer (some ⟨q, 0, none⟩), .int .i64 mark, .agg #[.int .i64 wh, .int .i64 ad, .slice none 0 0]] w fun en w' => en = .returned (.tuple #[]) ∧ CStep w tag tc p q n m vo ce id (X.lay n m c mark ⟨wh, ad, []⟩) w' := by
  obtain ⟨f1, f2, _, _⟩ := fit_bd hf
  obtain ⟨f3, f4⟩ := fit_bd2 hf
  obtain ⟨ov, cv, ev, v3, n3, a3, hk, hl, k2, k3⟩ := h.call c hc
  obtain ⟨W, hW⟩ : ∃ W, w.alloc (.cells #[.int .i64 wh, .int .i64 ad, .slice none 0 0] 43) = W := ⟨_, rfl⟩
  have bW := (Bl.refl w).alloc (.cells #[.int .i64 wh, .int .i64 ad, .slice none 0 0] 43)
  have hX := heap_alloc_new w (.cells #[.int .i64 wh, .int .i64 ad, .slice none 0 0] 43)
  rw [hW] at bW hX
  obtain ⟨r0, r1, r2, lr⟩ := row3 hX
  have hW1 := h.bl bW (tag' := tagTo tag w.heap.size tc) (fun b hb e => by rw [tagTo_old _ _ _ _ hb]; exact e)
  obtain ⟨ov2, cv2, ev2, v32, n32, a32, hk2, _⟩ := hW1.call c hc
  have H1 := hW1.setE hc wh ad
  have O1 : Only (fun b => b = p ∨ b = q) w (puts W q 13 [.int .i64 wh, .int .i64 ad, .slice none 0 0]) := (Only.of_bl bW).trans ((puts_only (S := fun b => b = q) (.inl rfl) [.int .i64 wh, .int .i64 ad, .slice none 0 0] 13 W (Only.refl _ W)).mono fun _ _ e => .inr e)
  have S1 := hid (Cl.step h hk (Cl.of H1) O1)
  have e13 := hk2.cellAt 13 rfl
  have e14 := hk2.cellAt 14 rfl
  have e15 := hk2.cellAt 15 rfl
  have g13 := hk2.frz 13
  have g14 := hk2.frz 14
  have g15 := hk2.frz 15
  have lq := hk2.lt
  have nq : q ≠ w.heap.size := by have := hk.lt; omega
  obtain ⟨W1, hW1e⟩ : ∃ W1, puts W q 13 [.int .i64 wh, .int .i64 ad, .slice none 0 0] = W1 := ⟨_, rfl⟩
  rw [hW1e] at H1 O1 S1
  have d6 := H1.cellAt 6 rfl
  have lp1 := H1.lp
  have HL := hid (all_any H1.lay (by omega) (by omega) (by omega) (by omega))
  have HA : Hid (∀ W2, Bl W1 W2 → ∀ g cap, W2.ownsRow W1.heap.size 3 1 (.slice (some ⟨g, 0, none⟩) (n * m) cap) (n * m) ((allOf n m).map (Value.int .i64)) → Calls Tryz.prog 187 #[.pointer (some ⟨p, 0, none⟩), .pointer (some ⟨q, 0, none⟩), .slice (some ⟨g, 0, none⟩) (n * m) cap, .agg #[.int .i64 4, .int .i64 0, .int .i64 0, .int .i64 mark, .int .i64 0, .int .i64 0, .int .i64 0, .slice none 0 0]] W2 fun en w' => en = .returned (.tuple #[]) ∧ CStep w tag tc p q n m vo ce id (X.lay n m c mark ⟨wh, ad, []⟩) w') := fun W2 hb2 g cap ho => by
    have hl : (allOf n m).length = n * m := by simp [allOf]
    have l1 := O1.size
    have := cl_ask (H1.bl hb2 (tag' := tagTo tag w.heap.size tc) (fun _ _ e => e)) rfl ha hb 4 mark 0 0 0 [] (allOf n m) none (some ⟨g, 0, none⟩) 0 cap Rd.nil (by rw [hl]; exact Rd.of_own ho fun b hb' => tagTo_new _ _ _ _ (Nat.le_trans l1 (ho.lt b hb').1))
    rw [hl] at this
    exact this.mono fun en w' ⟨e1, e2⟩ => ⟨e1, (S1.out.post hb2).trans e2⟩
  have HLay := hid h.lay
  have HE := hid hW1e
  have HWW := hid hW
  clear h hk hW1 hk2 H1 O1 hW bW hX hW1e
  go_enter Tryz.func149, Tryz.ntmps149
  go_upto_region 1 with fail
  rw [HWW.out]
  clear HWW
  go_upto_region 2 with fail
  have HE2 : ((W.setCell ⟨q, 13, none⟩ (.int .i64 wh)).setCell ⟨q, 14, none⟩ (.int .i64 ad)).setCell ⟨q, 15, none⟩ (.slice none 0 0) = W1 := HE.out
  rw [HE2]
  clear HE HE2 e13 e14 e15 g13 g14 g15 r0 r1 r2
  obtain ⟨gl, al, rfl, _⟩ : ∃ gl al, lv = .slice (some ⟨gl, 0, none⟩) n n ∧ al = gl := by
    obtain ⟨g, arr, e, _⟩ := HLay.out
    exact ⟨g, g, e, rfl⟩
  go_wp2_with (first | (go_at_call 188; refine HL.out.mono ?_; rintro en w2 ⟨g, cap, rfl, ho, hb2⟩; have HO := hid ho; have HB := hid hb2; clear ho hb2 HL) | (go_at_call 187; refine (HA.out _ HB.out _ _ HO.out).mono ?_; rintro en w3 ⟨rfl, hs⟩; have HS := hid hs; clear hs))
  go_end0
  exact ⟨rfl, HS.out⟩
end
end Go.Proofs.YtnhjmiglegdamaaGreat
