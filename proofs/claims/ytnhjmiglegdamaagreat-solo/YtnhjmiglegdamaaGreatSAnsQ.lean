-- A unit answers a request.
import Derived.Test.YtnhjmiglegdamaaGreatSBytSUnitQ
import Derived.Deep.RegionHeld3
import Derived.Deep.DeepCutAuto
import Derived.MapKept
namespace Go.Proofs.YtnhjmiglegdamaaGreat
open Go.RowKit Go.Maps
attribute [local go_sem ↓] Go.wp_at_zero Go.wp_at_succ

theorem make386 (w : World) : (Instr.makeMap 386 none).run Tryz.prog w = .ok (.map (some w.heap.size)) (w.alloc (.map #[] 0)) := by kernel_rfl
theorem alloc_set (W : World) (o o' : Go.Obj) : ({ (W.alloc o) with heap := (W.alloc o).heap.setIfInBounds W.heap.size o' } : World) = W.alloc o' := by
  show ({ (W.alloc o) with heap := (W.heap.push o).setIfInBounds W.heap.size o' } : World) = W.alloc o'
  have : (W.heap.push o).setIfInBounds W.heap.size o' = W.heap.push o' := by
    apply Array.ext
    · simp
    · intro i h1 h2
      by_cases h : i = W.heap.size
      · subst h; simp
      · simp at h1
        rw [Array.getElem_setIfInBounds_ne (by simpa using h1) (Ne.symm h), Array.getElem_push_lt (by omega), Array.getElem_push_lt (by omega)]
  rw [this]
  rfl
theorem put386 (W : World) (g : Nat) (es : Array MapEntry) (n : Nat) (k : Int) (f : Value) (hg : g = W.heap.size) (hn : Instr.findNow (.int .i64) (.int .i64 k) es.toList 0 = some none) :
    (Instr.mapUpdate 386 (.map (some g)) (.int .i64 k) f).run Tryz.prog (W.alloc (.map es n)) = .ok () (W.alloc (.map (es.push ⟨.int .i64 k, f, n⟩) (n + 1))) := by
  subst hg
  have hb : (W.alloc (.map es n)).heap[W.heap.size]? = some (.map es n) := heap_alloc_new W _
  have h1 := MapKept.run_findKey (P := Tryz.prog) (w := W.alloc (.map es n)) Tryz.underlying3 hn
  have h2 := MapKept.run_checkKey (P := Tryz.prog) (w := W.alloc (.map es n)) (k := .int .i64 k) Tryz.underlying3 (by simp [MapKept.IsKey]) false 9999
  simp only [Instr.mapUpdate, Sem.run_bind, run_underlying Tryz.underlying386, Result.andThen, MapKept.run_getObj_map hb, h2, h1]
  rw [MapKept.run_setObj_map _ hb, alloc_set]
/-- The table of a unit's methods. -/
def tab : Array MapEntry := #[⟨.int .i64 1, (Value.func (Fn.func 329) #[] #[]), 0⟩, ⟨.int .i64 2, (Value.func (Fn.func 330) #[] #[]), 1⟩, ⟨.int .i64 3, (Value.func (Fn.func 331) #[] #[]), 2⟩, ⟨.int .i64 4, (Value.func (Fn.func 332) #[] #[]), 3⟩]
theorem look386 (w : World) (g : Nat) (k : Int) (i : Nat) (f : Value) (hb : w.heap[g]? = some (.map tab 4)) (hf : Instr.findNow (.int .i64) (.int .i64 k) tab.toList 0 = some (some (i, f))) :
    (Instr.lookup 386 (.map (some g)) (.int .i64 k) true).run Tryz.prog w = .ok (.tuple #[f, .bool true]) w := by
  have h1 := MapKept.run_findKey (P := Tryz.prog) (w := w) Tryz.underlying3 hf
  have h2 := MapKept.run_checkKey (P := Tryz.prog) (w := w) (k := .int .i64 k) Tryz.underlying3 (by simp [MapKept.IsKey]) tab.isEmpty 9999
  simp [Instr.lookup, Sem.run_bind, run_underlying Tryz.underlying386, Result.andThen, MapKept.run_getObj_map hb, h2, h1]
theorem own_bs {w : World} {base : Nat} {u : Value} {n : Nat} {ys : List Int} (h : w.ownsRow base 5 1 u n (ys.map B8)) : Bs w u (ys.map B8) := by
  have hn := h.1
  rcases h.2 with ⟨e1, e2⟩ | ⟨g, cap, cur, e1, _⟩
  · exact .inl ⟨e1, List.length_eq_zero_iff.1 (by omega)⟩
  · subst e1
    exact .inr ⟨⟨g, 0, none⟩, cap, by congr 1; simpa using hn.symm, fun j u hj => by rw [add_eq, Nat.zero_add, h.cellAt j (by have := (List.getElem?_eq_some_iff.1 hj).1; omega)]; exact hj⟩
theorem ans_end {w W W' w2 w3 : World} {tag tag' : Nat → Nat} {tg p : Nat} {a b c d ch nr : Int} {rs rs' : List Rc} {S S' : Nat → St} {R : An × St} {ba : Option Addr} {bc : Nat} (b3 : Bl w W) (hs3 : W.heap.size = w.heap.size + 1 + 1 + 1) (hold : ∀ g, g < W'.heap.size → tag' g = tagTo tag w.heap.size 3 g) (hM : MoreK rs S rs' S') (hE : S' rs'.length = R.2) (hsz : (flat rs').length ≤ (flat rs).length + 60) (hkt : Kt w2 tag' tg p a b c d ch rs' S') (O : Only (fun g => tagTo tag w.heap.size 3 g = tg) W' w2) (hb : Bl w2 w3) (ho : w3.ownsRow w2.heap.size 5 1 (.slice ba (recB 101 [nr, R.1.wh, R.1.ep, R.1.mark, R.1.ct.kd, R.1.ct.cl, R.1.ct.ca] R.1.ct.val).length bc) (recB 101 [nr, R.1.wh, R.1.ep, R.1.mark, R.1.ct.kd, R.1.ct.cl, R.1.ct.ca] R.1.ct.val).length ((recB 101 [nr, R.1.wh, R.1.ep, R.1.mark, R.1.ct.kd, R.1.ct.cl, R.1.ct.ca] R.1.ct.val).map B8)) (hWW : Bl W W') :
    ∃ ba' bc' rs' S' tag', (Ending.returned (.tuple #[.slice ba (recB 101 [nr, R.1.wh, R.1.ep, R.1.mark, R.1.ct.kd, R.1.ct.cl, R.1.ct.ca] R.1.ct.val).length bc, .bool true]) : Ending) = .returned (.tuple #[.slice ba' (recB 101 [nr, R.1.wh, R.1.ep, R.1.mark, R.1.ct.kd, R.1.ct.cl, R.1.ct.ca] R.1.ct.val).length bc', .bool true]) ∧ w3.ownsRow w.heap.size 5 1 (.slice ba' (recB 101 [nr, R.1.wh, R.1.ep, R.1.mark, R.1.ct.kd, R.1.ct.cl, R.1.ct.ca] R.1.ct.val).length bc') (recB 101 [nr, R.1.wh, R.1.ep, R.1.mark, R.1.ct.kd, R.1.ct.cl, R.1.ct.ca] R.1.ct.val).length ((recB 101 [nr, R.1.wh, R.1.ep, R.1.mark, R.1.ct.kd, R.1.ct.cl, R.1.ct.ca] R.1.ct.val).map B8) ∧ (∀ g, (Value.slice ba' (recB 101 [nr, R.1.wh, R.1.ep, R.1.mark, R.1.ct.kd, R.1.ct.cl, R.1.ct.ca] R.1.ct.val).length bc').ownBlock = some g → tag' g = 4) ∧ (∀ g, g < w.heap.size → tag' g = tag g) ∧ MoreK rs S rs' S' ∧ S' rs'.length = R.2 ∧ (flat rs').length ≤ (flat rs).length + 60 ∧ Kt w3 tag' tg p a b c d ch rs' S' ∧ Only (fun g => tag g = tg) w w3 := by
  have s1 := hWW.lt
  have s2 := O.size
  have s3 := hb.lt
  refine ⟨ba, bc, rs', S', tagTo tag' w2.heap.size 4, rfl, ownsRow_base ho fun g hg => ?_, fun g hg => tagTo_new _ _ _ _ (ho.lt g hg).1, fun g hg => ?_, hM, hE, hsz, hkt.only (Only.of_bl (S := fun _ => False) hb) (fun _ _ e => e.elim) (fun g hg => tagTo_old _ _ _ _ hg), ?_⟩
  · have h1 := (ho.lt g hg).1
    omega
  · rw [tagTo_old _ _ _ _ (by omega), hold g (by omega), tagTo_old _ _ _ _ hg]
  · refine ⟨hb.os.trans (O.os.trans (hWW.os.trans b3.os)), hb.tape.trans (O.tape.trans (hWW.tape.trans b3.tape)), hb.output.trans (O.output.trans (hWW.output.trans b3.output)), by omega, fun i hi hn => ?_⟩
    rw [hb.heap (by omega), O.block i (by omega) fun e => hn (by rw [tagTo_old _ _ _ _ hi] at e; exact e), hWW.heap (by omega), b3.heap hi]
/-- A request that a unit can be asked, and what comes of it. -/
def ansA (a b c d ch : Int) (s : St) (kd e x ck cl ca : Int) (ys : List Int) : An × St :=
  if kd = 1 then sealA s e else if kd = 2 then writeA a b c d ch s e x ck cl ca ys else if kd = 3 then readA a b c d ch s e x else trimA s e x
section
variable {w : World} {tag : Nat → Nat} {tg p : Nat} {a b c d ch : Int} {rs : List Rc} {S : Nat → St}
theorem unit_any (h : Kt w tag tg p a b c d ch rs S) (htg : tg ≠ 3) (kd nr e x ck cl ca : Int) (hkd : kd = 1 ∨ kd = 2 ∨ kd = 3 ∨ kd = 4) (va : Option Addr) (vc : Nat) (ys : List Int) (hwf : (Lit.int .i64 e).wf = true) (hxf : (Lit.int .i64 x).wf = true) (hkf : (Lit.int .i64 ck).wf = true) (hcf : (Lit.int .i64 cl).wf = true) (haf : (Lit.int .i64 ca).wf = true) (hv : Bs w (.slice va ys.length vc) (ys.map B8)) (hvb : ∀ g, (Value.slice va ys.length vc).ownBlock = some g → g < w.heap.size ∧ tag g ≠ tg) (hys : Byt ys) (hc : kd = 2 → isC ck ys.length = true) (hl : (flat rs).length ≤ 30000000) :
    UCall (328 + kd.toNat) #[.agg #[.pointer (some ⟨p, 0, none⟩)], .agg #[.int .i64 kd, .int .i64 nr, .int .i64 e, .int .i64 x, .int .i64 ck, .int .i64 cl, .int .i64 ca, .slice va ys.length vc]] w tag tg p a b c d ch rs S (ansA a b c d ch (S rs.length) kd e x ck cl ca ys) := by
  rcases hkd with rfl | rfl | rfl | rfl
  · exact unit_seal h htg 1 nr e x ck cl ca va vc ys hwf hl
  · exact unit_write h htg 2 nr e x ck cl ca va vc ys hwf hxf hkf hcf haf hv hvb hys (hc rfl) hl
  · exact unit_read h htg 3 nr e x ck cl ca va vc ys hwf hl
  · exact unit_trim h htg 4 nr e x ck cl ca va vc ys hwf hxf hl

set_option maxRecDepth 100000 in
set_option maxHeartbeats 4000000 in
theorem answer_any (h : Kt w tag tg p a b c d ch rs S) (htg : tg ≠ 3) (kd nr e x ck cl ca : Int) (hkd : kd = 1 ∨ kd = 2 ∨ kd = 3 ∨ kd = 4) (va : Option Addr) (vc : Nat) (ys : List Int) (hwf : (Lit.int .i64 e).wf = true) (hxf : (Lit.int .i64 x).wf = true) (hkf : (Lit.int .i64 ck).wf = true) (hcf : (Lit.int .i64 cl).wf = true) (haf : (Lit.int .i64 ca).wf = true) (hv : Bs w (.slice va ys.length vc) (ys.map B8)) (hvb : ∀ g, (Value.slice va ys.length vc).ownBlock = some g → g < w.heap.size ∧ tag g ≠ tg) (hys : Byt ys) (hc : kd = 2 → isC ck ys.length = true) (hl : (flat rs).length ≤ 30000000) (R : An × St) (hR : R = ansA a b c d ch (S rs.length) kd e x ck cl ca ys) (hRl : R.1.ct.val.length ≤ 255) :
    Calls Tryz.prog 328 #[.agg #[.pointer (some ⟨p, 0, none⟩)], .agg #[.int .i64 kd, .int .i64 nr, .int .i64 e, .int .i64 x, .int .i64 ck, .int .i64 cl, .int .i64 ca, .slice va ys.length vc]] w fun en w' => ∃ ba bc rs' S' tag', en = .returned (.tuple #[.slice ba (recB 101 [nr, R.1.wh, R.1.ep, R.1.mark, R.1.ct.kd, R.1.ct.cl, R.1.ct.ca] R.1.ct.val).length bc, .bool true]) ∧ w'.ownsRow w.heap.size 5 1 (.slice ba (recB 101 [nr, R.1.wh, R.1.ep, R.1.mark, R.1.ct.kd, R.1.ct.cl, R.1.ct.ca] R.1.ct.val).length bc) (recB 101 [nr, R.1.wh, R.1.ep, R.1.mark, R.1.ct.kd, R.1.ct.cl, R.1.ct.ca] R.1.ct.val).length ((recB 101 [nr, R.1.wh, R.1.ep, R.1.mark, R.1.ct.kd, R.1.ct.cl, R.1.ct.ca] R.1.ct.val).map B8) ∧ (∀ g, (Value.slice ba (recB 101 [nr, R.1.wh, R.1.ep, R.1.mark, R.1.ct.kd, R.1.ct.cl, R.1.ct.ca] R.1.ct.val).length bc).ownBlock = some g → tag' g = 4) ∧ (∀ g, g < w.heap.size → tag' g = tag g) ∧ MoreK rs S rs' S' ∧ S' rs'.length = R.2 ∧ (flat rs').length ≤ (flat rs).length + 60 ∧ Kt w' tag' tg p a b c d ch rs' S' ∧ Only (fun g => tag g = tg) w w' := by
  have hmk := make386
  have q1 := put386 ((w.alloc (.cells #[.pointer (some ⟨p, 0, none⟩)] 228)).alloc (.cells #[.int .i64 kd, .int .i64 nr, .int .i64 e, .int .i64 x, .int .i64 ck, .int .i64 cl, .int .i64 ca, .slice va ys.length vc] 100)) (w.heap.size + 1 + 1) #[] 0 1 (Value.func (Fn.func 329) #[] #[]) (by simp) rfl
  have q2 := put386 ((w.alloc (.cells #[.pointer (some ⟨p, 0, none⟩)] 228)).alloc (.cells #[.int .i64 kd, .int .i64 nr, .int .i64 e, .int .i64 x, .int .i64 ck, .int .i64 cl, .int .i64 ca, .slice va ys.length vc] 100)) (w.heap.size + 1 + 1) #[⟨.int .i64 1, (Value.func (Fn.func 329) #[] #[]), 0⟩] 1 2 (Value.func (Fn.func 330) #[] #[]) (by simp) rfl
  have q3 := put386 ((w.alloc (.cells #[.pointer (some ⟨p, 0, none⟩)] 228)).alloc (.cells #[.int .i64 kd, .int .i64 nr, .int .i64 e, .int .i64 x, .int .i64 ck, .int .i64 cl, .int .i64 ca, .slice va ys.length vc] 100)) (w.heap.size + 1 + 1) #[⟨.int .i64 1, (Value.func (Fn.func 329) #[] #[]), 0⟩, ⟨.int .i64 2, (Value.func (Fn.func 330) #[] #[]), 1⟩] 2 3 (Value.func (Fn.func 331) #[] #[]) (by simp) rfl
  have q4 := put386 ((w.alloc (.cells #[.pointer (some ⟨p, 0, none⟩)] 228)).alloc (.cells #[.int .i64 kd, .int .i64 nr, .int .i64 e, .int .i64 x, .int .i64 ck, .int .i64 cl, .int .i64 ca, .slice va ys.length vc] 100)) (w.heap.size + 1 + 1) #[⟨.int .i64 1, (Value.func (Fn.func 329) #[] #[]), 0⟩, ⟨.int .i64 2, (Value.func (Fn.func 330) #[] #[]), 1⟩, ⟨.int .i64 3, (Value.func (Fn.func 331) #[] #[]), 2⟩] 3 4 (Value.func (Fn.func 332) #[] #[]) (by simp) rfl
  simp only [List.push_toArray, List.cons_append, List.nil_append, Nat.reduceAdd] at q1 q2 q3 q4
  obtain ⟨W, hW⟩ : ∃ W, W = ((w.alloc (.cells #[.pointer (some ⟨p, 0, none⟩)] 228)).alloc (.cells #[.int .i64 kd, .int .i64 nr, .int .i64 e, .int .i64 x, .int .i64 ck, .int .i64 cl, .int .i64 ca, .slice va ys.length vc] 100)).alloc (.map tab 4) := ⟨_, rfl⟩
  have b3 : Bl w W := by rw [hW]; exact (((Bl.refl w).alloc _).alloc _).alloc _
  have hs3 : W.heap.size = w.heap.size + 1 + 1 + 1 := by rw [hW]; simp
  have hu0 : W.heap[w.heap.size]? = some (.cells #[.pointer (some ⟨p, 0, none⟩)] 228 (0, 0)) := by
    rw [hW, Below.heap_alloc _ _ _ (by simp; omega), Below.heap_alloc _ _ _ (by simp)]
    exact heap_alloc_new w _
  have hq : W.heap[w.heap.size + 1]? = some (.cells #[.int .i64 kd, .int .i64 nr, .int .i64 e, .int .i64 x, .int .i64 ck, .int .i64 cl, .int .i64 ca, .slice va ys.length vc] 100 (0, 0)) := by
    rw [hW, Below.heap_alloc _ _ _ (by simp)]
    have := heap_alloc_new (w.alloc (.cells #[.pointer (some ⟨p, 0, none⟩)] 228)) (.cells #[.int .i64 kd, .int .i64 nr, .int .i64 e, .int .i64 x, .int .i64 ck, .int .i64 cl, .int .i64 ca, .slice va ys.length vc] 100)
    have hz : (w.alloc (.cells #[.pointer (some ⟨p, 0, none⟩)] 228)).heap.size = w.heap.size + 1 := by simp
    rwa [hz] at this
  have u0 : W.cell? ⟨w.heap.size, 0, none⟩ = some (.pointer (some ⟨p, 0, none⟩)) := cell_of_row W _ 0 _ 228 (0, 0) hu0
  have g0 : W.cell? ⟨w.heap.size + 1, 0, none⟩ = some (.int .i64 kd) := cell_of_row W _ 0 _ 100 (0, 0) hq
  have g1 : W.cell? ⟨w.heap.size + 1, 1, none⟩ = some (.int .i64 nr) := cell_of_row W _ 1 _ 100 (0, 0) hq
  have g2 : W.cell? ⟨w.heap.size + 1, 2, none⟩ = some (.int .i64 e) := cell_of_row W _ 2 _ 100 (0, 0) hq
  have g3 : W.cell? ⟨w.heap.size + 1, 3, none⟩ = some (.int .i64 x) := cell_of_row W _ 3 _ 100 (0, 0) hq
  have g4 : W.cell? ⟨w.heap.size + 1, 4, none⟩ = some (.int .i64 ck) := cell_of_row W _ 4 _ 100 (0, 0) hq
  have g5 : W.cell? ⟨w.heap.size + 1, 5, none⟩ = some (.int .i64 cl) := cell_of_row W _ 5 _ 100 (0, 0) hq
  have g6 : W.cell? ⟨w.heap.size + 1, 6, none⟩ = some (.int .i64 ca) := cell_of_row W _ 6 _ 100 (0, 0) hq
  have g7 : W.cell? ⟨w.heap.size + 1, 7, none⟩ = some (.slice va ys.length vc) := cell_of_row W _ 7 _ 100 (0, 0) hq
  have lu : w.heap.size < W.heap.size := by omega
  have lq : w.heap.size + 1 < W.heap.size := by omega
  have HU : Hid (∀ W', Bl W W' → UCall (328 + kd.toNat) #[.agg #[.pointer (some ⟨p, 0, none⟩)], .agg #[.int .i64 kd, .int .i64 nr, .int .i64 e, .int .i64 x, .int .i64 ck, .int .i64 cl, .int .i64 ca, .slice va ys.length vc]] W' (tagTo tag w.heap.size 3) tg p a b c d ch rs S R) := fun W' hW' => by
    have hbb := b3.trans hW'
    rw [hR]
    exact unit_any (h.only (Only.of_bl (S := fun _ => False) hbb) (fun _ _ e => e.elim) (fun g hg => tagTo_old _ _ _ _ hg)) htg kd nr e x ck cl ca hkd va vc ys hwf hxf hkf hcf haf (hv.bl hbb) (fun g hg => ⟨Nat.lt_of_lt_of_le (hvb g hg).1 hbb.lt, by rw [tagTo_old _ _ _ _ (hvb g hg).1]; exact (hvb g hg).2⟩) hys hc hl
  have hm3 : W.heap[w.heap.size + 1 + 1]? = some (.map tab 4) := by
    rw [hW]
    have := heap_alloc_new ((w.alloc (.cells #[.pointer (some ⟨p, 0, none⟩)] 228)).alloc (.cells #[.int .i64 kd, .int .i64 nr, .int .i64 e, .int .i64 x, .int .i64 ck, .int .i64 cl, .int .i64 ca, .slice va ys.length vc] 100)) (.map tab 4)
    have hz : ((w.alloc (.cells #[.pointer (some ⟨p, 0, none⟩)] 228)).alloc (.cells #[.int .i64 kd, .int .i64 nr, .int .i64 e, .int .i64 x, .int .i64 ck, .int .i64 cl, .int .i64 ca, .slice va ys.length vc] 100)).heap.size = w.heap.size + 1 + 1 := by simp
    rwa [hz] at this
  have ql : (Instr.lookup 386 (.map (some (w.heap.size + 1 + 1))) (.int .i64 kd) true).run Tryz.prog W = .ok (.tuple #[.func (Fn.func (328 + kd.toNat)) #[] #[], .bool true]) W := by
    rcases hkd with rfl | rfl | rfl | rfl
    · exact look386 W _ 1 0 _ hm3 rfl
    · exact look386 W _ 2 1 _ hm3 rfl
    · exact look386 W _ 3 2 _ hm3 rfl
    · exact look386 W _ 4 3 _ hm3 rfl
  have HW := hid hW
  unfold tab at HW
  have HB := hid b3
  have HQ := hid (And.intro hu0 hq)
  have hWt := HW.out
  clear hW hR b3 h hv hvb hys hc hm3 hu0 hq
  rw [hWt] at ql
  clear hWt
  unfold UCall at HU
  rcases hkd with rfl | rfl | rfl | rfl
  · have hWk := HW.out
    go_enter Tryz.func328, Tryz.ntmps328
    go_upto_region 5 with fail
    rw [← hWk]
    clear hWk ql q1 q2 q3 q4 hmk
    go_region_held3 (fun W => W.cell? ⟨w.heap.size, 0, none⟩ = some (.pointer (some ⟨p, 0, none⟩)) ∧ W.cell? ⟨w.heap.size + 1, 0, none⟩ = some (.int .i64 1) ∧ W.cell? ⟨w.heap.size + 1, 1, none⟩ = some (.int .i64 nr) ∧ W.cell? ⟨w.heap.size + 1, 2, none⟩ = some (.int .i64 e) ∧ W.cell? ⟨w.heap.size + 1, 3, none⟩ = some (.int .i64 x) ∧ W.cell? ⟨w.heap.size + 1, 4, none⟩ = some (.int .i64 ck) ∧ W.cell? ⟨w.heap.size + 1, 5, none⟩ = some (.int .i64 cl) ∧ W.cell? ⟨w.heap.size + 1, 6, none⟩ = some (.int .i64 ca) ∧ W.cell? ⟨w.heap.size + 1, 7, none⟩ = some (.slice va ys.length vc)) (go_keep)
      (first | (go_at_call 329; refine (HU.out _ ?hb).mono ?_; (case hb => first | exact (Bl.refl _).drewN _ | exact (Bl.refl _).drew | exact Bl.refl _); rintro en w2 ⟨xa, xc, rs', S', tag', rfl, ho, ht1, hold, hM, hE, hsz, hkt, O⟩; have e1 := (O.block w.heap.size lu (by rw [tagTo_new _ _ _ _ (Nat.le_refl _)]; exact Ne.symm htg)).trans HQ.out.1; have e2 := (O.block (w.heap.size + 1) lq (by rw [tagTo_new _ _ _ _ (Nat.le_succ _)]; exact Ne.symm htg)).trans HQ.out.2; have l1 := (Array.getElem?_eq_some_iff.1 e1).1; have l2 := (Array.getElem?_eq_some_iff.1 e2).1; have zu := cell_of_row w2 _ 0 _ 228 (0, 0) e1; simp at zu; have z0 := cell_of_row w2 _ 0 _ 100 (0, 0) e2; simp at z0; have z1 := cell_of_row w2 _ 1 _ 100 (0, 0) e2; simp at z1; have z2 := cell_of_row w2 _ 2 _ 100 (0, 0) e2; simp at z2; have z3 := cell_of_row w2 _ 3 _ 100 (0, 0) e2; simp at z3; have z4 := cell_of_row w2 _ 4 _ 100 (0, 0) e2; simp at z4; have z5 := cell_of_row w2 _ 5 _ 100 (0, 0) e2; simp at z5; have z6 := cell_of_row w2 _ 6 _ 100 (0, 0) e2; simp at z6; have z7 := cell_of_row w2 _ 7 _ 100 (0, 0) e2; simp at z7; have HRB : Hid (∀ W2, Bl w2 W2 → _) := fun W2 h2 => replyBytes_any nr R.1.wh R.1.ep R.1.mark R.1.ct.kd R.1.ct.cl R.1.ct.ca xa xc R.1.ct.val W2 ((own_bs ho).bl h2) (fun g hg => Nat.lt_of_lt_of_le (ho.lt g hg).2 h2.lt) hRl; have HP := hid (And.intro hold (And.intro hM (And.intro hE (And.intro hsz (And.intro hkt O))))); clear ho ht1 hold hM hE hsz hkt O e1 e2; unfold An.val reply) | (go_at_call 333; refine (HRB.out _ ?hb).mono ?_; (case hb => first | exact (Bl.refl _).drewN _ | exact (Bl.refl _).drew | exact Bl.refl _); rintro en w3 ⟨ba, bc, rfl, hb3, ho3⟩; have hB3 : Bl w2 w3 := Bl.trans (by first | exact (Bl.refl _).drewN _ | exact (Bl.refl _).drew | exact Bl.refl _) hb3; have yu := (hB3.cell l1).trans zu; have y0 := (hB3.cell l2).trans z0; have y1 := (hB3.cell l2).trans z1; have y2 := (hB3.cell l2).trans z2; have y3 := (hB3.cell l2).trans z3; have y4 := (hB3.cell l2).trans z4; have y5 := (hB3.cell l2).trans z5; have y6 := (hB3.cell l2).trans z6; have y7 := (hB3.cell l2).trans z7; have HQ3 := hid (And.intro hB3 ho3); clear hb3 hB3 ho3))
    all_goals
      go_wp2
      go_ret2
      exact ans_end HB.out hs3 HP.out.1 HP.out.2.1 HP.out.2.2.1 HP.out.2.2.2.1 HP.out.2.2.2.2.1 HP.out.2.2.2.2.2 HQ3.out.1 HQ3.out.2 (by first | exact Bl.refl _ | exact (Bl.refl _).drew | exact (Bl.refl _).drewN _)
  · have hWk := HW.out
    go_enter Tryz.func328, Tryz.ntmps328
    go_upto_region 5 with fail
    rw [← hWk]
    clear hWk ql q1 q2 q3 q4 hmk
    go_region_held3 (fun W => W.cell? ⟨w.heap.size, 0, none⟩ = some (.pointer (some ⟨p, 0, none⟩)) ∧ W.cell? ⟨w.heap.size + 1, 0, none⟩ = some (.int .i64 2) ∧ W.cell? ⟨w.heap.size + 1, 1, none⟩ = some (.int .i64 nr) ∧ W.cell? ⟨w.heap.size + 1, 2, none⟩ = some (.int .i64 e) ∧ W.cell? ⟨w.heap.size + 1, 3, none⟩ = some (.int .i64 x) ∧ W.cell? ⟨w.heap.size + 1, 4, none⟩ = some (.int .i64 ck) ∧ W.cell? ⟨w.heap.size + 1, 5, none⟩ = some (.int .i64 cl) ∧ W.cell? ⟨w.heap.size + 1, 6, none⟩ = some (.int .i64 ca) ∧ W.cell? ⟨w.heap.size + 1, 7, none⟩ = some (.slice va ys.length vc)) (go_keep)
      (first | (go_at_call 330; refine (HU.out _ ?hb).mono ?_; (case hb => first | exact (Bl.refl _).drewN _ | exact (Bl.refl _).drew | exact Bl.refl _); rintro en w2 ⟨xa, xc, rs', S', tag', rfl, ho, ht1, hold, hM, hE, hsz, hkt, O⟩; have e1 := (O.block w.heap.size lu (by rw [tagTo_new _ _ _ _ (Nat.le_refl _)]; exact Ne.symm htg)).trans HQ.out.1; have e2 := (O.block (w.heap.size + 1) lq (by rw [tagTo_new _ _ _ _ (Nat.le_succ _)]; exact Ne.symm htg)).trans HQ.out.2; have l1 := (Array.getElem?_eq_some_iff.1 e1).1; have l2 := (Array.getElem?_eq_some_iff.1 e2).1; have zu := cell_of_row w2 _ 0 _ 228 (0, 0) e1; simp at zu; have z0 := cell_of_row w2 _ 0 _ 100 (0, 0) e2; simp at z0; have z1 := cell_of_row w2 _ 1 _ 100 (0, 0) e2; simp at z1; have z2 := cell_of_row w2 _ 2 _ 100 (0, 0) e2; simp at z2; have z3 := cell_of_row w2 _ 3 _ 100 (0, 0) e2; simp at z3; have z4 := cell_of_row w2 _ 4 _ 100 (0, 0) e2; simp at z4; have z5 := cell_of_row w2 _ 5 _ 100 (0, 0) e2; simp at z5; have z6 := cell_of_row w2 _ 6 _ 100 (0, 0) e2; simp at z6; have z7 := cell_of_row w2 _ 7 _ 100 (0, 0) e2; simp at z7; have HRB : Hid (∀ W2, Bl w2 W2 → _) := fun W2 h2 => replyBytes_any nr R.1.wh R.1.ep R.1.mark R.1.ct.kd R.1.ct.cl R.1.ct.ca xa xc R.1.ct.val W2 ((own_bs ho).bl h2) (fun g hg => Nat.lt_of_lt_of_le (ho.lt g hg).2 h2.lt) hRl; have HP := hid (And.intro hold (And.intro hM (And.intro hE (And.intro hsz (And.intro hkt O))))); clear ho ht1 hold hM hE hsz hkt O e1 e2; unfold An.val reply) | (go_at_call 333; refine (HRB.out _ ?hb).mono ?_; (case hb => first | exact (Bl.refl _).drewN _ | exact (Bl.refl _).drew | exact Bl.refl _); rintro en w3 ⟨ba, bc, rfl, hb3, ho3⟩; have hB3 : Bl w2 w3 := Bl.trans (by first | exact (Bl.refl _).drewN _ | exact (Bl.refl _).drew | exact Bl.refl _) hb3; have yu := (hB3.cell l1).trans zu; have y0 := (hB3.cell l2).trans z0; have y1 := (hB3.cell l2).trans z1; have y2 := (hB3.cell l2).trans z2; have y3 := (hB3.cell l2).trans z3; have y4 := (hB3.cell l2).trans z4; have y5 := (hB3.cell l2).trans z5; have y6 := (hB3.cell l2).trans z6; have y7 := (hB3.cell l2).trans z7; have HQ3 := hid (And.intro hB3 ho3); clear hb3 hB3 ho3))
    all_goals
      go_wp2
      go_ret2
      exact ans_end HB.out hs3 HP.out.1 HP.out.2.1 HP.out.2.2.1 HP.out.2.2.2.1 HP.out.2.2.2.2.1 HP.out.2.2.2.2.2 HQ3.out.1 HQ3.out.2 (by first | exact Bl.refl _ | exact (Bl.refl _).drew | exact (Bl.refl _).drewN _)
  · have hWk := HW.out
    go_enter Tryz.func328, Tryz.ntmps328
    go_upto_region 5 with fail
    rw [← hWk]
    clear hWk ql q1 q2 q3 q4 hmk
    go_region_held3 (fun W => W.cell? ⟨w.heap.size, 0, none⟩ = some (.pointer (some ⟨p, 0, none⟩)) ∧ W.cell? ⟨w.heap.size + 1, 0, none⟩ = some (.int .i64 3) ∧ W.cell? ⟨w.heap.size + 1, 1, none⟩ = some (.int .i64 nr) ∧ W.cell? ⟨w.heap.size + 1, 2, none⟩ = some (.int .i64 e) ∧ W.cell? ⟨w.heap.size + 1, 3, none⟩ = some (.int .i64 x) ∧ W.cell? ⟨w.heap.size + 1, 4, none⟩ = some (.int .i64 ck) ∧ W.cell? ⟨w.heap.size + 1, 5, none⟩ = some (.int .i64 cl) ∧ W.cell? ⟨w.heap.size + 1, 6, none⟩ = some (.int .i64 ca) ∧ W.cell? ⟨w.heap.size + 1, 7, none⟩ = some (.slice va ys.length vc)) (go_keep)
      (first | (go_at_call 331; refine (HU.out _ ?hb).mono ?_; (case hb => first | exact (Bl.refl _).drewN _ | exact (Bl.refl _).drew | exact Bl.refl _); rintro en w2 ⟨xa, xc, rs', S', tag', rfl, ho, ht1, hold, hM, hE, hsz, hkt, O⟩; have e1 := (O.block w.heap.size lu (by rw [tagTo_new _ _ _ _ (Nat.le_refl _)]; exact Ne.symm htg)).trans HQ.out.1; have e2 := (O.block (w.heap.size + 1) lq (by rw [tagTo_new _ _ _ _ (Nat.le_succ _)]; exact Ne.symm htg)).trans HQ.out.2; have l1 := (Array.getElem?_eq_some_iff.1 e1).1; have l2 := (Array.getElem?_eq_some_iff.1 e2).1; have zu := cell_of_row w2 _ 0 _ 228 (0, 0) e1; simp at zu; have z0 := cell_of_row w2 _ 0 _ 100 (0, 0) e2; simp at z0; have z1 := cell_of_row w2 _ 1 _ 100 (0, 0) e2; simp at z1; have z2 := cell_of_row w2 _ 2 _ 100 (0, 0) e2; simp at z2; have z3 := cell_of_row w2 _ 3 _ 100 (0, 0) e2; simp at z3; have z4 := cell_of_row w2 _ 4 _ 100 (0, 0) e2; simp at z4; have z5 := cell_of_row w2 _ 5 _ 100 (0, 0) e2; simp at z5; have z6 := cell_of_row w2 _ 6 _ 100 (0, 0) e2; simp at z6; have z7 := cell_of_row w2 _ 7 _ 100 (0, 0) e2; simp at z7; have HRB : Hid (∀ W2, Bl w2 W2 → _) := fun W2 h2 => replyBytes_any nr R.1.wh R.1.ep R.1.mark R.1.ct.kd R.1.ct.cl R.1.ct.ca xa xc R.1.ct.val W2 ((own_bs ho).bl h2) (fun g hg => Nat.lt_of_lt_of_le (ho.lt g hg).2 h2.lt) hRl; have HP := hid (And.intro hold (And.intro hM (And.intro hE (And.intro hsz (And.intro hkt O))))); clear ho ht1 hold hM hE hsz hkt O e1 e2; unfold An.val reply) | (go_at_call 333; refine (HRB.out _ ?hb).mono ?_; (case hb => first | exact (Bl.refl _).drewN _ | exact (Bl.refl _).drew | exact Bl.refl _); rintro en w3 ⟨ba, bc, rfl, hb3, ho3⟩; have hB3 : Bl w2 w3 := Bl.trans (by first | exact (Bl.refl _).drewN _ | exact (Bl.refl _).drew | exact Bl.refl _) hb3; have yu := (hB3.cell l1).trans zu; have y0 := (hB3.cell l2).trans z0; have y1 := (hB3.cell l2).trans z1; have y2 := (hB3.cell l2).trans z2; have y3 := (hB3.cell l2).trans z3; have y4 := (hB3.cell l2).trans z4; have y5 := (hB3.cell l2).trans z5; have y6 := (hB3.cell l2).trans z6; have y7 := (hB3.cell l2).trans z7; have HQ3 := hid (And.intro hB3 ho3); clear hb3 hB3 ho3))
    all_goals
      go_wp2
      go_ret2
      exact ans_end HB.out hs3 HP.out.1 HP.out.2.1 HP.out.2.2.1 HP.out.2.2.2.1 HP.out.2.2.2.2.1 HP.out.2.2.2.2.2 HQ3.out.1 HQ3.out.2 (by first | exact Bl.refl _ | exact (Bl.refl _).drew | exact (Bl.refl _).drewN _)
  · have hWk := HW.out
    go_enter Tryz.func328, Tryz.ntmps328
    go_upto_region 5 with fail
    rw [← hWk]
    clear hWk ql q1 q2 q3 q4 hmk
    go_region_held3 (fun W => W.cell? ⟨w.heap.size, 0, none⟩ = some (.pointer (some ⟨p, 0, none⟩)) ∧ W.cell? ⟨w.heap.size + 1, 0, none⟩ = some (.int .i64 4) ∧ W.cell? ⟨w.heap.size + 1, 1, none⟩ = some (.int .i64 nr) ∧ W.cell? ⟨w.heap.size + 1, 2, none⟩ = some (.int .i64 e) ∧ W.cell? ⟨w.heap.size + 1, 3, none⟩ = some (.int .i64 x) ∧ W.cell? ⟨w.heap.size + 1, 4, none⟩ = some (.int .i64 ck) ∧ W.cell? ⟨w.heap.size + 1, 5, none⟩ = some (.int .i64 cl) ∧ W.cell? ⟨w.heap.size + 1, 6, none⟩ = some (.int .i64 ca) ∧ W.cell? ⟨w.heap.size + 1, 7, none⟩ = some (.slice va ys.length vc)) (go_keep)
      (first | (go_at_call 332; refine (HU.out _ ?hb).mono ?_; (case hb => first | exact (Bl.refl _).drewN _ | exact (Bl.refl _).drew | exact Bl.refl _); rintro en w2 ⟨xa, xc, rs', S', tag', rfl, ho, ht1, hold, hM, hE, hsz, hkt, O⟩; have e1 := (O.block w.heap.size lu (by rw [tagTo_new _ _ _ _ (Nat.le_refl _)]; exact Ne.symm htg)).trans HQ.out.1; have e2 := (O.block (w.heap.size + 1) lq (by rw [tagTo_new _ _ _ _ (Nat.le_succ _)]; exact Ne.symm htg)).trans HQ.out.2; have l1 := (Array.getElem?_eq_some_iff.1 e1).1; have l2 := (Array.getElem?_eq_some_iff.1 e2).1; have zu := cell_of_row w2 _ 0 _ 228 (0, 0) e1; simp at zu; have z0 := cell_of_row w2 _ 0 _ 100 (0, 0) e2; simp at z0; have z1 := cell_of_row w2 _ 1 _ 100 (0, 0) e2; simp at z1; have z2 := cell_of_row w2 _ 2 _ 100 (0, 0) e2; simp at z2; have z3 := cell_of_row w2 _ 3 _ 100 (0, 0) e2; simp at z3; have z4 := cell_of_row w2 _ 4 _ 100 (0, 0) e2; simp at z4; have z5 := cell_of_row w2 _ 5 _ 100 (0, 0) e2; simp at z5; have z6 := cell_of_row w2 _ 6 _ 100 (0, 0) e2; simp at z6; have z7 := cell_of_row w2 _ 7 _ 100 (0, 0) e2; simp at z7; have HRB : Hid (∀ W2, Bl w2 W2 → _) := fun W2 h2 => replyBytes_any nr R.1.wh R.1.ep R.1.mark R.1.ct.kd R.1.ct.cl R.1.ct.ca xa xc R.1.ct.val W2 ((own_bs ho).bl h2) (fun g hg => Nat.lt_of_lt_of_le (ho.lt g hg).2 h2.lt) hRl; have HP := hid (And.intro hold (And.intro hM (And.intro hE (And.intro hsz (And.intro hkt O))))); clear ho ht1 hold hM hE hsz hkt O e1 e2; unfold An.val reply) | (go_at_call 333; refine (HRB.out _ ?hb).mono ?_; (case hb => first | exact (Bl.refl _).drewN _ | exact (Bl.refl _).drew | exact Bl.refl _); rintro en w3 ⟨ba, bc, rfl, hb3, ho3⟩; have hB3 : Bl w2 w3 := Bl.trans (by first | exact (Bl.refl _).drewN _ | exact (Bl.refl _).drew | exact Bl.refl _) hb3; have yu := (hB3.cell l1).trans zu; have y0 := (hB3.cell l2).trans z0; have y1 := (hB3.cell l2).trans z1; have y2 := (hB3.cell l2).trans z2; have y3 := (hB3.cell l2).trans z3; have y4 := (hB3.cell l2).trans z4; have y5 := (hB3.cell l2).trans z5; have y6 := (hB3.cell l2).trans z6; have y7 := (hB3.cell l2).trans z7; have HQ3 := hid (And.intro hB3 ho3); clear hb3 hB3 ho3))
    all_goals
      go_wp2
      go_ret2
      exact ans_end HB.out hs3 HP.out.1 HP.out.2.1 HP.out.2.2.1 HP.out.2.2.2.1 HP.out.2.2.2.2.1 HP.out.2.2.2.2.2 HQ3.out.1 HQ3.out.2 (by first | exact Bl.refl _ | exact (Bl.refl _).drew | exact (Bl.refl _).drewN _)
end
end Go.Proofs.YtnhjmiglegdamaaGreat
