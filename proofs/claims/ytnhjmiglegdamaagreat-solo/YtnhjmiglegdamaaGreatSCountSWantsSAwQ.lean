-- How many answers are such ones; who has answered.
-- Which calls want a token.
-- Whether an answer is awaited; what was answered.
import Derived.Test.YtnhjmiglegdamaaGreatSWnDMapSEndSShelfSLayQ
import Derived.Test.YtnhjmiglegdamaaGreatSProbeShelfSKeysSCallsQ
import Derived.Sort.OwnSortedInts
namespace Go.Proofs.YtnhjmiglegdamaaGreat
open Go.RowKit Go.Maps
open Go.ChangeMaps (setBlock)
attribute [local go_sem ↓] Go.wp_at_zero Go.wp_at_succ
theorem entsA_size (l : List (Int × Value)) : (entsA l).size = l.length := by simp [entsA]
theorem entsA_mem {l : List (Int × Value)} {e : MapEntry} (h : e ∈ (entsA l).toList) : ∃ i, ∃ (hi : i < l.length), e = entA i l[i] := by
  simp [entsA, List.mem_mapIdx] at h
  obtain ⟨i, hi, rfl⟩ := h
  exact ⟨i, hi, rfl⟩
theorem entsA_born (l : List (Int × Value)) : ((entsA l).toList.map (·.born)).Nodup := by
  have : (entsA l).toList.map (·.born) = List.range l.length := by
    apply List.ext_getElem
    · simp [entsA]
    · intro i h1 h2; simp [entsA, entA]
  rw [this]; exact List.nodup_range
theorem entsA_push (l : List (Int × Value)) (z : Int × Value) : entsA (l ++ [z]) = (entsA l).push (entA l.length z) := by
  simp [entsA, List.mapIdx_append, List.mapIdx_cons]
theorem entsA_isKey (l : List (Int × Value)) : ∀ x ∈ (entsA l).toList, MapKept.IsKey (.int .i64) x.key := by
  intro x hx
  obtain ⟨i, hi, rfl⟩ := entsA_mem hx
  simp [MapKept.IsKey, entA]
/-- Who has not answered is not found. -/
theorem findA_none (l : List (Int × Value)) (k : Int) (h : ∀ z ∈ l, z.1 ≠ k) : Instr.findNow (.int .i64) (.int .i64 k) (entsA l).toList 0 = some none := by
  rcases MapKept.findNow_spec (d := .int .i64) (k := .int .i64 k) (by simp [MapKept.IsKey]) (entsA l).toList 0 (entsA_isKey l) with ⟨h1, _⟩ | ⟨j, e, h1, h2, h3⟩
  · exact h1
  · exfalso
    obtain ⟨i, hi, rfl⟩ := entsA_mem (List.mem_of_getElem? h2)
    simp [entA] at h3
    exact h _ (List.getElem_mem hi) h3
theorem findA_some (l : List (Int × Value)) (k : Int) (h : ∃ z ∈ l, z.1 = k) : ∃ j z, l[j]? = some z ∧ z.1 = k ∧ Instr.findNow (.int .i64) (.int .i64 k) (entsA l).toList 0 = some (some (j, z.2)) := by
  rcases MapKept.findNow_spec (d := .int .i64) (k := .int .i64 k) (by simp [MapKept.IsKey]) (entsA l).toList 0 (entsA_isKey l) with ⟨h1, h2⟩ | ⟨j, e, h1, h2, h3⟩
  · exfalso
    obtain ⟨z, hz, hk⟩ := h
    obtain ⟨i, hi, rfl⟩ := List.mem_iff_getElem.1 hz
    have := h2 (entA i l[i]) (by simp [entsA, List.mem_mapIdx]; exact ⟨i, hi, rfl⟩)
    simp [entA, hk] at this
  · obtain ⟨i, hi, rfl⟩ := entsA_mem (List.mem_of_getElem? h2)
    have hj : j = i := by
      have hb := congrArg (Option.map (·.born)) h2
      have hj' := (List.getElem?_eq_some_iff.1 h2).1
      simp [entsA] at hj'
      simp [entsA, hj', entA] at hb
      exact hb
    subst hj
    simp [entA] at h3 h1
    exact ⟨j, l[j], List.getElem?_eq_getElem hi, h3, h1⟩
/-- What a reply in a map tells. -/
def whOf : Value → Int
  | .agg a => Go.RowKit.intOf ((a[0]?).getD undef)
  | _ => 0
/-- How many of those that are left are such ones. -/
def cntL (es : Array MapEntry) (seen : Array Nat) (k : Int) : Nat := (es.toList.filter fun x => !seen.contains x.born && (whOf x.val == k)).length
theorem cnt_push (l : List (Int × Value)) (seen : Array Nat) (k : Int) (e : MapEntry) (h : e ∈ (leftOf (entsA l) seen).toList) : cntL (entsA l) (seen.push e.born) k + (if whOf e.val == k then 1 else 0) = cntL (entsA l) seen k := by
  obtain ⟨h1, h2⟩ := mem_left h
  unfold cntL
  have e1 : ((entsA l).toList.filter fun x => !(seen.push e.born).contains x.born && (whOf x.val == k)) = ((entsA l).toList.filter fun x => (!seen.contains x.born && (whOf x.val == k)) && !(x.born == e.born)) := by
    apply List.filter_congr
    intro x _
    rw [contains_push]
    cases seen.contains x.born <;> cases (x.born == e.born) <;> cases (whOf x.val == k) <;> rfl
  rw [e1]
  by_cases hp : (whOf e.val == k) = true
  · rw [if_pos hp]
    exact left_one (fun x => !seen.contains x.born && (whOf x.val == k)) e (entsA l).toList (entsA_born l) h1 (by rw [h2, hp]; rfl)
  · rw [if_neg hp, Nat.add_zero]
    congr 1
    apply List.filter_congr
    intro x hx
    by_cases hb : x.born = e.born
    · have hxe : x = e := by
        obtain ⟨i, hi, rfl⟩ := entsA_mem hx
        obtain ⟨j, hj, rfl⟩ := entsA_mem h1
        simp [entA] at hb
        subst hb
        rfl
      subst hxe
      simp at hp
      simp [hp]
    · simp [hb]
theorem cnt_yes (l : List (Int × Value)) (seen : Array Nat) (k : Int) (i : Nat) (hi : i < l.length) (h : entA i l[i] ∈ (leftOf (entsA l) seen).toList) (hw : whOf l[i].2 = k) : cntL (entsA l) (seen.push i) k + 1 = cntL (entsA l) seen k := by
  have := cnt_push l seen k _ h
  have h1 : (whOf (entA i l[i]).val == k) = true := by simpa [entA] using hw
  rw [if_pos h1] at this
  exact this
theorem cnt_no (l : List (Int × Value)) (seen : Array Nat) (k : Int) (i : Nat) (hi : i < l.length) (h : entA i l[i] ∈ (leftOf (entsA l) seen).toList) (hw : whOf l[i].2 ≠ k) : cntL (entsA l) (seen.push i) k = cntL (entsA l) seen k := by
  have := cnt_push l seen k _ h
  have h1 : ¬ (whOf (entA i l[i]).val == k) = true := by simpa [entA] using hw
  rw [if_neg h1] at this
  exact this
theorem left_push (l : List (Int × Value)) (seen : Array Nat) (e : MapEntry) (h : e ∈ (leftOf (entsA l) seen).toList) : (leftOf (entsA l) (seen.push e.born)).size + 1 = (leftOf (entsA l) seen).size := by
  obtain ⟨h1, h2⟩ := mem_left h
  have := left_one (fun x => !seen.contains x.born) e (entsA l).toList (entsA_born l) h1 (by rw [h2]; rfl)
  have e1 : ∀ p : MapEntry → Bool, ((entsA l).filter p).size = ((entsA l).toList.filter p).length := fun p => by rw [← Array.toList_filter, Array.length_toList]
  unfold leftOf
  rw [e1, e1, ← this]
  congr 2
  apply List.filter_congr
  intro x _
  rw [contains_push]
  cases seen.contains x.born <;> simp
theorem cnt_none (es : Array MapEntry) (seen : Array Nat) (k : Int) (h : NoneLeft es seen) : cntL es seen k = 0 := by
  unfold NoneLeft leftOf at h
  unfold cntL
  rw [List.length_eq_zero_iff, List.filter_eq_nil_iff]
  intro x hx
  have h' : es.filter (fun x => !seen.contains x.born) = #[] := Array.size_eq_zero_iff.1 h
  have := Array.filter_eq_empty_iff.1 h' x (by simpa using hx)
  simp at this ⊢
  intro hc
  exact absurd this hc
set_option maxRecDepth 100000 in
theorem isDone_any (x0 : Int) (x1 x2 x3 x4 x5 : Int) (va : Option Addr) (vn vc : Nat) (w : World) : Calls Tryz.prog 286 #[.agg #[.int .i64 x0, .int .i64 x1, .int .i64 x2, .int .i64 x3, .int .i64 x4, .int .i64 x5, .slice va vn vc]] w fun en w' => en = .returned (.bool (x0 == 1)) ∧ Bl w w' := by
  go_enter Tryz.func286, Tryz.ntmps286
  go_wp2
  go_ret
  exact ⟨by simp, (Bl.refl w).alloc _⟩
set_option maxRecDepth 100000 in
theorem isTaken_any (x0 : Int) (x1 x2 x3 x4 x5 : Int) (va : Option Addr) (vn vc : Nat) (w : World) : Calls Tryz.prog 302 #[.agg #[.int .i64 x0, .int .i64 x1, .int .i64 x2, .int .i64 x3, .int .i64 x4, .int .i64 x5, .slice va vn vc]] w fun en w' => en = .returned (.bool (x0 == 2)) ∧ Bl w w' := by
  go_enter Tryz.func302, Tryz.ntmps302
  go_wp2
  go_ret
  exact ⟨by simp, (Bl.refl w).alloc _⟩
theorem setBlock_only' (w : World) (r : Nat) (o : Obj) : Only (fun k => k = r) w (setBlock w r o) :=
  ⟨rfl, rfl, rfl, by simp [setBlock], fun k _ hs => by simp [setBlock, Ne.symm hs]⟩
set_option maxRecDepth 100000 in
set_option maxHeartbeats 4000000 in
theorem count1_any {w : World} {tag : Nat → Nat} {tc g o gm : Nat} {l : List (Int × Value)} {zz : List (Int × An)} (hg : w.heap[gm]? = some (.map (entsA l) l.length)) (hl : l.length = zz.length) (hz : ∀ (i : Nat) (z : Int × An), zz[i]? = some z → ∃ x, l[i]? = some (z.1, x) ∧ AnV w tag tc z.2 x) (c10 : w.cell? ⟨g, o + 10, none⟩ = some (.map (some gm))) (hle : l.length ≤ 100) :
    Calls Tryz.prog 285 #[.pointer (some ⟨g, o, none⟩), .func (.func 286) #[] #[]] w fun en w' => en = .returned (.int .i64 (cntL (entsA l) #[] 1)) ∧ Bl w w' := by
  have HF := hid isDone_any
  have lgm := (Array.getElem?_eq_some_iff.1 hg).1
  have HE : Hid (∀ i (hi : i < l.length), ∃ (x0 x1 x2 x3 x4 x5 : Int) (va : Option Addr) (vn vc : Nat), l[i].2 = .agg #[.int .i64 x0, .int .i64 x1, .int .i64 x2, .int .i64 x3, .int .i64 x4, .int .i64 x5, .slice va vn vc]) := fun i hi => by
    obtain ⟨x, h1, ⟨s, h2, h3⟩⟩ := hz i zz[i] (List.getElem?_eq_getElem (by omega))
    rw [List.getElem?_eq_getElem hi] at h1
    simp only [Option.some.injEq] at h1
    obtain ⟨a, c, rfl⟩ := h3.shape
    exact ⟨_, _, _, _, _, _, _, _, _, by rw [h1]; exact h2⟩
  have hM := hg
  clear hz hl
  go_enter Tryz.func285, Tryz.ntmps285
  go_wp2_with (at_range; refine wpList_range_raw _ rfl _ 101 rfl 3 210 Tryz.underlying101 gm (entsA l) l.length rfl hM ?_)
  go_frame
  go_loopw [5] (fun v wr => ∃ (k : Nat) (seen : Array Nat), v = .int .i64 k ∧ Bl w wr ∧ wr.heap[w.heap.size]? = some (.mapIter (some gm) l.length seen l.length) ∧ k + cntL (entsA l) seen 1 = cntL (entsA l) #[] 1 ∧ k + (leftOf (entsA l) seen).size ≤ l.length) (fun _ wr => (leftOf (entsA l) (wr.iterSeen w.heap.size)).size)
  case atStart => exact ⟨0, #[], rfl, (Bl.refl w).alloc _, heap_alloc_new w _, by simp, by unfold leftOf; rw [Array.filter_eq_self.2 (by simp), entsA_size]; omega⟩
  case round =>
    obtain ⟨k, seen, rfl, hB, hr, hc, hk⟩ := hrel
    have hb : wr.heap[gm]? = some (.map (entsA l) l.length) := (hB.heap lgm).trans hM
    have hrb : w.heap.size ≠ gm := by omega
    have hold : Hid (∀ x ∈ (entsA l).toList, x.born < l.length) := fun x hx => by
      obtain ⟨i, hi, rfl⟩ := entsA_mem hx
      exact hi
    have hrl : w.heap.size < wr.heap.size := (Array.getElem?_eq_some_iff.1 hr).1
    have HB := hid hB
    have Hr := hid hr
    have Hb := hid hb
    have Hc := hid hc
    have Hk := hid hk
    clear hB hr hb hc hk
    go_wp2_with (at_next; refine wpList_next_raw _ rfl _ rfl w.heap.size gm l.length seen (entsA l) l.length rfl Hr.out Hb.out hrb hold.out (Nat.le_refl _) (entsA_born l) ?_ ?_)
    · intro h0
      have h0' := cnt_none _ _ 1 h0
      have hkk : k = cntL (entsA l) #[] 1 := by have := Hc.out; omega
      subst hkk
      clear Hc Hk h0 h0'
      go_wp2
      go_ret
      exact ⟨rfl, HB.out⟩
    · intro e W he hW hen
      obtain ⟨i, hi, rfl⟩ := entsA_mem (mem_left he).1
      have hsz := left_push l seen _ he
      have HY := hid (cnt_yes l seen 1 i hi he)
      have HNo := hid (cnt_no l seen 1 i hi he)
      obtain ⟨x0, x1, x2, x3, x4, x5, va, vn, vc, hx⟩ := HE.out i hi
      have hwh : whOf l[i].2 = x0 := by rw [hx]; rfl
      rw [hwh] at HY HNo
      simp only [entA] at hen hsz hW ⊢
      rw [hx] at hen ⊢
      have HW : Only (fun k => k = w.heap.size) wr W := by
        obtain ⟨w1, e | e, rfl⟩ := hW
        · subst e; exact setBlock_only' _ _ _
        · subst e; exact (Only.of_bl ((Bl.refl wr).drew)).trans (setBlock_only' _ _ _)
      have hWr : W.heap[w.heap.size]? = some (.mapIter (some gm) l.length (seen.push i) l.length) := by
        obtain ⟨w1, e | e, rfl⟩ := hW <;> subst e <;> simp [setBlock, hrl]
      have hWB : Bl w W := HB.out.trans_only HW fun k e => by omega
      have HWr := hid hWr
      have HWB := hid hWB
      have Hsz := hid hsz
      have hki : k ≤ 100 := by have := Hk.out; omega
      have hrW : Hid (w.heap.size < W.heap.size) := (Array.getElem?_eq_some_iff.1 hWr).1
      clear hWr hWB hsz HW hW he hx hwh
      by_cases hp : x0 = 1
      · have hpd : (x0 == 1) = true := by simpa using hp
        have Hct' := hid (HY.out hp)
        subst hp
        clear hpd
        go_wp2_with (go_at_call 286; refine (HF.out _ _ _ _ _ _ _ _ _ _).mono ?_; rintro en w2 ⟨rfl, hb2⟩; have HB2 := hid hb2; clear hb2)
        have hW2 : w2.heap[w.heap.size]? = some (.mapIter (some gm) l.length (seen.push i) l.length) := (HB2.out.heap (by simp; have := hrW.out; omega)).trans ((heap_alloc_old W _ hrW.out).trans HWr.out)
        have H2 := hid hW2
        have HB3 := hid ((HWB.out.alloc _).trans HB2.out)
        clear hW2 HB2
        go_wp2
        go_roundw
        case rel => exact ⟨k + 1, seen.push i, by go_num, HB3.out, H2.out, by have := Hct'.out; have := Hc.out; omega, by have := Hsz.out; have := Hk.out; omega⟩
        case measure =>
          have e1 : w2.iterSeen w.heap.size = seen.push i := by unfold World.iterSeen; rw [H2.out]
          have e2 : wr.iterSeen w.heap.size = seen := by unfold World.iterSeen; rw [Hr.out]
          rw [e1, e2]
          have := Hsz.out
          omega
      · have hpd : (x0 == 1) = false := by simpa using hp
        have Hct' := hid (HNo.out hp)
        go_wp2_with (go_at_call 286; refine (HF.out _ _ _ _ _ _ _ _ _ _).mono ?_; rintro en w2 ⟨rfl, hb2⟩; rw [hpd]; have HB2 := hid hb2; clear hb2)
        have hW2 : w2.heap[w.heap.size]? = some (.mapIter (some gm) l.length (seen.push i) l.length) := (HB2.out.heap (by simp; have := hrW.out; omega)).trans ((heap_alloc_old W _ hrW.out).trans HWr.out)
        have H2 := hid hW2
        have HB3 := hid ((HWB.out.alloc _).trans HB2.out)
        clear hW2 HB2
        go_roundw
        case rel => exact ⟨k, seen.push i, rfl, HB3.out, H2.out, by have := Hct'.out; have := Hc.out; omega, by have := Hsz.out; have := Hk.out; omega⟩
        case measure =>
          have e1 : w2.iterSeen w.heap.size = seen.push i := by unfold World.iterSeen; rw [H2.out]
          have e2 : wr.iterSeen w.heap.size = seen := by unfold World.iterSeen; rw [Hr.out]
          rw [e1, e2]
          have := Hsz.out
          omega
set_option maxRecDepth 100000 in
set_option maxHeartbeats 4000000 in
theorem count2_any {w : World} {tag : Nat → Nat} {tc g o gm : Nat} {l : List (Int × Value)} {zz : List (Int × An)} (hg : w.heap[gm]? = some (.map (entsA l) l.length)) (hl : l.length = zz.length) (hz : ∀ (i : Nat) (z : Int × An), zz[i]? = some z → ∃ x, l[i]? = some (z.1, x) ∧ AnV w tag tc z.2 x) (c10 : w.cell? ⟨g, o + 10, none⟩ = some (.map (some gm))) (hle : l.length ≤ 100) :
    Calls Tryz.prog 285 #[.pointer (some ⟨g, o, none⟩), .func (.func 302) #[] #[]] w fun en w' => en = .returned (.int .i64 (cntL (entsA l) #[] 2)) ∧ Bl w w' := by
  have HF := hid isTaken_any
  have lgm := (Array.getElem?_eq_some_iff.1 hg).1
  have HE : Hid (∀ i (hi : i < l.length), ∃ (x0 x1 x2 x3 x4 x5 : Int) (va : Option Addr) (vn vc : Nat), l[i].2 = .agg #[.int .i64 x0, .int .i64 x1, .int .i64 x2, .int .i64 x3, .int .i64 x4, .int .i64 x5, .slice va vn vc]) := fun i hi => by
    obtain ⟨x, h1, ⟨s, h2, h3⟩⟩ := hz i zz[i] (List.getElem?_eq_getElem (by omega))
    rw [List.getElem?_eq_getElem hi] at h1
    simp only [Option.some.injEq] at h1
    obtain ⟨a, c, rfl⟩ := h3.shape
    exact ⟨_, _, _, _, _, _, _, _, _, by rw [h1]; exact h2⟩
  have hM := hg
  clear hz hl
  go_enter Tryz.func285, Tryz.ntmps285
  go_wp2_with (at_range; refine wpList_range_raw _ rfl _ 101 rfl 3 210 Tryz.underlying101 gm (entsA l) l.length rfl hM ?_)
  go_frame
  go_loopw [5] (fun v wr => ∃ (k : Nat) (seen : Array Nat), v = .int .i64 k ∧ Bl w wr ∧ wr.heap[w.heap.size]? = some (.mapIter (some gm) l.length seen l.length) ∧ k + cntL (entsA l) seen 2 = cntL (entsA l) #[] 2 ∧ k + (leftOf (entsA l) seen).size ≤ l.length) (fun _ wr => (leftOf (entsA l) (wr.iterSeen w.heap.size)).size)
  case atStart => exact ⟨0, #[], rfl, (Bl.refl w).alloc _, heap_alloc_new w _, by simp, by unfold leftOf; rw [Array.filter_eq_self.2 (by simp), entsA_size]; omega⟩
  case round =>
    obtain ⟨k, seen, rfl, hB, hr, hc, hk⟩ := hrel
    have hb : wr.heap[gm]? = some (.map (entsA l) l.length) := (hB.heap lgm).trans hM
    have hrb : w.heap.size ≠ gm := by omega
    have hold : Hid (∀ x ∈ (entsA l).toList, x.born < l.length) := fun x hx => by
      obtain ⟨i, hi, rfl⟩ := entsA_mem hx
      exact hi
    have hrl : w.heap.size < wr.heap.size := (Array.getElem?_eq_some_iff.1 hr).1
    have HB := hid hB
    have Hr := hid hr
    have Hb := hid hb
    have Hc := hid hc
    have Hk := hid hk
    clear hB hr hb hc hk
    go_wp2_with (at_next; refine wpList_next_raw _ rfl _ rfl w.heap.size gm l.length seen (entsA l) l.length rfl Hr.out Hb.out hrb hold.out (Nat.le_refl _) (entsA_born l) ?_ ?_)
    · intro h0
      have h0' := cnt_none _ _ 2 h0
      have hkk : k = cntL (entsA l) #[] 2 := by have := Hc.out; omega
      subst hkk
      clear Hc Hk h0 h0'
      go_wp2
      go_ret
      exact ⟨rfl, HB.out⟩
    · intro e W he hW hen
      obtain ⟨i, hi, rfl⟩ := entsA_mem (mem_left he).1
      have hsz := left_push l seen _ he
      have HY := hid (cnt_yes l seen 2 i hi he)
      have HNo := hid (cnt_no l seen 2 i hi he)
      obtain ⟨x0, x1, x2, x3, x4, x5, va, vn, vc, hx⟩ := HE.out i hi
      have hwh : whOf l[i].2 = x0 := by rw [hx]; rfl
      rw [hwh] at HY HNo
      simp only [entA] at hen hsz hW ⊢
      rw [hx] at hen ⊢
      have HW : Only (fun k => k = w.heap.size) wr W := by
        obtain ⟨w1, e | e, rfl⟩ := hW
        · subst e; exact setBlock_only' _ _ _
        · subst e; exact (Only.of_bl ((Bl.refl wr).drew)).trans (setBlock_only' _ _ _)
      have hWr : W.heap[w.heap.size]? = some (.mapIter (some gm) l.length (seen.push i) l.length) := by
        obtain ⟨w1, e | e, rfl⟩ := hW <;> subst e <;> simp [setBlock, hrl]
      have hWB : Bl w W := HB.out.trans_only HW fun k e => by omega
      have HWr := hid hWr
      have HWB := hid hWB
      have Hsz := hid hsz
      have hki : k ≤ 100 := by have := Hk.out; omega
      have hrW : Hid (w.heap.size < W.heap.size) := (Array.getElem?_eq_some_iff.1 hWr).1
      clear hWr hWB hsz HW hW he hx hwh
      by_cases hp : x0 = 2
      · have hpd : (x0 == 2) = true := by simpa using hp
        have Hct' := hid (HY.out hp)
        subst hp
        clear hpd
        go_wp2_with (go_at_call 302; refine (HF.out _ _ _ _ _ _ _ _ _ _).mono ?_; rintro en w2 ⟨rfl, hb2⟩; have HB2 := hid hb2; clear hb2)
        have hW2 : w2.heap[w.heap.size]? = some (.mapIter (some gm) l.length (seen.push i) l.length) := (HB2.out.heap (by simp; have := hrW.out; omega)).trans ((heap_alloc_old W _ hrW.out).trans HWr.out)
        have H2 := hid hW2
        have HB3 := hid ((HWB.out.alloc _).trans HB2.out)
        clear hW2 HB2
        go_wp2
        go_roundw
        case rel => exact ⟨k + 1, seen.push i, by go_num, HB3.out, H2.out, by have := Hct'.out; have := Hc.out; omega, by have := Hsz.out; have := Hk.out; omega⟩
        case measure =>
          have e1 : w2.iterSeen w.heap.size = seen.push i := by unfold World.iterSeen; rw [H2.out]
          have e2 : wr.iterSeen w.heap.size = seen := by unfold World.iterSeen; rw [Hr.out]
          rw [e1, e2]
          have := Hsz.out
          omega
      · have hpd : (x0 == 2) = false := by simpa using hp
        have Hct' := hid (HNo.out hp)
        go_wp2_with (go_at_call 302; refine (HF.out _ _ _ _ _ _ _ _ _ _).mono ?_; rintro en w2 ⟨rfl, hb2⟩; rw [hpd]; have HB2 := hid hb2; clear hb2)
        have hW2 : w2.heap[w.heap.size]? = some (.mapIter (some gm) l.length (seen.push i) l.length) := (HB2.out.heap (by simp; have := hrW.out; omega)).trans ((heap_alloc_old W _ hrW.out).trans HWr.out)
        have H2 := hid hW2
        have HB3 := hid ((HWB.out.alloc _).trans HB2.out)
        clear hW2 HB2
        go_roundw
        case rel => exact ⟨k, seen.push i, rfl, HB3.out, H2.out, by have := Hct'.out; have := Hc.out; omega, by have := Hsz.out; have := Hk.out; omega⟩
        case measure =>
          have e1 : w2.iterSeen w.heap.size = seen.push i := by unfold World.iterSeen; rw [H2.out]
          have e2 : wr.iterSeen w.heap.size = seen := by unfold World.iterSeen; rw [Hr.out]
          rw [e1, e2]
          have := Hsz.out
          omega

theorem cnt_is {w : World} {tag : Nat → Nat} {tc : Nat} (k : Int) : ∀ (l : List (Int × Value)) (zz : List (Int × An)), l.length = zz.length → (∀ (i : Nat) (z : Int × An), zz[i]? = some z → ∃ x, l[i]? = some (z.1, x) ∧ AnV w tag tc z.2 x) → (l.filter fun x => whOf x.2 == k).length = (zz.filter fun z => z.2.wh == k).length
  | [], [], _, _ => rfl
  | x :: l, z :: zz, hl, h => by
    obtain ⟨v, h1, ⟨s, h2, _⟩⟩ := h 0 z rfl
    simp at h1
    have hw : whOf x.2 = z.2.wh := by rw [h1]; simp only; rw [h2]; rfl
    have ih := cnt_is k l zz (by simpa using hl) (fun i z' hz => h (i + 1) z' (by simpa using hz))
    simp only [List.filter_cons, hw]
    split <;> simp [ih]
theorem cntL_is {w : World} {tag : Nat → Nat} {tc : Nat} {l : List (Int × Value)} {zz : List (Int × An)} (hl : l.length = zz.length) (hz : ∀ (i : Nat) (z : Int × An), zz[i]? = some z → ∃ x, l[i]? = some (z.1, x) ∧ AnV w tag tc z.2 x) (k : Int) : cntL (entsA l) #[] k = (zz.filter fun z => z.2.wh == k).length := by
  rw [← cnt_is k l zz hl hz]
  unfold cntL
  have h1 : ∀ (l : List (Int × Value)) (f : Nat → Nat), ((l.mapIdx fun i z => (⟨.int .i64 z.1, z.2, f i⟩ : MapEntry)).filter fun x => !(#[] : Array Nat).contains x.born && (whOf x.val == k)).length = (l.filter fun x => whOf x.2 == k).length := by
    intro l
    induction l with
    | nil => intro f; rfl
    | cons z l ih =>
      intro f
      have := ih (fun i => f (i + 1))
      simp only [List.mapIdx_cons, List.filter_cons]
      simp at this ⊢
      split <;> simp [this]
  have := h1 l id
  have e : entA = fun i z => (⟨.int .i64 z.1, z.2, i⟩ : MapEntry) := rfl
  rw [← this]
  simp [entsA, e]
end Go.Proofs.YtnhjmiglegdamaaGreat

namespace Go.Proofs.YtnhjmiglegdamaaGreat
open Go.RowKit Go.Maps Go.Sort
open Go.ChangeMaps (setBlock)
attribute [local go_sem ↓] Go.wp_at_zero Go.wp_at_succ
def PC.wants (c : PC) : Bool := c.kind == 1 && decide (c.q.nodes = [])
theorem sort_one (g cap base : Nat) (x : Int) (w : World) (ho : w.ownsRow base 3 1 (.slice (some ⟨g, 0, none⟩) 1 cap) 1 [.int .i64 x]) :
    Calls Tryz.prog 94 #[.slice (some ⟨g, 0, none⟩) 1 cap] w fun e w' => e = .returned (.tuple #[]) ∧ Only (fun k => k = g) w w' ∧ w'.ownsRow base 3 1 (.slice (some ⟨g, 0, none⟩) 1 cap) 1 [.int .i64 x] := by
  rcases ho.2 with ⟨h0, _⟩ | ⟨g', cap', cur, hv, hg, hb, hc, hm, hs, ht⟩
  · simp at h0
  simp only [Value.slice.injEq, Option.some.injEq, Addr.mk.injEq, and_true, true_and] at hv
  obtain ⟨rfl, rfl⟩ := hv
  refine (Any.slices_Sort_int Tryz.lays189 g 0 cap [x] w (holds_of_blockI hb (by simpa using ht)) (Array.getElem?_eq_some_iff.1 hb).1 (by simp)).mono ?_
  rintro e w' ⟨rfl, n, os, rfl⟩
  refine ⟨rfl, (Only.of_grown (grownBy_sortedI _)).mono fun k _ e => by simpa using e, ?_⟩
  have := ownsRow_sortedI (w := w) (base := base) (g := g) (cap := cap) (n := n) (e := 3) (os := os) (cur := cur) (ss := [x]) (ts := [x].mergeSort fun a b => decide (a ≤ b)) (by simp) hg hb hc hm (by simpa using hs)
  rw [List.mergeSort_singleton] at this ⊢
  exact this
section
variable {w w0 w' : World} {tag tag' : Nat → Nat} {tc p q n m : Nat} {vo ce id : Int} {X X' : CX} {lv rv vv nv av pv vv' nv' av' ov cv ev ov' cv' ev' : Value} {bm born clk k gm : Nat} {c c' : PC}
set_option maxRecDepth 100000 in
set_option maxHeartbeats 1000000 in
theorem cl_asks (hk : CallOk w tag tc q c ov cv ev vv nv av) :
    Calls Tryz.prog 153 #[.pointer (some ⟨q, 16, none⟩)] w fun e w' => e = .returned (.bool (decide ((0 : Int) < c.q.nodes.length))) ∧ w' = w := by
  obtain ⟨na, nc, rfl⟩ := hk.q.nodes.shape
  rw [List.length_map] at hk
  have e24 := hk.cellAt 24 rfl
  have lq := hk.lt
  clear hk
  go_enter Tryz.func153, Tryz.ntmps153
  go_wp2
  go_ret
  exact ⟨by simp, rfl⟩
set_option maxRecDepth 100000 in
set_option maxHeartbeats 1000000 in
theorem cl_wantsC (hk : CallOk w tag tc q c ov cv ev vv nv av) :
    Calls Tryz.prog 93 #[.pointer (some ⟨q, 0, none⟩)] w fun e w' => e = .returned (.bool c.wants) ∧ w' = w := by
  have e0 := hk.cellAt 0 rfl
  have lq := hk.lt
  have HA := hid (cl_asks hk)
  clear hk
  by_cases h1 : c.kind = 1
  · rw [h1] at e0
    go_enter Tryz.func93, Tryz.ntmps93
    go_wp2_with (go_at_call 153; refine HA.out.mono ?_; rintro e w' ⟨rfl, rfl⟩)
    go_ret
    refine ⟨?_, rfl⟩
    unfold PC.wants
    rw [h1]
    cases hns : c.q.nodes <;> simp
  · have hb : (c.kind == 1) = false := by simpa using h1
    go_enter Tryz.func93, Tryz.ntmps93
    go_wp2
    go_ret
    refine ⟨?_, rfl⟩
    unfold PC.wants
    rw [hb]
    rfl
set_option maxRecDepth 100000 in
set_option maxHeartbeats 4000000 in
theorem cl_wants0 (h : ClK w tag tc p q n m vo ce id X lv rv vv nv av bm born clk) (hc : X.pend = none) :
    Calls Tryz.prog 51 #[.pointer (some ⟨p, 0, none⟩)] w fun e w' => e = .returned (.slice none 0 0) ∧ Bl w w' := by
  have c8 := h.cellAt 8 rfl
  have lp := h.lp
  have lb := h.lb
  have hm := h.mp
  rw [hc] at hm
  have HS := hid (sort_none none 0)
  clear h
  go_enter Tryz.func51, Tryz.ntmps51
  go_wp2_with (at_range; refine wpList_range_raw _ rfl _ 98 rfl 3 159 Tryz.underlying98 bm #[] clk rfl hm ?_)
  have hbm3 := (heap_alloc_old w (.mapIter (some bm) clk #[] clk) lb).trans hm
  have hit3 := heap_alloc_new w (.mapIter (some bm) clk #[] clk)
  have hne3 : w.heap.size ≠ bm := by omega
  refine wp_loop_rounds 1 ?_; rw [rounds_succ]
  go_wp2_with (at_next; refine wpList_next_raw _ rfl _ rfl w.heap.size bm clk #[] #[] clk rfl hit3 hbm3 hne3 (by simp) (Nat.le_refl _) (by simp) ?_ ?_)
  · intro _
    go_wp2_with (go_at_call 94; refine (HS.out _).mono ?_; rintro e w' ⟨rfl, rfl⟩)
    go_ret
    exact ⟨rfl, (Bl.refl w).alloc _⟩
  · intro e W6 he
    have := (mem_left he).1
    simp at this
set_option maxRecDepth 100000 in
set_option maxHeartbeats 4000000 in
theorem cl_wants1 (h : ClK w tag tc p q n m vo ce id X lv rv vv nv av bm born clk) (hc : X.pend = some c) :
    Calls Tryz.prog 51 #[.pointer (some ⟨p, 0, none⟩)] w fun e w' => Bl w w' ∧ (c.wants = false → e = .returned (.slice none 0 0)) ∧ (c.wants = true → ∃ g cap, e = .returned (.slice (some ⟨g, 0, none⟩) 1 cap) ∧ g < w'.heap.size ∧ w'.cell? ⟨g, 0, none⟩ = some (.int .i64 c.num)) := by
  obtain ⟨i3, ji, jz0, jz1, jz2⟩ := info_parts Tryz.info3
  have c8 := h.cellAt 8 rfl
  have lp := h.lp
  have lb := h.lb
  have hm := h.mp
  have hbc : born < clk := h.bc.resolve_right (by rw [hc]; simp)
  rw [hc] at hm
  simp only [pendE] at hm
  have HS := hid (sort_none none 0)
  have HWa : Hid (∀ W, Bl w W → Calls Tryz.prog 93 #[.pointer (some ⟨q, 0, none⟩)] W fun e w' => e = .returned (.bool c.wants) ∧ w' = W) := fun W hW => by
    obtain ⟨ov, cv, ev, v3, n3, a3, hk, _⟩ := (h.bl hW (tag' := tag) (fun _ _ e => e)).call c hc
    exact cl_wantsC hk
  clear h
  go_enter Tryz.func51, Tryz.ntmps51
  go_wp2_with (at_range; refine wpList_range_raw _ rfl _ 98 rfl 3 159 Tryz.underlying98 bm #[⟨.int .i64 c.num, .pointer (some ⟨q, 0, none⟩), born⟩] clk rfl hm ?_)
  have hbm3 := (heap_alloc_old w (.mapIter (some bm) clk #[] clk) lb).trans hm
  have hit3 := heap_alloc_new w (.mapIter (some bm) clk #[] clk)
  have hne3 : w.heap.size ≠ bm := by omega
  refine wp_loop_rounds 2 ?_; rw [rounds_succ]
  go_wp2_with (at_next; refine wpList_next_raw _ rfl _ rfl w.heap.size bm clk #[] #[⟨.int .i64 c.num, .pointer (some ⟨q, 0, none⟩), born⟩] clk rfl hit3 hbm3 hne3 (by simpa using hbc) (Nat.le_refl _) (by simp) ?_ ?_)
  · intro h0
    unfold NoneLeft leftOf at h0
    simp at h0
  · intro e W6 he hW6 hen
    have hee := (mem_left he).1
    simp at hee
    subst hee
    have HW6 : Only (fun k => k = w.heap.size) (w.alloc (.mapIter (some bm) clk #[] clk)) W6 := by
      obtain ⟨w1, e | e, rfl⟩ := hW6
      · subst e; exact setBlock_only' _ _ _
      · subst e; exact (Only.of_bl ((Bl.refl _).drew)).trans (setBlock_only' _ _ _)
    have hW6r : W6.heap[w.heap.size]? = some (.mapIter (some bm) clk #[born] clk) := by
      obtain ⟨w1, e | e, rfl⟩ := hW6 <;> subst e <;> simp [setBlock]
    have hB6 : Bl w W6 := ((Bl.refl w).alloc _).trans_only HW6 fun k e => by omega
    have hb6m := (hB6.heap lb).trans hm
    have hl6 : w.heap.size < W6.heap.size := (Array.getElem?_eq_some_iff.1 hW6r).1
    have HB6 := hid hB6
    have HWr := hid hW6r
    have Hbm := hid hb6m
    have HV := hid (HWa.out W6 hB6)
    clear hW6r hb6m HW6 hW6 he hB6 hbm3 hit3 hm HWa
    go_wp2_with fail
    refine HV.out.mono ?_
    rintro e w7 ⟨rfl, rfl⟩
    cases hq : c.wants
    · go_wp2
      rw [rounds_succ]
      go_wp2_with (at_next; refine wpList_next_raw _ rfl _ rfl w.heap.size bm clk #[born] #[⟨.int .i64 c.num, .pointer (some ⟨q, 0, none⟩), born⟩] clk rfl HWr.out Hbm.out hne3 (by simpa using hbc) (Nat.le_refl _) (by simp) ?_ ?_)
      · intro _
        go_wp2_with (go_at_call 94; refine (HS.out _).mono ?_; rintro e w' ⟨rfl, rfl⟩)
        go_ret
        exact ⟨HB6.out, fun _ => rfl, fun e => Bool.noConfusion (hq.symm.trans e)⟩
      · intro e W8 he8
        obtain ⟨h1, h2⟩ := mem_left he8
        simp at h1
        subst h1
        simp at h2
    · go_wp2_with (at_builtin; refine wpList_append_lies _ rfl _ _ 24 rfl w7.heap.size 3 i3 (.int .i64 0) 1 8 Tryz.underlying24 ji jz0 jz1 jz2 rfl (by decide) (.slice none 0 0) 0 [] rfl (World.ownsRow_nil _ _ _ _) ⟨w7.heap.size, 0, none⟩ 1 1 [.int .i64 c.num] rfl rfl (cell_one_new _ _ _) (by simp [Value.oneCell']) (by decide) (by decide) (by decide) (by simp) (w7.heap.size + 1) (by simp) ?_)
      intro g cap w8 hown hgrow hat hlt
      have hB8 : Bl w7 w8 := ((Bl.refl w7).alloc _).trans_only (Only.of_grown hgrow) fun k e => by simp [Value.ownBlock] at e
      have hit8 := (hB8.heap hl6).trans HWr.out
      have hbm8 := (hB8.heap (Nat.lt_of_lt_of_le lb HB6.out.lt)).trans Hbm.out
      have HSo := hid (sort_one g cap w7.heap.size c.num w8 (by simpa using hown))
      have HOw := hid hown
      have HB8 := hid hB8
      clear hown hgrow hat hB8
      go_wp2
      rw [rounds_succ]
      go_wp2_with (at_next; refine wpList_next_raw _ rfl _ rfl w.heap.size bm clk #[born] #[⟨.int .i64 c.num, .pointer (some ⟨q, 0, none⟩), born⟩] clk rfl hit8 hbm8 hne3 (by simpa using hbc) (Nat.le_refl _) (by simp) ?_ ?_)
      · intro _
        go_wp2_with fail
        refine HSo.out.mono ?_
        rintro e w9 ⟨rfl, ho9, hown9⟩
        have HB9 : Hid (Bl w7 w9) := HB8.out.trans_only ho9 fun k e => by rw [e]; exact (HOw.out.lt g rfl).1
        have H9 := hid hown9
        clear ho9 hown9 HSo
        go_wp2
        go_ret
        refine ⟨HB6.out.trans HB9.out, fun e => Bool.noConfusion (hq.symm.trans e), fun _ => ⟨g, cap, rfl, (H9.out.lt g rfl).2, H9.out.cellAt 0 (by decide)⟩⟩
      · intro e W8 he8
        obtain ⟨h1, h2⟩ := mem_left he8
        simp at h1
        subst h1
        simp at h2
end
end Go.Proofs.YtnhjmiglegdamaaGreat

namespace Go.Proofs.YtnhjmiglegdamaaGreat
open Go.RowKit Go.Maps
attribute [local go_sem ↓] Go.wp_at_zero Go.wp_at_succ
theorem zero210 (w : World) : (zeroValue 210).run Tryz.prog w = .ok (.agg #[.int .i64 0, .int .i64 0, .int .i64 0, .int .i64 0, .int .i64 0, .int .i64 0, .slice none 0 0]) w := by kernel_rfl
theorem lookA_no (w : World) (gm n : Nat) (l : List (Int × Value)) (hb : w.heap[gm]? = some (.map (entsA l) n)) (k : Int) (h : ∀ z ∈ l, z.1 ≠ k) :
    (Instr.lookup 101 (.map (some gm)) (.int .i64 k) true).run Tryz.prog w = .ok (.tuple #[.agg #[.int .i64 0, .int .i64 0, .int .i64 0, .int .i64 0, .int .i64 0, .int .i64 0, .slice none 0 0], .bool false]) w := by
  have h1 := MapKept.run_findKey (P := Tryz.prog) (w := w) Tryz.underlying3 (findA_none l k h)
  have h2 := MapKept.run_checkKey (P := Tryz.prog) (w := w) (k := .int .i64 k) Tryz.underlying3 (by simp [MapKept.IsKey]) (entsA l).isEmpty 9999
  simp [Instr.lookup, Sem.run_bind, run_underlying Tryz.underlying101, Result.andThen, MapKept.run_getObj_map hb, h2, h1]
theorem lookA_yes (w : World) (gm n : Nat) (l : List (Int × Value)) (hb : w.heap[gm]? = some (.map (entsA l) n)) (k : Int) (h : ∃ z ∈ l, z.1 = k) :
    ∃ (j : Nat) (z : Int × Value), l[j]? = some z ∧ z.1 = k ∧ (Instr.lookup 101 (.map (some gm)) (.int .i64 k) true).run Tryz.prog w = .ok (.tuple #[z.2, .bool true]) w ∧ (Instr.lookup 101 (.map (some gm)) (.int .i64 k) false).run Tryz.prog w = .ok z.2 w := by
  obtain ⟨j, z, e1, e2, e3⟩ := findA_some l k h
  have h1 := MapKept.run_findKey (P := Tryz.prog) (w := w) Tryz.underlying3 e3
  have h2 := MapKept.run_checkKey (P := Tryz.prog) (w := w) (k := .int .i64 k) Tryz.underlying3 (by simp [MapKept.IsKey]) (entsA l).isEmpty 9999
  refine ⟨j, z, e1, e2, ?_, ?_⟩
  · simp [Instr.lookup, Sem.run_bind, run_underlying Tryz.underlying101, Result.andThen, MapKept.run_getObj_map hb, h2, h1]
  · simp [Instr.lookup, Sem.run_bind, run_underlying Tryz.underlying101, Result.andThen, MapKept.run_getObj_map hb, h2, h1]
theorem lookA_nil (w : World) (k : Int) :
    (Instr.lookup 101 (.map none) (.int .i64 k) true).run Tryz.prog w = .ok (.tuple #[.agg #[.int .i64 0, .int .i64 0, .int .i64 0, .int .i64 0, .int .i64 0, .int .i64 0, .slice none 0 0], .bool false]) w := by
  have h2 := MapKept.run_checkKey (P := Tryz.prog) (w := w) (k := .int .i64 k) Tryz.underlying3 (by simp [MapKept.IsKey]) true 9999
  have h0 : Instr.findNow (.int .i64) (.int .i64 k) ([] : List MapEntry) 0 = some none := rfl
  have h1 := MapKept.run_findKey (P := Tryz.prog) (w := w) Tryz.underlying3 h0
  have h3 := zero210 w
  simp [Instr.lookup, Sem.run_bind, run_underlying Tryz.underlying101, Result.andThen, h2, h1, h3]
set_option maxRecDepth 100000 in
set_option maxHeartbeats 2000000 in
theorem index_nil (w : World) (a : Option Addr) (c : Nat) (x : Int) : Calls Tryz.prog 190 #[.slice a 0 c, .int .i64 x] w fun en w' => en = .returned (.int .i64 (-1)) ∧ w' = w := by
  go_enter Tryz.func190, Tryz.ntmps190
  go_wp2
  refine wp_loop_rounds 1 ?_; rw [rounds_succ]
  go_wp2
  go_ret
  exact ⟨rfl, rfl⟩
set_option maxRecDepth 100000 in
theorem contains_nil (w : World) (a : Option Addr) (c : Nat) (x : Int) : Calls Tryz.prog 151 #[.slice a 0 c, .int .i64 x] w fun en w' => en = .returned (.bool false) ∧ w' = w := by
  have H := hid (index_nil w a c x)
  go_enter Tryz.func151, Tryz.ntmps151
  go_wp2_with (go_at_call 190; refine H.out.mono ?_; rintro en w' ⟨rfl, rfl⟩)
  go_ret
  exact ⟨rfl, rfl⟩
theorem containsR {w : World} {tag : Nat → Nat} {tc : Nat} {nv : Value} {ns : List Int} (h : Rd w tag tc 3 nv (ns.map (Value.int .i64))) (hl : ns.length ≤ 1000) (x : Int) : Calls Tryz.prog 151 #[nv, .int .i64 x] w fun en w' => en = .returned (.bool (decide (x ∈ ns))) ∧ w' = w := by
  by_cases hn : 0 < ns.length
  · obtain ⟨b, o, c, rfl, lb, _, _, hcell⟩ := h.cell (by simpa using hn)
    rw [List.length_map]
    exact contains_any w b o c ns x hl fun j d hj => hcell j _ (by simp [hj])
  · have e : ns = [] := List.length_eq_zero_iff.1 (by omega)
    subst e
    obtain ⟨a, c, rfl⟩ := h.shape
    simpa using contains_nil w a c x
/-- A question in a block: whom it awaits. -/
def QAt (w : World) (tag : Nat → Nat) (tc g o : Nat) (q : PQ) : Prop :=
  ∃ vv nv av, QR w tag tc q vv nv av ∧ w.cell? ⟨g, o + 1, none⟩ = some (.int .i64 q.nr) ∧ w.cell? ⟨g, o + 8, none⟩ = some nv ∧ w.cell? ⟨g, o + 9, none⟩ = some (.bool q.due) ∧ w.cell? ⟨g, o + 10, none⟩ = some av ∧ g < w.heap.size ∧ q.nodes.length ≤ 100
set_option maxRecDepth 100000 in
set_option maxHeartbeats 4000000 in
theorem awaits_any {w : World} {tag : Nat → Nat} {tc g o : Nat} {q : PQ} (h : QAt w tag tc g o q) (k x : Int) :
    Calls Tryz.prog 264 #[.pointer (some ⟨g, o, none⟩), .int .i64 k, .int .i64 x] w fun en w' => en = .returned (.bool (q.awaits k x)) ∧ Bl w w' := by
  obtain ⟨vv, nv, av, hq, c1, c8, _, c10, lg, hl⟩ := h
  obtain ⟨x0, x1, x2, x3, x4, x5, va, vn, vc, ba, hba, hlk⟩ : ∃ (x0 x1 x2 x3 x4 x5 : Int) (va : Option Addr) (vn vc : Nat) (ba : Bool), ba = (q.ans.any fun z => z.1 == x) ∧ (Instr.lookup 101 av (.int .i64 x) true).run Tryz.prog w = .ok (.tuple #[.agg #[.int .i64 x0, .int .i64 x1, .int .i64 x2, .int .i64 x3, .int .i64 x4, .int .i64 x5, .slice va vn vc], .bool ba]) w := by
    rcases hq.ans with ⟨rfl, e⟩ | ⟨gm, l, rfl, _, hm, hle, hz⟩
    · exact ⟨0, 0, 0, 0, 0, 0, none, 0, 0, false, by rw [e]; rfl, lookA_nil w x⟩
    · by_cases hx : ∃ z ∈ l, z.1 = x
      · obtain ⟨j, z, e1, e2, e3, _⟩ := lookA_yes w gm l.length l hm x hx
        have hj := (List.getElem?_eq_some_iff.1 e1).1
        obtain ⟨y, f1, ⟨s, f2, f3⟩⟩ := hz j q.ans[j] (List.getElem?_eq_getElem (by omega))
        rw [e1] at f1
        simp only [Option.some.injEq] at f1
        obtain ⟨a, cc, rfl⟩ := f3.shape
        refine ⟨_, _, _, _, _, _, _, _, _, true, ?_, by rw [e3, f1]; simp only; rw [f2]⟩
        symm
        rw [List.any_eq_true]
        have e4 : z.1 = q.ans[j].1 := by rw [f1]
        exact ⟨q.ans[j], List.getElem_mem _, by simpa using e4.symm.trans e2⟩
      · refine ⟨0, 0, 0, 0, 0, 0, none, 0, 0, false, ?_, lookA_no w gm l.length l hm x (fun z hz' e => hx ⟨z, hz', e⟩)⟩
        symm
        rw [List.any_eq_false]
        intro z hz' e
        obtain ⟨i, hi, rfl⟩ := List.mem_iff_getElem.1 hz'
        obtain ⟨y, f1, _⟩ := hz i q.ans[i] (List.getElem?_eq_getElem hi)
        exact hx ⟨_, List.mem_of_getElem? f1, by simpa using e⟩
  have bA := (Bl.refl w).alloc (.cells #[.int .i64 x0, .int .i64 x1, .int .i64 x2, .int .i64 x3, .int .i64 x4, .int .i64 x5, .slice va vn vc] 210)
  have HC := hid (containsR (hq.nodes.bl bA (tag' := tag) (fun _ _ e => e)) (by omega) x)
  have d1 := (bA.cell lg).trans c1
  have d8 := (bA.cell lg).trans c8
  have HA := hid bA
  obtain ⟨na, nc, hnv⟩ := hq.nodes.shape
  rw [List.length_map] at hnv
  subst hnv
  have hR : Hid (q.awaits k x = (decide (q.nr = k) && decide (x ∈ q.nodes) && !ba)) := by rw [hba]; rfl
  rw [hR.out]
  obtain ⟨avm, rfl⟩ : ∃ z, av = .map z := by
    rcases hq.ans with ⟨rfl, _⟩ | ⟨gm, l, rfl, _⟩ <;> exact ⟨_, rfl⟩
  clear hq bA hba hR
  by_cases he : q.nr = k
  · subst he
    go_enter Tryz.func264, Tryz.ntmps264
    go_wp2_with (go_at_call 151; refine HC.out.mono ?_; rintro en w' ⟨rfl, rfl⟩)
    all_goals
      go_ret
      exact ⟨by simp_all, HA.out⟩
  · go_enter Tryz.func264, Tryz.ntmps264
    go_wp2
    all_goals
      go_ret
      exact ⟨by simp [he], HA.out⟩
end Go.Proofs.YtnhjmiglegdamaaGreat
