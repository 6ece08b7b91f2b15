/-
  The layout without a unit.
-/
/-
  The set of the sealed units; does each chain hold one of them?
-/
/-
  Next of the program.
-/
import Derived.Test.YtkgjpfamjedncaaGreatPickObKeptLReadsLLaysLOwnQ
import Derived.Maps.OwnSet
namespace Go.Proofs.YtkgjpfamjedncaaGreat
open Go.RowKit

/-- What is left of a chain. -/
def keepIt (x u : Int) : Bool := decide (x = -1) || decide (u ≠ x)
def rm (x : Int) (c : List Int) : List Int := c.filter (keepIt x)
def rmTo (x : Int) (L : List (List Int)) (k : Nat) : List (List Int) := L.mapIdx fun i c => if i < k then rm x c else []

theorem keep_yes {x u : Int} (h : keepIt x u = true) : (x == -1) = true ∨ ((x == -1) = false ∧ (u != x) = true) := by
  simp [keepIt] at h ⊢; omega
theorem keep_no {x u : Int} (h : keepIt x u = false) : (x == -1) = false ∧ (u != x) = false := by
  simp [keepIt] at h ⊢; omega
theorem rmTo_len (x : Int) (L : List (List Int)) (k : Nat) : (rmTo x L k).length = L.length := by simp [rmTo]
theorem rmTo_zero (x : Int) (L : List (List Int)) : rmTo x L 0 = List.replicate L.length [] := by
  apply List.ext_getElem
  · simp [rmTo]
  · intro i h1 h2; simp [rmTo]
theorem rmTo_all (x : Int) (L : List (List Int)) : rmTo x L L.length = L.map (rm x) := by
  apply List.ext_getElem
  · simp [rmTo]
  · intro i h1 h2; simp at h2; simp [rmTo, h2]
theorem rmTo_start (x : Int) (L : List (List Int)) (k : Nat) : (rmTo x L k).set k (rm x []) = rmTo x L k := by
  apply List.ext_getElem
  · simp
  · intro i h1 h2
    rw [List.getElem_set]; split
    · rename_i e; subst e; simp [rmTo, rm]
    · rfl
theorem rmTo_succ (x : Int) (L : List (List Int)) (k : Nat) (h : k < L.length) : (rmTo x L k).set k (rm x L[k]) = rmTo x L (k + 1) := by
  apply List.ext_getElem
  · simp [rmTo]
  · intro i h1 h2
    rw [List.getElem_set]; split
    · rename_i e; subst e; simp [rmTo]
    · rename_i e
      simp only [rmTo, List.getElem_mapIdx]
      by_cases l : i < k
      · rw [if_pos l, if_pos (by omega)]
      · rw [if_neg l, if_neg (by omega)]
theorem rm_succ_yes (x : Int) (c : List Int) (k : Nat) (h : k < c.length) (hk : keepIt x c[k] = true) : rm x (c.take (k + 1)) = rm x (c.take k) ++ [c[k]] := by
  unfold rm; rw [List.take_succ_eq_append_getElem h, List.filter_append]; simp [hk]
theorem rm_succ_no (x : Int) (c : List Int) (k : Nat) (h : k < c.length) (hk : keepIt x c[k] = false) : rm x (c.take (k + 1)) = rm x (c.take k) := by
  unfold rm; rw [List.take_succ_eq_append_getElem h, List.filter_append]; simp [hk]
theorem rm_len (x : Int) (c : List Int) (k : Nat) : (rm x (c.take k)).length ≤ k := by
  unfold rm; exact Nat.le_trans (List.length_filter_le _ _) (by simp; omega)

theorem Rowy.made {base : Nat} {w : World} {g n : Nat} (h : w.ownsRow base 24 1 (.slice (some ⟨g, 0, none⟩) n n) n (List.replicate n (.slice none 0 0))) : Rowy base w g n (List.replicate n (.slice none 0 0)) (List.replicate n []) :=
  ⟨h, by simp, fun i hi hi' => by simpa using World.ownsRow_nil _ _ _ _, fun i j hi hj b _ hb => by simp [Value.ownBlock] at hb⟩

/-- A row of numbers is appended to, behind a new block, and stored. -/
theorem Rowy.pushed {w wr w1 : World} {g n : Nat} {ms : List Value} {R : List (List Int)} (h : Rowy w.heap.size wr g n ms R) (hbl : Bl w wr) {k : Nat} (hk : k < n) (hkm : k < ms.length) (hkR : k < R.length) {mk : Value} {rr : List Int} (hmk : ms[k] = mk) (hrr : R[k] = rr) {g' c : Nat} {x : Int} {o : Obj}
    (hg : (wr.alloc o).grownBy w1 mk.ownBlock) (hv : mk.ownBlock = some g' ∨ g' = wr.heap.size + 1) (ho : w1.ownsRow w.heap.size 3 1 (.slice (some ⟨g', 0, none⟩) (rr.length + 1) c) (rr.length + 1) (rr.map (Value.int .i64) ++ [.int .i64 x])) :
    w1.cell? ⟨g, k, none⟩ = some mk ∧ w1.frozen? ⟨g, k, none⟩ = false ∧
    Rowy w.heap.size (w1.setCell ⟨g, k, none⟩ (.slice (some ⟨g', 0, none⟩) (rr.length + 1) c)) g n (ms.set k (.slice (some ⟨g', 0, none⟩) (rr.length + 1) c)) (R.set k (rr ++ [x])) ∧
    Bl w (w1.setCell ⟨g, k, none⟩ (.slice (some ⟨g', 0, none⟩) (rr.length + 1) c)) := by
  subst hmk hrr
  have h1 : Rowy w.heap.size (wr.alloc o) g n ms R := h.bl ((Bl.refl _).alloc _)
  have hgrow := Only.of_grown hg
  have hown1 : w1.ownsRow w.heap.size 24 1 (.slice (some ⟨g, 0, none⟩) n n) n ms := hgrow.owns h1.own fun b hb e => ownsRow_type h1.own (h1.row k hkm hkR) (by decide) b hb e.symm
  have hlt := h.own.lt g rfl
  have hltk : ∀ b, ms[k].ownBlock = some b → w.heap.size ≤ b := fun b hb => ((h.row k hkm hkR).lt b hb).1
  refine ⟨?_, hown1.frozenAt k, h1.push hk hkm hkR hg (hv.imp id fun e => by simp; omega) ho, ?_⟩
  · rw [hown1.cellAt k (by omega), List.getElem?_eq_getElem hkm]
  · have b1 : Bl w w1 := (hbl.alloc o).trans_only hgrow (fun b hb => hltk b hb.symm)
    exact Below.setCell b1 hlt.1 _

set_option maxHeartbeats 1000000 in
theorem without_any (v : Value) (L : List (List Int)) (x : Int) (w : World) (hv : Sll w v L) (hn : L.length ≤ 4000000) (hs : ∀ c ∈ L, c.length ≤ 4000000) :
    Calls Tryz.prog 85 #[v, .int .i64 x] w fun e w' => ∃ g ms, e = .returned (.slice (some ⟨g, 0, none⟩) L.length L.length) ∧ Bl w w' ∧ Rowy w.heap.size w' g L.length ms (L.map (rm x)) := by
  obtain ⟨i24, hi, hz0, hz1, hz2⟩ := info_parts Tryz.info24
  obtain ⟨i3, ji, jz0, jz1, jz2⟩ := info_parts Tryz.info3
  by_cases h0 : L.length = 0
  · have hz : L = [] := List.length_eq_zero_iff.1 h0
    subst hz
    obtain ⟨a, c, rfl⟩ := hv.empty
    go_enter Tryz.func85, Tryz.ntmps85
    go_wp2_with (at_make; refine wpList_make_full _ rfl _ _ 39 rfl w.heap.size 24 i24 _ 1 Tryz.underlying39 hi hz0 hz1 _ _ _ _ 0 rfl rfl (by simp) (by simp) (by omega) (by unfold maxLen; omega) (by simp) ?_)
    intro w1 hown hgrow
    go_wp2
    refine wp_loop_rounds 1 ?_; rw [rounds_succ]; go_wp2
    go_ret
    have hbl : Bl w w1 := (Only.of_grown hgrow).to_bl (by simp)
    exact ⟨_, _, rfl, hbl, Rowy.made (by simpa [toList_madeCells_one] using hown)⟩
  · obtain ⟨b, o, c, rfl, hb, hc⟩ := hv.some (by omega)
    clear hv
    have hby : Hid (i24.bytes * L.length ≤ 281474976710656) := by rw [hz2]; unfold Hid; omega
    have hml : Hid (L.length ≤ maxLen) := by unfold Hid maxLen; omega
    go_enter Tryz.func85, Tryz.ntmps85
    go_wp2_with (at_make; refine wpList_make_full _ rfl _ _ 39 rfl w.heap.size 24 i24 _ 1 Tryz.underlying39 hi hz0 hz1 _ _ _ _ L.length rfl rfl rfl rfl hby.out hml.out (by simp) ?_)
    intro w1 hown hgrow
    have hbl : Bl w w1 := (Only.of_grown hgrow).to_bl (by simp)
    have R0 : Rowy w.heap.size w1 w.heap.size L.length _ _ := Rowy.made (by simpa [toList_madeCells_one] using hown)
    clear hown hgrow
    go_wp2
    go_loopw [15] (fun i wr => ∃ (k : Nat) (ms : List Value), k ≤ L.length ∧ i = .int .i64 k ∧ Bl w wr ∧ Rowy w.heap.size wr w.heap.size L.length ms (rmTo x L k)) (fun i _ => L.length - (intOf i).toNat)
    case atStart => exact ⟨0, _, Nat.zero_le _, rfl, hbl, by rw [rmTo_zero]; exact R0⟩
    case round =>
      clear hbl R0
      obtain ⟨k, ms, hk, rfl, hbl, R⟩ := hrel
      by_cases hlt : k < L.length
      · obtain ⟨m, hm, hml⟩ := hc k hlt
        have hz := hs _ (List.getElem_mem hlt)
        have hcell := (hbl.cell hb).trans hm
        have HL : Hid ((rmTo x L k).set k (rm x L[k]) = rmTo x L (k + 1)) := rmTo_succ x L k hlt
        have hRl : Hid ((rmTo x L k).length = L.length) := rmTo_len x L k
        have R : Rowy w.heap.size wr w.heap.size L.length ms ((rmTo x L k).set k (rm x (L[k].take 0))) := by rw [List.take_zero, rmTo_start]; exact R
        obtain ⟨a, c', hmv⟩ := hml.len
        simp only [List.length_map] at hmv
        have Hml : Hid (Sl w m (L[k].map (Value.int .i64))) := hml
        generalize L[k] = ch at *
        clear hm hml hs hc
        subst hmv
        go_wp2
        go_loopw [22] (fun i wx => ∃ (j : Nat) (ms : List Value), j ≤ ch.length ∧ i = .int .i64 j ∧ Bl w wx ∧ Rowy w.heap.size wx w.heap.size L.length ms ((rmTo x L k).set k (rm x (ch.take j)))) (fun i _ => ch.length - (intOf i).toNat)
        case atStart => exact ⟨0, _, Nat.zero_le _, rfl, hbl, R⟩
        case round =>
          clear R hbl hcell
          obtain ⟨j, ms, hj, rfl, hbl, R⟩ := hrel
          by_cases hjl : j < ch.length
          · cases hkp : keepIt x ch[j]
            · have hno := keep_no hkp
              have hrm : Hid (rm x (ch.take (j + 1)) = rm x (ch.take j)) := rm_succ_no x ch j hjl hkp
              obtain ⟨hx1, hx2⟩ := hno
              clear hkp
              rcases Hml.out with ⟨a9, c9, hv0, hz0⟩ | ⟨b1, o1, c1, hv1, hb1, hc1⟩
              · simp at hz0; simp [hz0] at hjl
              have hcj := (hbl.cell hb1).trans (hc1 j (by simpa using hjl))
              simp only [List.getElem_map] at hcj
              simp only [Value.slice.injEq] at hv1
              obtain ⟨rfl, hlx, rfl⟩ := hv1
              clear hlx
              clear hc1
              have HR : Hid (Rowy w.heap.size wr w.heap.size L.length ms ((rmTo x L k).set k (rm x (ch.take (j + 1))))) := by rw [hrm.out]; exact R
              clear R
              go_wp2
              go_roundw
              case rel => exact ⟨j + 1, ms, by omega, by go_num, hbl, HR.out⟩
              case measure => simp [intOf]; omega
            · rcases Hml.out with ⟨a9, c9, hv0, hz0⟩ | ⟨b1, o1, c1, hv1, hb1, hc1⟩
              · simp at hz0; simp [hz0] at hjl
              have hcj := (hbl.cell hb1).trans (hc1 j (by simpa using hjl))
              simp only [List.getElem_map] at hcj
              simp only [Value.slice.injEq] at hv1
              obtain ⟨rfl, hlx, rfl⟩ := hv1
              clear hlx
              clear hc1
              have hmk : k < ms.length := by rw [R.mlen]; exact hlt
              have hRk : k < (rmTo x L k).length := by rw [hRl.out]; exact hlt
              have hck := R.own.cellAt k (by omega)
              rw [List.getElem?_eq_getElem hmk] at hck
              have hrow := R.row k hmk (by simpa using hRk)
              simp only [List.getElem_set_self] at hrow
              generalize hmm : ms[k] = mk at *
              have Hmm := (show Hid (ms[k] = mk) from hmm); clear hmm
              have HR : Hid (Rowy w.heap.size wr w.heap.size L.length ms ((rmTo x L k).set k (rm x (ch.take j)))) := R
              have Hrow : Hid (wr.ownsRow w.heap.size 3 1 mk (rm x (ch.take j)).length ((rm x (ch.take j)).map (Value.int .i64))) := hrow
              have hlen := rm_len x ch j
              clear R hrow
              generalize hrr : rm x (ch.take j) = rr at *
              have Hrr := (show Hid (rm x (ch.take j) = rr) from hrr); clear hrr
              have hlt2 := hbl.lt
              have hrm : Hid (rm x (ch.take (j + 1)) = rr ++ [ch[j]]) := by rw [← Hrr.out]; exact rm_succ_yes x ch j hjl hkp
              have hby : Hid ((rr.length + 1) * 8 ≤ 140737488355328) := by unfold Hid; omega
              have hml : Hid (rr.length + 1 ≤ maxLen) := by unfold Hid maxLen; omega
              have hya := keep_yes hkp
              clear hkp
              rcases hya with hx1 | ⟨hx1, hx2⟩
              all_goals
                go_wp2_with (at_builtin; refine wpList_append_lies _ rfl _ _ 24 rfl w.heap.size 3 i3 (.int .i64 0) 1 8 Tryz.underlying24 ji jz0 jz1 jz2 rfl (by decide) mk rr.length _ rfl (Hrow.out.alloc _) ⟨wr.heap.size, 0, none⟩ 1 1 [.int .i64 ch[j]] rfl rfl (cell_one_new _ _ _) (by simp [Value.oneCell']) (by decide) hml.out hby.out (by simp; omega) (wr.heap.size + 1) (by simp) ?_)
                intro g' cap w1 hown' hgrow hat hlt'
                have HP := HR.out.pushed hbl hlt hmk (by simpa using hRk) Hmm.out (by simp) hgrow hat hown'
                obtain ⟨hc1, hf1, R1, b1⟩ := HP
                rw [List.set_set, ← hrm.out] at R1
                have HR1 := (show Hid _ from R1)
                have Hb1 := (show Hid _ from b1)
                clear hown' hgrow hat HR Hrow R1 b1 hrm Hmm Hrr hck hcj
                go_wp2
                go_roundw
                case rel => exact ⟨j + 1, _, by omega, by go_num, Hb1.out, HR1.out⟩
                case measure => simp [intOf]; omega
          · have R2 : Rowy w.heap.size wr w.heap.size L.length ms (rmTo x L (k + 1)) := by
              have := R
              rw [List.take_of_length_le (by omega), HL.out] at this
              exact this
            clear R
            go_wp2
            go_roundw
            case rel => exact ⟨k + 1, ms, by omega, by go_num, hbl, R2⟩
            case measure => simp [intOf]; omega
      · have hk2 : k = L.length := by omega
        subst hk2
        rw [rmTo_all] at R
        go_wp2
        go_ret
        exact ⟨_, _, rfl, hbl, R⟩
end Go.Proofs.YtkgjpfamjedncaaGreat

namespace Go.Proofs.YtkgjpfamjedncaaGreat
open Go.RowKit Go.Maps

theorem law3 : Keyed Tryz.prog 3 := int_keyed Tryz.underlying3
theorem zero151 (w : World) : (zeroValue 162).run Tryz.prog w = .ok (.agg #[]) w := by kernel_rfl

/-- The set of the numbers of a list. -/
def Sd (zs : List Int) : DataW Unit := setOf (.agg []) (zs.map (Lit.int .i64))

theorem Sd_nil : Sd [] = .map [] := by simp [Sd, setOf]
theorem Sd_snoc (zs : List Int) (x : Int) : Sd (zs ++ [x]) = (Sd zs).put (.int .i64 x) (.agg []) := by
  unfold Sd; rw [List.map_append, List.map_singleton, setOf_snoc]
theorem any_int (x : Int) : ∀ l : List Int, l.any ((fun y : Lit => y.sameKey (.int .i64 x)) ∘ Lit.int .i64) = decide (x ∈ l)
  | [] => rfl
  | a :: r => by
    rw [List.any_cons, any_int x r]
    show (decide (IntKind.i64 = IntKind.i64 ∧ a = x) || decide (x ∈ r)) = _
    by_cases e : a = x
    · subst e; simp
    · have e' : ¬ x = a := fun h => e h.symm
      simp [e, e']
theorem has_Sd (zs : List Int) (x : Int) : Maps.has (Sd zs) (.int .i64 x) = decide (x ∈ zs) := by
  unfold Sd
  rw [has_setOf _ _ _ (fun y hy => by obtain ⟨_, _, rfl⟩ := List.mem_map.1 hy; trivial), List.any_map]
  exact any_int x _

/-- The set lies in block b, and the variable that leads to it in block p. -/
structure SetAt (w : World) (p b : Nat) (zs : List Int) : Prop where
  own : w.ownsMap Tryz.prog 3 (unitElem (H := Unit)) b zs.length (Sd zs)
  var : w.cell? ⟨p, 0, none⟩ = some (.map (some b))
  lt : p < w.heap.size
  ltb : b < w.heap.size

def wfAll (zs : List Int) : Prop := ∀ z ∈ zs, (Lit.int .i64 z).wf = true

theorem SetAt.bl {w w' : World} {p b : Nat} {zs : List Int} (h : SetAt w p b zs) (hb : Bl w w') : SetAt w' p b zs := by
  refine ⟨?_, (hb.cell h.lt).trans h.var, Nat.lt_of_lt_of_le h.lt hb.lt, Nat.lt_of_lt_of_le h.ltb hb.lt⟩
  exact h.own.kept (row := none) ⟨hb.os, hb.tape, hb.output, hb.size, fun k hk _ => hb.block k hk⟩ (by simp)

set_option maxHeartbeats 400000 in
theorem isSealed_any (u : Int) (p b : Nat) (zs : List Int) (w : World) (h : SetAt w p b zs) (hu : (Lit.int .i64 u).wf = true) :
    Calls Tryz.prog 109 #[.int .i64 u, .pointer (some ⟨p, 0, none⟩)] w fun e w' => e = .returned (.bool (decide (u ∈ zs))) ∧ Bl w w' := by
  have hv := h.var
  have hkey : keyOf Tryz.prog 3 (.int .i64 u) = some (.int .i64 u) := keyOf_int_mk Tryz.underlying3 hu
  have hh := has_Sd zs u
  go_enter Tryz.func109, Tryz.ntmps109
  go_wp2_with (at_lookup; refine wpList_lookup_own_unit _ rfl _ _ 161 rfl 3 162 law3 Tryz.underlying161 (zero151 _) b zs.length _ rfl h.own _ _ rfl hkey ?_)
  go_ret
  exact ⟨rfl, (Bl.refl _).alloc _⟩

set_option maxHeartbeats 400000 in
theorem indexFunc_any (v : Value) (us : List Int) (p b : Nat) (zs : List Int) (w : World) (hv : Sl w v (us.map (Value.int .i64))) (h : SetAt w p b zs) (hu : wfAll us) (hs : us.length ≤ 4000000) :
    Calls Tryz.prog 116 #[v, .func (.func 109) #[] #[.pointer (some ⟨p, 0, none⟩)]] w fun e w' => ∃ n : Int, e = .returned (.int .i64 n) ∧ (0 ≤ n ↔ ∃ u ∈ us, u ∈ zs) ∧ Bl w w' := by
  by_cases h0 : us.length = 0
  · have hz : us = [] := List.length_eq_zero_iff.1 h0
    subst hz
    obtain ⟨a, c, rfl⟩ := hv.empty
    go_enter Tryz.func116, Tryz.ntmps116
    go_wp2
    refine wp_loop_rounds 1 ?_; rw [rounds_succ]; go_wp2
    go_ret
    exact ⟨_, rfl, by simp, Bl.refl _⟩
  rcases hv with ⟨a9, c9, rfl, hz⟩ | ⟨b1, o, c, rfl, hb, hc⟩
  · simp at hz; simp [hz] at h0
  simp only [List.length_map] at hc ⊢
  have Hs : Hid (SetAt w p b zs) := h
  clear h
  go_enter Tryz.func116, Tryz.ntmps116
  go_wp2
  go_loopw [8] (fun i wr => ∃ k : Nat, k ≤ us.length ∧ i = .int .i64 k ∧ Bl w wr ∧ ∀ u ∈ us.take k, ¬ u ∈ zs) (fun i _ => us.length - (intOf i).toNat)
  case atStart => exact ⟨0, Nat.zero_le _, rfl, Bl.refl _, by simp⟩
  case round =>
    obtain ⟨k, hk, rfl, hbl, hno⟩ := hrel
    by_cases hlt : k < us.length
    · have hcell := (hbl.cell hb).trans (hc k hlt)
      simp only [List.getElem_map] at hcell
      have hwf := hu _ (List.getElem_mem hlt)
      have Hno : Hid (∀ u ∈ us.take k, ¬ u ∈ zs) := hno
      have Hhu : Hid (wfAll us) := hu
      clear hc hno hu
      have Hm : Hid (us[k] ∈ us) := List.getElem_mem hlt
      have Ht : Hid (us.take (k + 1) = us.take k ++ [us[k]]) := List.take_succ_eq_append_getElem hlt
      generalize us[k] = u at *
      by_cases hin : u ∈ zs
      · have hd : decide (u ∈ zs) = true := by simpa using hin
        clear hin
        go_wp2_with fail
        refine (isSealed_any u p b zs _ (Hs.out.bl hbl) hwf).mono ?_
        rw [hd]
        rintro e w' ⟨rfl, hbl'⟩
        go_wp2
        go_ret
        exact ⟨_, rfl, iff_of_true (by omega) ⟨u, Hm.out, by simpa using hd⟩, hbl.trans hbl'⟩
      · have hd : decide (u ∈ zs) = false := by simpa using hin
        have Hin : Hid (¬ u ∈ zs) := hin
        clear hin
        go_wp2_with fail
        refine (isSealed_any u p b zs _ (Hs.out.bl hbl) hwf).mono ?_
        rw [hd]
        rintro e w' ⟨rfl, hbl'⟩
        go_wp2
        go_roundw
        case rel =>
          refine ⟨k + 1, by omega, by go_num, hbl.trans hbl', ?_⟩
          rw [Ht.out]
          intro y hy
          rcases List.mem_append.1 hy with hy | hy
          · exact Hno.out y hy
          · simp at hy; subst hy; exact Hin.out
        case measure => simp [intOf]; omega
    · have Hno : Hid (∀ u ∈ us.take k, ¬ u ∈ zs) := hno
      clear hno
      go_wp2
      go_ret
      refine ⟨_, rfl, iff_of_false (by omega) ?_, hbl⟩
      rintro ⟨y, hy, hz⟩
      refine Hno.out y ?_ hz
      rw [List.take_of_length_le (by omega)]
      exact hy

set_option maxHeartbeats 400000 in
theorem containsFunc_any (v : Value) (us : List Int) (p b : Nat) (zs : List Int) (w : World) (hv : Sl w v (us.map (Value.int .i64))) (h : SetAt w p b zs) (hu : wfAll us) (hs : us.length ≤ 4000000) :
    Calls Tryz.prog 110 #[v, .func (.func 109) #[] #[.pointer (some ⟨p, 0, none⟩)]] w fun e w' => e = .returned (.bool (us.any fun u => decide (u ∈ zs))) ∧ Bl w w' := by
  go_enter Tryz.func110, Tryz.ntmps110
  go_wp2_with fail
  refine (indexFunc_any v us p b zs _ hv h hu hs).mono ?_
  rintro e w' ⟨n, rfl, hn, hbl⟩
  have Hn : Hid (0 ≤ n ↔ ∃ u ∈ us, u ∈ zs) := hn
  clear hn
  go_wp2
  go_ret
  refine ⟨ret_bool ?_, hbl⟩
  rw [Bool.eq_iff_iff]
  simpa using Hn.out

theorem Sll.len {w : World} {v : Value} {L : List (List Int)} (h : Sll w v L) : ∃ a c, v = .slice a L.length c := by
  obtain ⟨ms, h1, h2, _⟩ := h
  obtain ⟨a, c, rfl⟩ := h1.len
  exact ⟨a, c, by rw [h2]⟩

theorem run_makeMap_sized (n : Int) (w : World) : (Instr.makeMap 161 (some (.int .i64 n))).run Tryz.prog w = .ok (.map (some w.heap.size)) (w.alloc (.map #[] 0)) := by
  kernel_rfl

set_option maxHeartbeats 1000000 in
theorem eachHasOne_any (v u : Value) (L : List (List Int)) (zs : List Int) (w : World) (hv : Sll w v L) (hu : Sl w u (zs.map (Value.int .i64))) (hn : L.length ≤ 4000000) (hs : ∀ c ∈ L, c.length ≤ 4000000 ∧ wfAll c) (hz : zs.length ≤ 4000000) (hw : wfAll zs) :
    Calls Tryz.prog 86 #[v, u] w fun e w' => e = .returned (.bool (L.all fun c => c.any fun u => decide (u ∈ zs))) ∧ Bl w w' := by
  have hmm := run_makeMap_sized
  obtain ⟨a1, c1, hu1⟩ := hu.len
  simp only [List.length_map] at hu1
  obtain ⟨a2, c2, hv1⟩ := hv.len
  subst hu1 hv1
  have Hu : Hid (Sl w (.slice a1 zs.length c1) (zs.map (Value.int .i64))) := hu
  have Hv : Hid (Sll w (.slice a2 L.length c2) L) := hv
  have Hw : Hid (wfAll zs) := hw
  have HL : Hid (∀ c ∈ L, c.length ≤ 4000000 ∧ wfAll c) := hs
  clear hu hv hw hs
  go_enter Tryz.func86, Tryz.ntmps86
  go_wp2
  go_loopw [16] (fun i wr => ∃ k : Nat, k ≤ zs.length ∧ i = .int .i64 k ∧ Bl w wr ∧ SetAt wr (w.heap.size + 1) w.heap.size (zs.take k)) (fun i _ => zs.length - (intOf i).toNat)
  case atStart =>
    refine ⟨0, Nat.zero_le _, rfl, ((Bl.refl _).alloc _).alloc _, ?_⟩
    rw [List.take_zero]
    refine ⟨?_, by simp, by simp, by simp; omega⟩
    rw [Sd_nil]
    exact (World.ownsMap_made _ _ _ _).alloc _
  case round =>
    obtain ⟨k, hk, rfl, hbl, hS⟩ := hrel
    by_cases hlt : k < zs.length
    · rcases Hu.out with ⟨a9, c9, hv0, hz0⟩ | ⟨b1, o1, c1', hv1, hb1, hc1⟩
      · simp at hz0; simp [hz0] at hlt
      have hcj := (hbl.cell hb1).trans (hc1 k (by simpa using hlt))
      simp only [List.getElem_map] at hcj
      simp only [Value.slice.injEq] at hv1
      obtain ⟨rfl, hlx, rfl⟩ := hv1
      clear hlx hc1
      have hwf := Hw.out _ (List.getElem_mem hlt)
      have hkey : keyOf Tryz.prog 3 (.int .i64 zs[k]) = some (.int .i64 zs[k]) := keyOf_int_mk Tryz.underlying3 hwf
      have hvar := hS.var
      have hown := hS.own
      have h63 : Hid ((zs.take k).length < maxLen) := by unfold Hid maxLen; simp; omega
      have hsz := hbl.lt
      have HS : Hid (SetAt wr (w.heap.size + 1) w.heap.size (zs.take k)) := hS
      have Ht : Hid (zs.take (k + 1) = zs.take k ++ [zs[k]]) := List.take_succ_eq_append_getElem hlt
      clear hS
      generalize zs[k] = x at *
      generalize hys : zs.take k = ys at *
      clear hys
      have hown2 : Hid (wr.ownsMap Tryz.prog 3 (unitElem (H := Unit)) w.heap.size ys.length (Sd ys)) := hown
      clear hown
      go_wp2_with (at_mapUpdate; refine wpList_mapUpdate_own _ rfl _ _ _ 161 rfl 3 162 law3 Tryz.underlying161 (unitElem (H := Unit)) w.heap.size ys.length _ rfl hown2.out h63.out _ _ _ rfl rfl hkey _ [] unitElem_mk ?_)
      intro w1 hown1 hgrow1
      have hbl1 : Hid (Bl w w1) := hbl.trans_only (Only.of_grown hgrow1) (fun n hn => by cases hn; exact Nat.le_refl _)
      have HS1 : Hid (SetAt w1 (w.heap.size + 1) w.heap.size (zs.take (k + 1))) := by
        have h1 := HS.out.lt
        have h2 := HS.out.ltb
        refine ⟨?_, ((Only.of_grown hgrow1).cell h1 (by simp)).trans HS.out.var, Nat.lt_of_lt_of_le h1 hgrow1.size, Nat.lt_of_lt_of_le h2 hgrow1.size⟩
        rw [Ht.out, Sd_snoc, List.length_append]
        exact hown1
      clear hown1 hgrow1 hown2 HS Ht hbl
      go_wp2
      go_roundw
      case rel => exact ⟨k + 1, by omega, by go_num, hbl1.out, HS1.out⟩
      case measure => simp [intOf]; omega
    · have ht : zs.take k = zs := List.take_of_length_le (by omega)
      rw [ht] at hS
      have HS : Hid (SetAt wr (w.heap.size + 1) w.heap.size zs) := hS
      have Hb : Hid (Bl w wr) := hbl
      clear hS hbl ht
      go_wp2
      rename_i wx
      go_loopw [27] (fun i wr => ∃ k : Nat, k ≤ L.length ∧ i = .int .i64 k ∧ Bl w wr ∧ SetAt wr (w.heap.size + 1) w.heap.size zs ∧ ((L.take k).all fun c => c.any fun u => decide (u ∈ zs)) = true) (fun i _ => L.length - (intOf i).toNat)
      case atStart => exact ⟨0, Nat.zero_le _, rfl, Hb.out, HS.out, by simp⟩
      case round =>
        clear HS Hb
        obtain ⟨m, hm, rfl, hbl, hS, hall⟩ := hrel
        have HS : Hid (SetAt wr (w.heap.size + 1) w.heap.size zs) := hS
        have Hall : Hid (((L.take m).all fun c => c.any fun u => decide (u ∈ zs)) = true) := hall
        clear hS hall
        by_cases hlt2 : m < L.length
        · obtain ⟨b2, o2, c2', hv2, hb2, hc2⟩ := Hv.out.some (by omega)
          obtain ⟨mv, hmv, hml⟩ := hc2 m hlt2
          have hcj := (hbl.cell hb2).trans hmv
          simp only [Value.slice.injEq] at hv2
          obtain ⟨rfl, hlx, rfl⟩ := hv2
          clear hlx hc2 hmv
          have hch := HL.out _ (List.getElem_mem hlt2)
          have Hml : Hid (Sl wr mv (L[m].map (Value.int .i64))) := hml.bl hbl
          have Hlen := (show Hid _ from hch)
          have Ht : Hid (L.take (m + 1) = L.take m ++ [L[m]]) := List.take_succ_eq_append_getElem hlt2
          have Hmem : Hid (L[m] ∈ L) := List.getElem_mem hlt2
          clear hch hml
          generalize L[m] = ch at *
          cases hany : (ch.any fun u => decide (u ∈ zs))
          · have Hany := (show Hid _ from hany)
            clear hany
            go_wp2_with fail
            refine (containsFunc_any mv ch _ _ zs _ Hml.out HS.out Hlen.out.2 Hlen.out.1).mono ?_
            rw [Hany.out]
            rintro e w' ⟨rfl, hbl'⟩
            go_wp2
            go_ret
            refine ⟨ret_bool ?_, hbl.trans hbl'⟩
            symm
            rw [List.all_eq_false]
            exact ⟨ch, Hmem.out, by rw [Hany.out]; simp⟩
          · have Hany := (show Hid _ from hany)
            clear hany
            go_wp2_with fail
            refine (containsFunc_any mv ch _ _ zs _ Hml.out HS.out Hlen.out.2 Hlen.out.1).mono ?_
            rw [Hany.out]
            rintro e w' ⟨rfl, hbl'⟩
            go_wp2
            go_roundw
            case rel =>
              refine ⟨m + 1, by omega, by go_num, hbl.trans hbl', HS.out.bl hbl', ?_⟩
              rw [Ht.out, List.all_append, Hall.out, List.all_cons, Hany.out]
              rfl
            case measure => simp [intOf]; omega
        · go_wp2
          go_ret
          refine ⟨ret_bool ?_, hbl⟩
          have := Hall.out
          rw [List.take_of_length_le (by omega)] at this
          exact this.symm

end Go.Proofs.YtkgjpfamjedncaaGreat

namespace Go.Proofs.YtkgjpfamjedncaaGreat
open Go.RowKit

def sealedAll (L : List (List Int)) (zs : List Int) : Bool := L.all fun c => c.any fun u => decide (u ∈ zs)
/-- The error of Next, and its layout. -/
def nerr (L : List (List Int)) (x : Int) (zs : List Int) : Int :=
  if x ≠ -1 ∧ leaves L x ≠ 0 then leaves L x else if sealedAll (L.map (rm x)) zs = true then 0 else 5
def nres (L : List (List Int)) (x : Int) (zs : List Int) : List (List Int) := if nerr L x zs = 0 then L.map (rm x) else []

/-- A layout that came out, in memory of its own from 'base' on; or nil. -/
def Outl (base : Nat) (w : World) (r : Value) (R : List (List Int)) : Prop :=
  (r = .slice none 0 0 ∧ R = []) ∨ ∃ g n ms, r = .slice (some ⟨g, 0, none⟩) n n ∧ Rowy base w g n ms R

theorem leaves_vals (L : List (List Int)) (x : Int) : leaves L x = 3 ∨ leaves L x = 4 ∨ leaves L x = 0 := by
  unfold leaves; split; exact .inl rfl; split; exact .inr (.inl rfl); exact .inr (.inr rfl)

theorem rm_wf {c : List Int} (h : wfAll c) (x : Int) : wfAll (rm x c) := fun z hz => h z (List.mem_filter.1 hz).1
theorem rm_le (x : Int) (c : List Int) : (rm x c).length ≤ c.length := List.length_filter_le _ _

set_option maxHeartbeats 1000000 in
theorem next_any (v u : Value) (L : List (List Int)) (x : Int) (zs : List Int) (w : World) (hv : Sll w v L) (hu : Sl w u (zs.map (Value.int .i64))) (hn : L.length ≤ 4000000) (hs : ∀ c ∈ L, c.length ≤ 4000000 ∧ wfAll c) (hz : zs.length ≤ 4000000) (hw : wfAll zs) :
    Calls Tryz.prog 62 #[v, .int .i64 x, u] w fun e w' => ∃ r, e = .returned (.tuple #[r, .int .i64 (nerr L x zs)]) ∧ Bl w w' ∧ Outl w.heap.size w' r (nres L x zs) := by
  have hs1 : ∀ c ∈ L, c.length ≤ 4000000 := fun c hc => (hs c hc).1
  by_cases hA : x ≠ -1 ∧ leaves L x ≠ 0
  · have hx : (x != -1) = true := by simpa using hA.1
    have hne : nerr L x zs = leaves L x := by simp [nerr, hA]
    have hnr : nres L x zs = [] := by simp [nres, hne, hA.2]
    have hl : (leaves L x != 0) = true := by simpa using hA.2
    rw [hne, hnr]
    clear hA hne hnr
    generalize hq : leaves L x = q at *
    have Hq := (show Hid _ from hq)
    clear hq
    go_enter Tryz.func62, Tryz.ntmps62
    go_wp2_with fail
    refine (leavable_any v L x _ hv hn hs1).mono ?_
    rw [Hq.out]
    rintro e w' ⟨rfl, rfl⟩
    go_wp2
    go_ret2
    exact ⟨_, rfl, Bl.refl _, .inl ⟨rfl, rfl⟩⟩
  · have hne : nerr L x zs = if sealedAll (L.map (rm x)) zs = true then 0 else 5 := by simp only [nerr, if_neg hA]
    have hkey : ∀ w1, Bl w w1 → Calls Tryz.prog 85 #[v, .int .i64 x] w1 fun e w' => ∃ g ms, e = .returned (.slice (some ⟨g, 0, none⟩) L.length L.length) ∧ Bl w1 w' ∧ Rowy w1.heap.size w' g L.length ms (L.map (rm x)) := fun w1 hb => without_any v L x w1 (hv.bl hb) hn hs1
    have Hkey := (show Hid _ from hkey)
    have Hne := (show Hid _ from hne)
    clear hkey hne
    have hlen : (L.map (rm x)).length ≤ 4000000 := by simpa using hn
    have HsR : Hid (∀ c ∈ L.map (rm x), c.length ≤ 4000000 ∧ wfAll c) := by
      intro c hc
      obtain ⟨d, hd, rfl⟩ := List.mem_map.1 hc
      exact ⟨Nat.le_trans (rm_le x d) (hs d hd).1, rm_wf (hs d hd).2 x⟩
    by_cases hx1 : x = -1
    · have hx : (x != -1) = false := by simp [hx1]
      clear hx1
      cases hall : sealedAll (L.map (rm x)) zs
      · have Hall : Hid (((L.map (rm x)).all fun c => c.any fun u => decide (u ∈ zs)) = false) := hall
        have Hfin : Hid (nerr L x zs = 5 ∧ nres L x zs = []) := by
          have h5 : nerr L x zs = 5 := by rw [Hne.out, hall]; simp
          exact ⟨h5, by simp [nres, h5]⟩
        clear hall Hne hlen hA
        go_enter Tryz.func62, Tryz.ntmps62
        go_wp2_with fail
        refine (Hkey.out _ (Bl.refl _)).mono ?_
        rintro e w1 ⟨g, ms, rfl, hb1, R1⟩
        have HR := (show Hid _ from R1)
        clear R1
        go_wp2_with fail
        refine (eachHasOne_any _ u _ zs _ HR.out.sll (hu.bl hb1) (by simpa using hn) HsR.out hz hw).mono ?_
        rw [Hall.out]
        rintro e w2 ⟨rfl, hb2⟩
        go_wp2
        go_ret2
        exact ⟨_, by rw [Hfin.out.1]; rfl, hb1.trans hb2, by rw [Hfin.out.2]; exact .inl ⟨rfl, rfl⟩⟩
      · have Hall : Hid (((L.map (rm x)).all fun c => c.any fun u => decide (u ∈ zs)) = true) := hall
        have Hfin : Hid (nerr L x zs = 0 ∧ nres L x zs = L.map (rm x)) := by
          have h5 : nerr L x zs = 0 := by rw [Hne.out, hall]; simp
          exact ⟨h5, by simp [nres, h5]⟩
        clear hall Hne hlen hA
        go_enter Tryz.func62, Tryz.ntmps62
        go_wp2_with fail
        refine (Hkey.out _ (Bl.refl _)).mono ?_
        rintro e w1 ⟨g, ms, rfl, hb1, R1⟩
        have HR := (show Hid _ from R1)
        clear R1
        go_wp2_with fail
        refine (eachHasOne_any _ u _ zs _ HR.out.sll (hu.bl hb1) (by simpa using hn) HsR.out hz hw).mono ?_
        rw [Hall.out]
        rintro e w2 ⟨rfl, hb2⟩
        go_wp2
        go_ret2
        exact ⟨_, by rw [Hfin.out.1]; rfl, hb1.trans hb2, by rw [Hfin.out.2]; exact .inr ⟨_, _, _, rfl, HR.out.bl hb2⟩⟩
    · have hx : (x != -1) = true := by simp [hx1]
      have Hl : Hid (leaves L x = 0) := by unfold Hid; by_cases h : leaves L x = 0; exact h; exact absurd ⟨hx1, h⟩ hA
      clear hx1
      cases hall : sealedAll (L.map (rm x)) zs
      · have Hall : Hid (((L.map (rm x)).all fun c => c.any fun u => decide (u ∈ zs)) = false) := hall
        have Hfin : Hid (nerr L x zs = 5 ∧ nres L x zs = []) := by
          have h5 : nerr L x zs = 5 := by rw [Hne.out, hall]; simp
          exact ⟨h5, by simp [nres, h5]⟩
        clear hall Hne hlen hA
        go_enter Tryz.func62, Tryz.ntmps62
        go_wp2_with fail
        refine (leavable_any v L x _ hv hn hs1).mono ?_
        rw [Hl.out]
        rintro e w' ⟨rfl, rfl⟩
        go_wp2_with fail
        refine (Hkey.out _ (Bl.refl _)).mono ?_
        rintro e w1 ⟨g, ms, rfl, hb1, R1⟩
        have HR := (show Hid _ from R1)
        clear R1
        go_wp2_with fail
        refine (eachHasOne_any _ u _ zs _ HR.out.sll (hu.bl hb1) (by simpa using hn) HsR.out hz hw).mono ?_
        rw [Hall.out]
        rintro e w2 ⟨rfl, hb2⟩
        go_wp2
        go_ret2
        exact ⟨_, by rw [Hfin.out.1]; rfl, hb1.trans hb2, by rw [Hfin.out.2]; exact .inl ⟨rfl, rfl⟩⟩
      · have Hall : Hid (((L.map (rm x)).all fun c => c.any fun u => decide (u ∈ zs)) = true) := hall
        have Hfin : Hid (nerr L x zs = 0 ∧ nres L x zs = L.map (rm x)) := by
          have h5 : nerr L x zs = 0 := by rw [Hne.out, hall]; simp
          exact ⟨h5, by simp [nres, h5]⟩
        clear hall Hne hlen hA
        go_enter Tryz.func62, Tryz.ntmps62
        go_wp2_with fail
        refine (leavable_any v L x _ hv hn hs1).mono ?_
        rw [Hl.out]
        rintro e w' ⟨rfl, rfl⟩
        go_wp2_with fail
        refine (Hkey.out _ (Bl.refl _)).mono ?_
        rintro e w1 ⟨g, ms, rfl, hb1, R1⟩
        have HR := (show Hid _ from R1)
        clear R1
        go_wp2_with fail
        refine (eachHasOne_any _ u _ zs _ HR.out.sll (hu.bl hb1) (by simpa using hn) HsR.out hz hw).mono ?_
        rw [Hall.out]
        rintro e w2 ⟨rfl, hb2⟩
        go_wp2
        go_ret2
        exact ⟨_, by rw [Hfin.out.1]; rfl, hb1.trans hb2, by rw [Hfin.out.2]; exact .inr ⟨_, _, _, rfl, HR.out.bl hb2⟩⟩

set_option maxHeartbeats 400000 in
theorem Next_any (v u : Value) (L : List (List Int)) (x : Int) (zs : List Int) (w : World) (hv : Sll w v L) (hu : Sl w u (zs.map (Value.int .i64))) (hn : L.length ≤ 4000000) (hs : ∀ c ∈ L, c.length ≤ 4000000 ∧ wfAll c) (hz : zs.length ≤ 4000000) (hw : wfAll zs) :
    Calls Tryz.prog 23 #[v, .int .i64 x, u] w fun e w' => ∃ r, e = .returned (.tuple #[r, .int .i64 (nerr L x zs)]) ∧ Bl w w' ∧ Outl w.heap.size w' r (nres L x zs) := by
  go_enter Tryz.func23, Tryz.ntmps23
  go_wp2_with fail
  refine (next_any v u L x zs _ hv hu hn hs hz hw).mono ?_
  rintro e w' ⟨r, rfl, hb, ho⟩
  have Ho := (show Hid _ from ho)
  clear ho
  go_wp2
  go_ret2
  exact ⟨_, rfl, hb, Ho.out⟩

end Go.Proofs.YtkgjpfamjedncaaGreat
