/-
  The layout without a unit.
-/
import Derived.Test.YtkgjpfamjedncaaGreatOwn
namespace Go.Proofs.YtkgjpfamjedncaaGreat
open Go.RowKit

/-- What is left of a chain. -/
def keepIt (x u : Int) : Bool := decide (x = -1) || decide (u ≠ x)
def rm (x : Int) (c : List Int) : List Int := c.filter (keepIt x)
def rmTo (x : Int) (L : List (List Int)) (k : Nat) : List (List Int) := L.mapIdx fun i c => if i < k then rm x c else []

theorem keep_yes {x u : Int} (h : keepIt x u = true) : (x == -1) = true ∨ ((x == -1) = false ∧ (u != x) = true) := by
  simp [keepIt] at h ⊢; omega
theorem keep_no {x u : Int} (h : keepIt x u = false) : (x == -1) = false ∧ (u != x) = false := by
  simp [keepIt] at h ⊢; omega
theorem rmTo_len (x : Int) (L : List (List Int)) (k : Nat) : (rmTo x L k).length = L.length := by simp [rmTo]
theorem rmTo_zero (x : Int) (L : List (List Int)) : rmTo x L 0 = List.replicate L.length [] := by
  apply List.ext_getElem
  · simp [rmTo]
  · intro i h1 h2; simp [rmTo]
theorem rmTo_all (x : Int) (L : List (List Int)) : rmTo x L L.length = L.map (rm x) := by
  apply List.ext_getElem
  · simp [rmTo]
  · intro i h1 h2; simp at h2; simp [rmTo, h2]
theorem rmTo_start (x : Int) (L : List (List Int)) (k : Nat) : (rmTo x L k).set k (rm x []) = rmTo x L k := by
  apply List.ext_getElem
  · simp
  · intro i h1 h2
    rw [List.getElem_set]; split
    · rename_i e; subst e; simp [rmTo, rm]
    · rfl
theorem rmTo_succ (x : Int) (L : List (List Int)) (k : Nat) (h : k < L.length) : (rmTo x L k).set k (rm x L[k]) = rmTo x L (k + 1) := by
  apply List.ext_getElem
  · simp [rmTo]
  · intro i h1 h2
    rw [List.getElem_set]; split
    · rename_i e; subst e; simp [rmTo]
    · rename_i e
      simp only [rmTo, List.getElem_mapIdx]
      by_cases l : i < k
      · rw [if_pos l, if_pos (by omega)]
      · rw [if_neg l, if_neg (by omega)]
theorem rm_succ_yes (x : Int) (c : List Int) (k : Nat) (h : k < c.length) (hk : keepIt x c[k] = true) : rm x (c.take (k + 1)) = rm x (c.take k) ++ [c[k]] := by
  unfold rm; rw [List.take_succ_eq_append_getElem h, List.filter_append]; simp [hk]
theorem rm_succ_no (x : Int) (c : List Int) (k : Nat) (h : k < c.length) (hk : keepIt x c[k] = false) : rm x (c.take (k + 1)) = rm x (c.take k) := by
  unfold rm; rw [List.take_succ_eq_append_getElem h, List.filter_append]; simp [hk]
theorem rm_len (x : Int) (c : List Int) (k : Nat) : (rm x (c.take k)).length ≤ k := by
  unfold rm; exact Nat.le_trans (List.length_filter_le _ _) (by simp; omega)

theorem Rowy.made {base : Nat} {w : World} {g n : Nat} (h : w.ownsRow base 24 1 (.slice (some ⟨g, 0, none⟩) n n) n (List.replicate n (.slice none 0 0))) : Rowy base w g n (List.replicate n (.slice none 0 0)) (List.replicate n []) :=
  ⟨h, by simp, fun i hi hi' => by simpa using World.ownsRow_nil _ _ _ _, fun i j hi hj b _ hb => by simp [Value.ownBlock] at hb⟩

/-- What turns lies behind all that was there. -/
theorem Bl.trans_only {S : Nat → Prop} {a b c : World} (h : Bl a b) (k : Only S b c) (hs : ∀ n, S n → a.heap.size ≤ n) : Bl a c :=
  ⟨k.os.trans h.os, k.tape.trans h.tape, k.output.trans h.output, Nat.le_trans h.lt k.size, fun i hi => (k.block i (Nat.lt_of_lt_of_le hi h.lt) (fun e => by have := hs i e; omega)).trans (h.block i hi)⟩

/-- A row of numbers is appended to, behind a new block, and stored. -/
theorem Rowy.pushed {w wr w1 : World} {g n : Nat} {ms : List Value} {R : List (List Int)} (h : Rowy w.heap.size wr g n ms R) (hbl : Bl w wr) {k : Nat} (hk : k < n) (hkm : k < ms.length) (hkR : k < R.length) {mk : Value} {rr : List Int} (hmk : ms[k] = mk) (hrr : R[k] = rr) {g' c : Nat} {x : Int} {o : Obj}
    (hg : (wr.alloc o).grownBy w1 mk.ownBlock) (hv : mk.ownBlock = some g' ∨ g' = wr.heap.size + 1) (ho : w1.ownsRow w.heap.size 3 1 (.slice (some ⟨g', 0, none⟩) (rr.length + 1) c) (rr.length + 1) (rr.map (Value.int .i64) ++ [.int .i64 x])) :
    w1.cell? ⟨g, k, none⟩ = some mk ∧ w1.frozen? ⟨g, k, none⟩ = false ∧
    Rowy w.heap.size (w1.setCell ⟨g, k, none⟩ (.slice (some ⟨g', 0, none⟩) (rr.length + 1) c)) g n (ms.set k (.slice (some ⟨g', 0, none⟩) (rr.length + 1) c)) (R.set k (rr ++ [x])) ∧
    Bl w (w1.setCell ⟨g, k, none⟩ (.slice (some ⟨g', 0, none⟩) (rr.length + 1) c)) := by
  subst hmk hrr
  have h1 : Rowy w.heap.size (wr.alloc o) g n ms R := h.bl ((Bl.refl _).alloc _)
  have hgrow := Only.of_grown hg
  have hown1 : w1.ownsRow w.heap.size 24 1 (.slice (some ⟨g, 0, none⟩) n n) n ms := hgrow.owns h1.own fun b hb e => ownsRow_type h1.own (h1.row k hkm hkR) (by decide) b hb e.symm
  have hlt := h.own.lt g rfl
  have hltk : ∀ b, ms[k].ownBlock = some b → w.heap.size ≤ b := fun b hb => ((h.row k hkm hkR).lt b hb).1
  refine ⟨?_, hown1.frozenAt k, h1.push hk hkm hkR hg (hv.imp id fun e => by simp; omega) ho, ?_⟩
  · rw [hown1.cellAt k (by omega), List.getElem?_eq_getElem hkm]
  · have b1 : Bl w w1 := (hbl.alloc o).trans_only hgrow (fun b hb => hltk b hb.symm)
    exact Below.setCell b1 hlt.1 _

set_option maxHeartbeats 1000000 in
theorem without_any (v : Value) (L : List (List Int)) (x : Int) (w : World) (hv : Sll w v L) (hn : L.length ≤ 4000000) (hs : ∀ c ∈ L, c.length ≤ 4000000) :
    Calls Tryz.prog 85 #[v, .int .i64 x] w fun e w' => ∃ g ms, e = .returned (.slice (some ⟨g, 0, none⟩) L.length L.length) ∧ Bl w w' ∧ Rowy w.heap.size w' g L.length ms (L.map (rm x)) := by
  obtain ⟨i24, hi, hz0, hz1, hz2⟩ := info_parts Tryz.info24
  obtain ⟨i3, ji, jz0, jz1, jz2⟩ := info_parts Tryz.info3
  by_cases h0 : L.length = 0
  · have hz : L = [] := List.length_eq_zero_iff.1 h0
    subst hz
    obtain ⟨a, c, rfl⟩ := hv.empty
    go_enter Tryz.func85, Tryz.ntmps85
    go_wp2_with (at_make; refine wpList_make_full _ rfl _ _ 39 rfl w.heap.size 24 i24 _ 1 Tryz.underlying39 hi hz0 hz1 _ _ _ _ 0 rfl rfl (by simp) (by simp) (by omega) (by unfold maxLen; omega) (by simp) ?_)
    intro w1 hown hgrow
    go_wp2
    refine wp_loop_rounds 1 ?_; rw [rounds_succ]; go_wp2
    go_ret
    have hbl : Bl w w1 := (Only.of_grown hgrow).to_bl (by simp)
    exact ⟨_, _, rfl, hbl, Rowy.made (by simpa [toList_madeCells_one] using hown)⟩
  · obtain ⟨b, o, c, rfl, hb, hc⟩ := hv.some (by omega)
    clear hv
    have hby : Hid (i24.bytes * L.length ≤ 281474976710656) := by rw [hz2]; unfold Hid; omega
    have hml : Hid (L.length ≤ maxLen) := by unfold Hid maxLen; omega
    go_enter Tryz.func85, Tryz.ntmps85
    go_wp2_with (at_make; refine wpList_make_full _ rfl _ _ 39 rfl w.heap.size 24 i24 _ 1 Tryz.underlying39 hi hz0 hz1 _ _ _ _ L.length rfl rfl rfl rfl hby.out hml.out (by simp) ?_)
    intro w1 hown hgrow
    have hbl : Bl w w1 := (Only.of_grown hgrow).to_bl (by simp)
    have R0 : Rowy w.heap.size w1 w.heap.size L.length _ _ := Rowy.made (by simpa [toList_madeCells_one] using hown)
    clear hown hgrow
    go_wp2
    go_loopw [15] (fun i wr => ∃ (k : Nat) (ms : List Value), k ≤ L.length ∧ i = .int .i64 k ∧ Bl w wr ∧ Rowy w.heap.size wr w.heap.size L.length ms (rmTo x L k)) (fun i _ => L.length - (intOf i).toNat)
    case atStart => exact ⟨0, _, Nat.zero_le _, rfl, hbl, by rw [rmTo_zero]; exact R0⟩
    case round =>
      clear hbl R0
      obtain ⟨k, ms, hk, rfl, hbl, R⟩ := hrel
      by_cases hlt : k < L.length
      · obtain ⟨m, hm, hml⟩ := hc k hlt
        have hz := hs _ (List.getElem_mem hlt)
        have hcell := (hbl.cell hb).trans hm
        have HL : Hid ((rmTo x L k).set k (rm x L[k]) = rmTo x L (k + 1)) := rmTo_succ x L k hlt
        have hRl : Hid ((rmTo x L k).length = L.length) := rmTo_len x L k
        have R : Rowy w.heap.size wr w.heap.size L.length ms ((rmTo x L k).set k (rm x (L[k].take 0))) := by rw [List.take_zero, rmTo_start]; exact R
        obtain ⟨a, c', hmv⟩ := hml.len
        simp only [List.length_map] at hmv
        have Hml : Hid (Sl w m (L[k].map (Value.int .i64))) := hml
        generalize L[k] = ch at *
        clear hm hml hs hc
        subst hmv
        go_wp2
        go_loopw [22] (fun i wx => ∃ (j : Nat) (ms : List Value), j ≤ ch.length ∧ i = .int .i64 j ∧ Bl w wx ∧ Rowy w.heap.size wx w.heap.size L.length ms ((rmTo x L k).set k (rm x (ch.take j)))) (fun i _ => ch.length - (intOf i).toNat)
        case atStart => exact ⟨0, _, Nat.zero_le _, rfl, hbl, R⟩
        case round =>
          clear R hbl hcell
          obtain ⟨j, ms, hj, rfl, hbl, R⟩ := hrel
          by_cases hjl : j < ch.length
          · cases hkp : keepIt x ch[j]
            · have hno := keep_no hkp
              have hrm : Hid (rm x (ch.take (j + 1)) = rm x (ch.take j)) := rm_succ_no x ch j hjl hkp
              obtain ⟨hx1, hx2⟩ := hno
              clear hkp
              rcases Hml.out with ⟨a9, c9, hv0, hz0⟩ | ⟨b1, o1, c1, hv1, hb1, hc1⟩
              · simp at hz0; simp [hz0] at hjl
              have hcj := (hbl.cell hb1).trans (hc1 j (by simpa using hjl))
              simp only [List.getElem_map] at hcj
              simp only [Value.slice.injEq] at hv1
              obtain ⟨rfl, hlx, rfl⟩ := hv1
              clear hlx
              clear hc1
              have HR : Hid (Rowy w.heap.size wr w.heap.size L.length ms ((rmTo x L k).set k (rm x (ch.take (j + 1))))) := by rw [hrm.out]; exact R
              clear R
              go_wp2
              go_roundw
              case rel => exact ⟨j + 1, ms, by omega, by go_num, hbl, HR.out⟩
              case measure => simp [intOf]; omega
            · rcases Hml.out with ⟨a9, c9, hv0, hz0⟩ | ⟨b1, o1, c1, hv1, hb1, hc1⟩
              · simp at hz0; simp [hz0] at hjl
              have hcj := (hbl.cell hb1).trans (hc1 j (by simpa using hjl))
              simp only [List.getElem_map] at hcj
              simp only [Value.slice.injEq] at hv1
              obtain ⟨rfl, hlx, rfl⟩ := hv1
              clear hlx
              clear hc1
              have hmk : k < ms.length := by rw [R.mlen]; exact hlt
              have hRk : k < (rmTo x L k).length := by rw [hRl.out]; exact hlt
              have hck := R.own.cellAt k (by omega)
              rw [List.getElem?_eq_getElem hmk] at hck
              have hrow := R.row k hmk (by simpa using hRk)
              simp only [List.getElem_set_self] at hrow
              generalize hmm : ms[k] = mk at *
              have Hmm := (show Hid (ms[k] = mk) from hmm); clear hmm
              have HR : Hid (Rowy w.heap.size wr w.heap.size L.length ms ((rmTo x L k).set k (rm x (ch.take j)))) := R
              have Hrow : Hid (wr.ownsRow w.heap.size 3 1 mk (rm x (ch.take j)).length ((rm x (ch.take j)).map (Value.int .i64))) := hrow
              have hlen := rm_len x ch j
              clear R hrow
              generalize hrr : rm x (ch.take j) = rr at *
              have Hrr := (show Hid (rm x (ch.take j) = rr) from hrr); clear hrr
              have hlt2 := hbl.lt
              have hrm : Hid (rm x (ch.take (j + 1)) = rr ++ [ch[j]]) := by rw [← Hrr.out]; exact rm_succ_yes x ch j hjl hkp
              have hby : Hid ((rr.length + 1) * 8 ≤ 140737488355328) := by unfold Hid; omega
              have hml : Hid (rr.length + 1 ≤ maxLen) := by unfold Hid maxLen; omega
              have hya := keep_yes hkp
              clear hkp
              rcases hya with hx1 | ⟨hx1, hx2⟩
              all_goals
                go_wp2_with (at_builtin; refine wpList_append_lies _ rfl _ _ 24 rfl w.heap.size 3 i3 (.int .i64 0) 1 8 Tryz.underlying24 ji jz0 jz1 jz2 rfl (by decide) mk rr.length _ rfl (Hrow.out.alloc _) ⟨wr.heap.size, 0, none⟩ 1 1 [.int .i64 ch[j]] rfl rfl (cell_one_new _ _ _) (by simp [Value.oneCell']) (by decide) hml.out hby.out (by simp; omega) (wr.heap.size + 1) (by simp) ?_)
                intro g' cap w1 hown' hgrow hat hlt'
                have HP := HR.out.pushed hbl hlt hmk (by simpa using hRk) Hmm.out (by simp) hgrow hat hown'
                obtain ⟨hc1, hf1, R1, b1⟩ := HP
                rw [List.set_set, ← hrm.out] at R1
                have HR1 := (show Hid _ from R1)
                have Hb1 := (show Hid _ from b1)
                clear hown' hgrow hat HR Hrow R1 b1 hrm Hmm Hrr hck hcj
                go_wp2
                go_roundw
                case rel => exact ⟨j + 1, _, by omega, by go_num, Hb1.out, HR1.out⟩
                case measure => simp [intOf]; omega
          · have R2 : Rowy w.heap.size wr w.heap.size L.length ms (rmTo x L (k + 1)) := by
              have := R
              rw [List.take_of_length_le (by omega), HL.out] at this
              exact this
            clear R
            go_wp2
            go_roundw
            case rel => exact ⟨k + 1, ms, by omega, by go_num, hbl, R2⟩
            case measure => simp [intOf]; omega
      · have hk2 : k = L.length := by omega
        subst hk2
        rw [rmTo_all] at R
        go_wp2
        go_ret
        exact ⟨_, _, rfl, hbl, R⟩
end Go.Proofs.YtkgjpfamjedncaaGreat
