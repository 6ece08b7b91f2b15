/-
  The set of the sealed units; does each chain hold one of them?
-/
import Derived.Test.YtkgjpfamjedncaaGreatWithout
import Derived.Maps.OwnSet
namespace Go.Proofs.YtkgjpfamjedncaaGreat
open Go.RowKit Go.Maps

theorem law3 : Keyed Tryz.prog 3 := int_keyed Tryz.underlying3
theorem zero151 (w : World) : (zeroValue 162).run Tryz.prog w = .ok (.agg #[]) w := by kernel_rfl

/-- The set of the numbers of a list. -/
def Sd (zs : List Int) : DataW Unit := setOf (.agg []) (zs.map (Lit.int .i64))

theorem Sd_nil : Sd [] = .map [] := by simp [Sd, setOf]
theorem Sd_snoc (zs : List Int) (x : Int) : Sd (zs ++ [x]) = (Sd zs).put (.int .i64 x) (.agg []) := by
  unfold Sd; rw [List.map_append, List.map_singleton, setOf_snoc]
theorem any_int (x : Int) : ∀ l : List Int, l.any ((fun y : Lit => y.sameKey (.int .i64 x)) ∘ Lit.int .i64) = decide (x ∈ l)
  | [] => rfl
  | a :: r => by
    rw [List.any_cons, any_int x r]
    show (decide (IntKind.i64 = IntKind.i64 ∧ a = x) || decide (x ∈ r)) = _
    by_cases e : a = x
    · subst e; simp
    · have e' : ¬ x = a := fun h => e h.symm
      simp [e, e']
theorem has_Sd (zs : List Int) (x : Int) : Maps.has (Sd zs) (.int .i64 x) = decide (x ∈ zs) := by
  unfold Sd
  rw [has_setOf _ _ _ (fun y hy => by obtain ⟨_, _, rfl⟩ := List.mem_map.1 hy; trivial), List.any_map]
  exact any_int x _

/-- The set lies in block b, and the variable that leads to it in block p. -/
structure SetAt (w : World) (p b : Nat) (zs : List Int) : Prop where
  own : w.ownsMap Tryz.prog 3 (unitElem (H := Unit)) b zs.length (Sd zs)
  var : w.cell? ⟨p, 0, none⟩ = some (.map (some b))
  lt : p < w.heap.size
  ltb : b < w.heap.size

def wfAll (zs : List Int) : Prop := ∀ z ∈ zs, (Lit.int .i64 z).wf = true

theorem SetAt.bl {w w' : World} {p b : Nat} {zs : List Int} (h : SetAt w p b zs) (hb : Bl w w') : SetAt w' p b zs := by
  refine ⟨?_, (hb.cell h.lt).trans h.var, Nat.lt_of_lt_of_le h.lt hb.lt, Nat.lt_of_lt_of_le h.ltb hb.lt⟩
  exact h.own.kept (row := none) ⟨hb.os, hb.tape, hb.output, hb.size, fun k hk _ => hb.block k hk⟩ (by simp)

set_option maxHeartbeats 400000 in
theorem isSealed_any (u : Int) (p b : Nat) (zs : List Int) (w : World) (h : SetAt w p b zs) (hu : (Lit.int .i64 u).wf = true) :
    Calls Tryz.prog 109 #[.int .i64 u, .pointer (some ⟨p, 0, none⟩)] w fun e w' => e = .returned (.bool (decide (u ∈ zs))) ∧ Bl w w' := by
  have hv := h.var
  have hkey : keyOf Tryz.prog 3 (.int .i64 u) = some (.int .i64 u) := keyOf_int_mk Tryz.underlying3 hu
  have hh := has_Sd zs u
  go_enter Tryz.func109, Tryz.ntmps109
  go_wp2_with (at_lookup; refine wpList_lookup_own_unit _ rfl _ _ 161 rfl 3 162 law3 Tryz.underlying161 (zero151 _) b zs.length _ rfl h.own _ _ rfl hkey ?_)
  go_ret
  exact ⟨rfl, (Bl.refl _).alloc _⟩

set_option maxHeartbeats 400000 in
theorem indexFunc_any (v : Value) (us : List Int) (p b : Nat) (zs : List Int) (w : World) (hv : Sl w v (us.map (Value.int .i64))) (h : SetAt w p b zs) (hu : wfAll us) (hs : us.length ≤ 4000000) :
    Calls Tryz.prog 116 #[v, .func (.func 109) #[] #[.pointer (some ⟨p, 0, none⟩)]] w fun e w' => ∃ n : Int, e = .returned (.int .i64 n) ∧ (0 ≤ n ↔ ∃ u ∈ us, u ∈ zs) ∧ Bl w w' := by
  by_cases h0 : us.length = 0
  · have hz : us = [] := List.length_eq_zero_iff.1 h0
    subst hz
    obtain ⟨a, c, rfl⟩ := hv.empty
    go_enter Tryz.func116, Tryz.ntmps116
    go_wp2
    refine wp_loop_rounds 1 ?_; rw [rounds_succ]; go_wp2
    go_ret
    exact ⟨_, rfl, by simp, Bl.refl _⟩
  rcases hv with ⟨a9, c9, rfl, hz⟩ | ⟨b1, o, c, rfl, hb, hc⟩
  · simp at hz; simp [hz] at h0
  simp only [List.length_map] at hc ⊢
  have Hs : Hid (SetAt w p b zs) := h
  clear h
  go_enter Tryz.func116, Tryz.ntmps116
  go_wp2
  go_loopw [8] (fun i wr => ∃ k : Nat, k ≤ us.length ∧ i = .int .i64 k ∧ Bl w wr ∧ ∀ u ∈ us.take k, ¬ u ∈ zs) (fun i _ => us.length - (intOf i).toNat)
  case atStart => exact ⟨0, Nat.zero_le _, rfl, Bl.refl _, by simp⟩
  case round =>
    obtain ⟨k, hk, rfl, hbl, hno⟩ := hrel
    by_cases hlt : k < us.length
    · have hcell := (hbl.cell hb).trans (hc k hlt)
      simp only [List.getElem_map] at hcell
      have hwf := hu _ (List.getElem_mem hlt)
      have Hno : Hid (∀ u ∈ us.take k, ¬ u ∈ zs) := hno
      have Hhu : Hid (wfAll us) := hu
      clear hc hno hu
      have Hm : Hid (us[k] ∈ us) := List.getElem_mem hlt
      have Ht : Hid (us.take (k + 1) = us.take k ++ [us[k]]) := List.take_succ_eq_append_getElem hlt
      generalize us[k] = u at *
      by_cases hin : u ∈ zs
      · have hd : decide (u ∈ zs) = true := by simpa using hin
        clear hin
        go_wp2_with fail
        refine (isSealed_any u p b zs _ (Hs.out.bl hbl) hwf).mono ?_
        rw [hd]
        rintro e w' ⟨rfl, hbl'⟩
        go_wp2
        go_ret
        exact ⟨_, rfl, iff_of_true (by omega) ⟨u, Hm.out, by simpa using hd⟩, hbl.trans hbl'⟩
      · have hd : decide (u ∈ zs) = false := by simpa using hin
        have Hin : Hid (¬ u ∈ zs) := hin
        clear hin
        go_wp2_with fail
        refine (isSealed_any u p b zs _ (Hs.out.bl hbl) hwf).mono ?_
        rw [hd]
        rintro e w' ⟨rfl, hbl'⟩
        go_wp2
        go_roundw
        case rel =>
          refine ⟨k + 1, by omega, by go_num, hbl.trans hbl', ?_⟩
          rw [Ht.out]
          intro y hy
          rcases List.mem_append.1 hy with hy | hy
          · exact Hno.out y hy
          · simp at hy; subst hy; exact Hin.out
        case measure => simp [intOf]; omega
    · have Hno : Hid (∀ u ∈ us.take k, ¬ u ∈ zs) := hno
      clear hno
      go_wp2
      go_ret
      refine ⟨_, rfl, iff_of_false (by omega) ?_, hbl⟩
      rintro ⟨y, hy, hz⟩
      refine Hno.out y ?_ hz
      rw [List.take_of_length_le (by omega)]
      exact hy

set_option maxHeartbeats 400000 in
theorem containsFunc_any (v : Value) (us : List Int) (p b : Nat) (zs : List Int) (w : World) (hv : Sl w v (us.map (Value.int .i64))) (h : SetAt w p b zs) (hu : wfAll us) (hs : us.length ≤ 4000000) :
    Calls Tryz.prog 110 #[v, .func (.func 109) #[] #[.pointer (some ⟨p, 0, none⟩)]] w fun e w' => e = .returned (.bool (us.any fun u => decide (u ∈ zs))) ∧ Bl w w' := by
  go_enter Tryz.func110, Tryz.ntmps110
  go_wp2_with fail
  refine (indexFunc_any v us p b zs _ hv h hu hs).mono ?_
  rintro e w' ⟨n, rfl, hn, hbl⟩
  have Hn : Hid (0 ≤ n ↔ ∃ u ∈ us, u ∈ zs) := hn
  clear hn
  go_wp2
  go_ret
  refine ⟨ret_bool ?_, hbl⟩
  rw [Bool.eq_iff_iff]
  simpa using Hn.out

theorem Sll.len {w : World} {v : Value} {L : List (List Int)} (h : Sll w v L) : ∃ a c, v = .slice a L.length c := by
  obtain ⟨ms, h1, h2, _⟩ := h
  obtain ⟨a, c, rfl⟩ := h1.len
  exact ⟨a, c, by rw [h2]⟩

theorem run_makeMap_sized (n : Int) (w : World) : (Instr.makeMap 161 (some (.int .i64 n))).run Tryz.prog w = .ok (.map (some w.heap.size)) (w.alloc (.map #[] 0)) := by
  kernel_rfl

set_option maxHeartbeats 1000000 in
theorem eachHasOne_any (v u : Value) (L : List (List Int)) (zs : List Int) (w : World) (hv : Sll w v L) (hu : Sl w u (zs.map (Value.int .i64))) (hn : L.length ≤ 4000000) (hs : ∀ c ∈ L, c.length ≤ 4000000 ∧ wfAll c) (hz : zs.length ≤ 4000000) (hw : wfAll zs) :
    Calls Tryz.prog 86 #[v, u] w fun e w' => e = .returned (.bool (L.all fun c => c.any fun u => decide (u ∈ zs))) ∧ Bl w w' := by
  have hmm := run_makeMap_sized
  obtain ⟨a1, c1, hu1⟩ := hu.len
  simp only [List.length_map] at hu1
  obtain ⟨a2, c2, hv1⟩ := hv.len
  subst hu1 hv1
  have Hu : Hid (Sl w (.slice a1 zs.length c1) (zs.map (Value.int .i64))) := hu
  have Hv : Hid (Sll w (.slice a2 L.length c2) L) := hv
  have Hw : Hid (wfAll zs) := hw
  have HL : Hid (∀ c ∈ L, c.length ≤ 4000000 ∧ wfAll c) := hs
  clear hu hv hw hs
  go_enter Tryz.func86, Tryz.ntmps86
  go_wp2
  go_loopw [16] (fun i wr => ∃ k : Nat, k ≤ zs.length ∧ i = .int .i64 k ∧ Bl w wr ∧ SetAt wr (w.heap.size + 1) w.heap.size (zs.take k)) (fun i _ => zs.length - (intOf i).toNat)
  case atStart =>
    refine ⟨0, Nat.zero_le _, rfl, ((Bl.refl _).alloc _).alloc _, ?_⟩
    rw [List.take_zero]
    refine ⟨?_, by simp, by simp, by simp; omega⟩
    rw [Sd_nil]
    exact (World.ownsMap_made _ _ _ _).alloc _
  case round =>
    obtain ⟨k, hk, rfl, hbl, hS⟩ := hrel
    by_cases hlt : k < zs.length
    · rcases Hu.out with ⟨a9, c9, hv0, hz0⟩ | ⟨b1, o1, c1', hv1, hb1, hc1⟩
      · simp at hz0; simp [hz0] at hlt
      have hcj := (hbl.cell hb1).trans (hc1 k (by simpa using hlt))
      simp only [List.getElem_map] at hcj
      simp only [Value.slice.injEq] at hv1
      obtain ⟨rfl, hlx, rfl⟩ := hv1
      clear hlx hc1
      have hwf := Hw.out _ (List.getElem_mem hlt)
      have hkey : keyOf Tryz.prog 3 (.int .i64 zs[k]) = some (.int .i64 zs[k]) := keyOf_int_mk Tryz.underlying3 hwf
      have hvar := hS.var
      have hown := hS.own
      have h63 : Hid ((zs.take k).length < maxLen) := by unfold Hid maxLen; simp; omega
      have hsz := hbl.lt
      have HS : Hid (SetAt wr (w.heap.size + 1) w.heap.size (zs.take k)) := hS
      have Ht : Hid (zs.take (k + 1) = zs.take k ++ [zs[k]]) := List.take_succ_eq_append_getElem hlt
      clear hS
      generalize zs[k] = x at *
      generalize hys : zs.take k = ys at *
      clear hys
      have hown2 : Hid (wr.ownsMap Tryz.prog 3 (unitElem (H := Unit)) w.heap.size ys.length (Sd ys)) := hown
      clear hown
      go_wp2_with (at_mapUpdate; refine wpList_mapUpdate_own _ rfl _ _ _ 161 rfl 3 162 law3 Tryz.underlying161 (unitElem (H := Unit)) w.heap.size ys.length _ rfl hown2.out h63.out _ _ _ rfl rfl hkey _ [] unitElem_mk ?_)
      intro w1 hown1 hgrow1
      have hbl1 : Hid (Bl w w1) := hbl.trans_only (Only.of_grown hgrow1) (fun n hn => by cases hn; exact Nat.le_refl _)
      have HS1 : Hid (SetAt w1 (w.heap.size + 1) w.heap.size (zs.take (k + 1))) := by
        have h1 := HS.out.lt
        have h2 := HS.out.ltb
        refine ⟨?_, ((Only.of_grown hgrow1).cell h1 (by simp)).trans HS.out.var, Nat.lt_of_lt_of_le h1 hgrow1.size, Nat.lt_of_lt_of_le h2 hgrow1.size⟩
        rw [Ht.out, Sd_snoc, List.length_append]
        exact hown1
      clear hown1 hgrow1 hown2 HS Ht hbl
      go_wp2
      go_roundw
      case rel => exact ⟨k + 1, by omega, by go_num, hbl1.out, HS1.out⟩
      case measure => simp [intOf]; omega
    · have ht : zs.take k = zs := List.take_of_length_le (by omega)
      rw [ht] at hS
      have HS : Hid (SetAt wr (w.heap.size + 1) w.heap.size zs) := hS
      have Hb : Hid (Bl w wr) := hbl
      clear hS hbl ht
      go_wp2
      rename_i wx
      go_loopw [27] (fun i wr => ∃ k : Nat, k ≤ L.length ∧ i = .int .i64 k ∧ Bl w wr ∧ SetAt wr (w.heap.size + 1) w.heap.size zs ∧ ((L.take k).all fun c => c.any fun u => decide (u ∈ zs)) = true) (fun i _ => L.length - (intOf i).toNat)
      case atStart => exact ⟨0, Nat.zero_le _, rfl, Hb.out, HS.out, by simp⟩
      case round =>
        clear HS Hb
        obtain ⟨m, hm, rfl, hbl, hS, hall⟩ := hrel
        have HS : Hid (SetAt wr (w.heap.size + 1) w.heap.size zs) := hS
        have Hall : Hid (((L.take m).all fun c => c.any fun u => decide (u ∈ zs)) = true) := hall
        clear hS hall
        by_cases hlt2 : m < L.length
        · obtain ⟨b2, o2, c2', hv2, hb2, hc2⟩ := Hv.out.some (by omega)
          obtain ⟨mv, hmv, hml⟩ := hc2 m hlt2
          have hcj := (hbl.cell hb2).trans hmv
          simp only [Value.slice.injEq] at hv2
          obtain ⟨rfl, hlx, rfl⟩ := hv2
          clear hlx hc2 hmv
          have hch := HL.out _ (List.getElem_mem hlt2)
          have Hml : Hid (Sl wr mv (L[m].map (Value.int .i64))) := hml.bl hbl
          have Hlen := (show Hid _ from hch)
          have Ht : Hid (L.take (m + 1) = L.take m ++ [L[m]]) := List.take_succ_eq_append_getElem hlt2
          have Hmem : Hid (L[m] ∈ L) := List.getElem_mem hlt2
          clear hch hml
          generalize L[m] = ch at *
          cases hany : (ch.any fun u => decide (u ∈ zs))
          · have Hany := (show Hid _ from hany)
            clear hany
            go_wp2_with fail
            refine (containsFunc_any mv ch _ _ zs _ Hml.out HS.out Hlen.out.2 Hlen.out.1).mono ?_
            rw [Hany.out]
            rintro e w' ⟨rfl, hbl'⟩
            go_wp2
            go_ret
            refine ⟨ret_bool ?_, hbl.trans hbl'⟩
            symm
            rw [List.all_eq_false]
            exact ⟨ch, Hmem.out, by rw [Hany.out]; simp⟩
          · have Hany := (show Hid _ from hany)
            clear hany
            go_wp2_with fail
            refine (containsFunc_any mv ch _ _ zs _ Hml.out HS.out Hlen.out.2 Hlen.out.1).mono ?_
            rw [Hany.out]
            rintro e w' ⟨rfl, hbl'⟩
            go_wp2
            go_roundw
            case rel =>
              refine ⟨m + 1, by omega, by go_num, hbl.trans hbl', HS.out.bl hbl', ?_⟩
              rw [Ht.out, List.all_append, Hall.out, List.all_cons, Hany.out]
              rfl
            case measure => simp [intOf]; omega
        · go_wp2
          go_ret
          refine ⟨ret_bool ?_, hbl⟩
          have := Hall.out
          rw [List.take_of_length_le (by omega)] at this
          exact this.symm

end Go.Proofs.YtkgjpfamjedncaaGreat
