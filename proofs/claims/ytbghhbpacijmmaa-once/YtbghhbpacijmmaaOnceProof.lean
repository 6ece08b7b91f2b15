/-
  For every input the call of Once returns true, and the two slices of bytes that were handed in read behind the call as they read before: cells that are opened fresh, a cell that is written once and keeps what was written, also when the cells are opened anew from their image or from a beginning of it that goes on in the middle of something later; behind a seal nothing older comes through; behind a trim nothing is told but whose the content was.
  Conditions: none besides those that the given statement has.
-/
import Derived.Test.YtbghhbpacijmmaaOnce
import Derived.Test.YtbghhbpacijmmaaRows
import Derived.OpenShut
import Derived.ChangeSlices
import Derived.ProofKit
namespace Go.Proofs.Ytbghhbpacijmmaa
open Go.ChangeShapes Go.WideShapes Go.ChangeAt Go.RowKit Go.WideElems

theorem Try.own : ownKnob Try.prog.godebug = none := by kernel_rfl
theorem Try.laidOut : laidOutB Try.prog = true := by kernel_rfl
theorem Try.cellsOf5 : Try.prog.cellsOf 5 = 1 := by kernel_rfl

set_option maxRecDepth 100000 in
theorem bytes_in {H : Type} {enc : TypeId × Value → H} {W : World} {base : Nat} {v : Value} {d : DataW H} {p : List MemPlace} (hval : Value.okWide Try.prog W .any base 22 v) (h : DataW.Trod enc Try.prog W 0 (fun _ => true) true 22 v d p) :
    ∃ zs : List Int, Sl W v (zs.map B8) ∧ (∀ d ∈ zs, 0 ≤ d ∧ d ≤ 255) ∧ ∀ a n c, v = .slice a n c → n ≤ c ∧ (c : Int) ≤ 9223372036854775807 := by
  obtain ⟨a1, len, cap, rfl⟩ := okWide_slice Try.underlying22 hval
  obtain ⟨fuel, hf⟩ := h
  rcases open_ints Try.underlying22 Try.underlying5 Try.cellsOf5 hf with ⟨hcs, hx⟩ | ⟨a, len', cap', zs, hcs, _, hl, hm, hz, hx, hcell, hwz⟩
  · simp [Value.cells] at hcs
    obtain ⟨rfl, rfl, rfl⟩ := hcs
    refine ⟨[], .inl ⟨_, _, rfl, rfl⟩, by simp, fun a n c e => ?_⟩
    injection e with _ e2 e3
    subst e2 e3
    exact ⟨Nat.le_refl _, by decide⟩
  · simp [Value.cells] at hcs
    obtain ⟨rfl, rfl, rfl⟩ := hcs
    simp only [if_true] at hz
    refine ⟨zs.take len, ?_, fun d hd => bounds_u8 (hwz d (List.mem_of_mem_take hd)), fun a n c e => ?_⟩
    · by_cases h0 : len = 0
      · subst h0
        exact .inl ⟨_, _, rfl, by simp⟩
      · obtain ⟨ab, ao, spot⟩ := a
        have hspot : spot = none := by simpa [Addr.add] using World.cell?_spot (hcell 0 (by omega))
        subst hspot
        have hl2 : (zs.take len).length = len := by rw [List.length_take]; omega
        have hlt : ab < W.heap.size := by
          have := hcell 0 (by omega)
          rw [add_eq] at this
          exact World.block_lt_of_cell? W _ this
        refine .inr ⟨ab, ao, cap, by rw [List.length_map, hl2], hlt, fun j hj => ?_⟩
        rw [List.length_map, hl2] at hj
        have := hcell j (by omega)
        rw [add_eq] at this
        rw [this]
        simp [List.getD, List.getElem?_eq_getElem (show j < zs.length by omega)]
        rfl
    · injection e with _ e2 e3
      subst e2 e3
      unfold maxLen at hm
      exact ⟨hl, by omega⟩

set_option maxRecDepth 100000 in
theorem once_contract (H : Type) (enc : TypeId × Value → H) (W : World) (base : Nat) (args : Array Value) (ds gs : List (DataW H)) (before : List MemPlace)
    (hval : ∀ (j : Nat) t v, Try.f3.params[j]? = some t → args[j]? = some v → Value.okWide Try.prog W .any base t v)
    (hW : DataW.Whole enc Try.prog Try.f3.params.toList Rows.onceSpec.vars false W args.toList ds gs before) :
    Calls Try.prog 3 args W fun e W' => ∃ v, e = .returned v ∧ Rows.onceSpec.post enc Try.prog Try.f3 false true false false W args v W' := by
  have hW' := hW
  obtain ⟨p, q, hA0, hV, rfl, hfz, hnd⟩ := hW
  have hA : DataW.TrodAll enc Try.prog W 0 (fun _ => true) true Try.f3.params.toList args.toList ds p := hA0
  rw [Try.params3] at hA hval
  obtain ⟨v0, vs0, d0, ds0, p0, q0, hargs, rfl, rfl, h0, r0⟩ := trodAll_cons hA
  obtain ⟨v1, vs1, d1, ds1, p1, q1, rfl, rfl, rfl, h1, r1⟩ := trodAll_cons r0
  obtain ⟨v2, vs2, d2, ds2, p2, q2, rfl, rfl, rfl, h2, r2⟩ := trodAll_cons r1
  obtain ⟨v3, vs3, d3, ds3, p3, q3, rfl, rfl, rfl, h3, r3⟩ := trodAll_cons r2
  obtain ⟨v4, vs4, d4, ds4, p4, q4, rfl, rfl, rfl, h4, r4⟩ := trodAll_cons r3
  obtain ⟨v5, vs5, d5, ds5, p5, q5, rfl, rfl, rfl, h5, r5⟩ := trodAll_cons r4
  obtain ⟨v6, vs6, d6, ds6, p6, q6, rfl, rfl, rfl, h6, r6⟩ := trodAll_cons r5
  obtain ⟨v7, vs7, d7, ds7, p7, q7, rfl, rfl, rfl, h7, r7⟩ := trodAll_cons r6
  obtain ⟨rfl, rfl, rfl⟩ := trodAll_nil r7
  obtain rfl : args = #[v0, v1, v2, v3, v4, v5, v6, v7] := Array.toList_inj.1 hargs
  obtain ⟨rfl, rfl⟩ := trodVars_none hV
  obtain ⟨c, rfl, rfl, rfl, wc⟩ := open_int Try.underlying3 (hval 0 3 _ rfl rfl) h0
  obtain ⟨un, rfl, rfl, rfl, wu⟩ := open_int Try.underlying3 (hval 1 3 _ rfl rfl) h1
  obtain ⟨ut, rfl, rfl, rfl, wt⟩ := open_int Try.underlying3 (hval 2 3 _ rfl rfl) h2
  obtain ⟨ra, rfl, rfl, rfl, wr⟩ := open_int Try.underlying3 (hval 3 3 _ rfl rfl) h3
  obtain ⟨ep, rfl, rfl, rfl, we⟩ := open_int Try.underlying3 (hval 6 3 _ rfl rfl) h6
  obtain ⟨cut, rfl, rfl, rfl, wk⟩ := open_int Try.underlying3 (hval 7 3 _ rfl rfl) h7
  obtain ⟨zs, hv, hz, hvl⟩ := bytes_in (hval 4 22 _ rfl rfl) h4
  obtain ⟨zo, ho, hzo, hol⟩ := bytes_in (hval 5 22 _ rfl rfl) h5
  clear hA0
  refine (once_any c un ut ra ep cut v4 v5 zs zo W (bounds_i64 wc) (bounds_i64 wu) (bounds_i64 wt) (bounds_i64 wr) (bounds_i64 we) (bounds_i64 wk) hv hz hvl ho hzo hol).mono fun e W' ⟨he, hbl⟩ => ?_
  subst he
  have hbelow : Below W.heap.size W W' := hbl
  have hlt4 : ∀ x ∈ p4, x.block < W.heap.size := fun x hx => hW'.lt x (by simp [hx])
  have hlt5 : ∀ x ∈ p5, x.block < W.heap.size := fun x hx => hW'.lt x (by simp [hx])
  have k0 := Below.trod Try.laidOut (by kernel_rfl) (of_decide_eq_true (by kernel_rfl)) h0 hbelow (fun x hx => by cases hx)
  have k1 := Below.trod Try.laidOut (by kernel_rfl) (of_decide_eq_true (by kernel_rfl)) h1 hbelow (fun x hx => by cases hx)
  have k2 := Below.trod Try.laidOut (by kernel_rfl) (of_decide_eq_true (by kernel_rfl)) h2 hbelow (fun x hx => by cases hx)
  have k3 := Below.trod Try.laidOut (by kernel_rfl) (of_decide_eq_true (by kernel_rfl)) h3 hbelow (fun x hx => by cases hx)
  have k4 := Below.trod Try.laidOut (by kernel_rfl) (of_decide_eq_true (by kernel_rfl)) h4 hbelow hlt4
  have k5 := Below.trod Try.laidOut (by kernel_rfl) (of_decide_eq_true (by kernel_rfl)) h5 hbelow hlt5
  have k6 := Below.trod Try.laidOut (by kernel_rfl) (of_decide_eq_true (by kernel_rfl)) h6 hbelow (fun x hx => by cases hx)
  have k7 := Below.trod Try.laidOut (by kernel_rfl) (of_decide_eq_true (by kernel_rfl)) h7 hbelow (fun x hx => by cases hx)
  refine ⟨_, rfl, _, _, _, [], [] ++ ([] ++ ([] ++ ([] ++ (p4 ++ (p5 ++ ([] ++ ([] ++ []))))))), [], hW', ?_, ?_, ?_, hbelow.frame _, fun h => by cases h⟩
  · exact trodAll_cons_mk (shut_bool Try.underlying4 _) trodAll_mk0
  · exact trodAll_cons_mk k0 (trodAll_cons_mk k1 (trodAll_cons_mk k2 (trodAll_cons_mk k3 (trodAll_cons_mk k4 (trodAll_cons_mk k5 (trodAll_cons_mk k6 (trodAll_cons_mk k7 trodAll_mk0)))))))
  · rfl

set_option maxRecDepth 100000 in
theorem once_lifted (os : Os) (started : os.Started) (H : Type) (enc : TypeId × Value → H) :
    ReturnsInHanded {} Try.checked os 3 .any (Rows.onceSpec.pre6 enc Try.prog Try.f3 Rows.onceRow.domain false) (Rows.onceSpec.post enc Try.prog Try.f3 false true false false) := by
  refine returnsInHanded_of_change (C := Try.checked) Try.own started (by kernel_rfl) Try.func3
    (ChangeSpec.witness6 (enc := enc) (C := Try.checked) false ⟨#[], #[.int .i64 0, .int .i64 0, .int .i64 0, .int .i64 0, .slice none 0 0, .slice none 0 0, .int .i64 0, .int .i64 0], []⟩ 8 (by kernel_rfl) (by kernel_rfl) (by kernel_rfl) (by kernel_rfl)) ?_
  intro W base args ds gs before hval hW _ _
  exact once_contract H enc W base args ds gs before hval hW

theorem once_holds : Rows.OnceSaid :=
  OpenClaim.holds_of_wide 3 Try.f3 rfl rfl rfl rfl rfl rfl rfl ⟨rfl, rfl, rfl, rfl, rfl⟩ rfl rfl rfl rfl rfl (by kernel_rfl) Try.func3 (by kernel_rfl)
    (of_decide_eq_true (by kernel_rfl)) (by unfold Func.isWrapper; first | (rw [if_pos (by decide +kernel)]; kernel_rfl) | (rw [if_neg (by decide +kernel)]; exact ⟨rfl, rfl⟩))
    (fun os started H enc _ => once_lifted os started H enc)

#print axioms once_holds

end Go.Proofs.Ytbghhbpacijmmaa
