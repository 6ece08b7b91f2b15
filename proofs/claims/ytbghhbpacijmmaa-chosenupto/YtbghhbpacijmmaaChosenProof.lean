/-
  For every input of bulk at most 1048576 the call of Chosen returns true, and the tries read behind the call as they read before: proposers that ask for promises and votes in whatever order, of voters of which each is opened anew now and then, come to at most one value that a majority has voted for with one ballot; and one that asks all of them comes to that value, or, if there is none, to some.
  Conditions: the bulk of the input, as the given statement has it; none besides.
-/
import Derived.Test.YtbghhbpacijmmaaChosen
import Derived.Test.YtbghhbpacijmmaaRows
import Derived.OpenShut
import Derived.ProofKit
import Derived.JoinedCond
import Derived.Deep.Slices
namespace Go.Proofs.Ytbghhbpacijmmaa
open Go.ChangeShapes Go.WideShapes Go.ChangeAt Go.RowKit Go.Deep

theorem Try.own' : ownKnob Try.prog.godebug = none := by kernel_rfl
theorem Try.laidOut' : laidOutB Try.prog = true := by kernel_rfl
theorem Try.cells3 : Try.prog.cellsOf 3 = 1 := by kernel_rfl
theorem Try.cells57 : Try.prog.cellsOf 57 = 3 := by kernel_rfl

section
variable {H : Type} {enc : TypeId × Value → H} {w : World}

theorem bulk_one (d : DataW H) : 1 ≤ Rows.uptoBulk d := by
  cases d with
  | lit l => cases l <;> simp [Rows.uptoBulk]
  | nil => simp [Rows.uptoBulk]
  | ptr d => simp [Rows.uptoBulk]
  | slice elems spare => simp [Rows.uptoBulk]
  | agg parts => simp [Rows.uptoBulk]
  | iface t d => simp [Rows.uptoBulk]
  | map entries => simp [Rows.uptoBulk]
  | held h => simp [Rows.uptoBulk]
theorem bulk_len (l : List (DataW H)) : l.length ≤ Rows.uptoBulkAll l := by
  induction l with
  | nil => simp [Rows.uptoBulkAll]
  | cons x r ih => have := bulk_one x; simp only [Rows.uptoBulkAll, List.length_cons]; omega
theorem bulk_four (l : List (DataW H)) (h : ∀ d ∈ l, 4 ≤ Rows.uptoBulk d) : 4 * l.length ≤ Rows.uptoBulkAll l := by
  induction l with
  | nil => simp [Rows.uptoBulkAll]
  | cons x r ih =>
    have h1 := h x (List.mem_cons_self ..)
    have h2 := ih fun d hd => h d (List.mem_cons_of_mem _ hd)
    simp only [Rows.uptoBulkAll, List.length_cons]; omega
theorem addr_of {a : Addr} {v : Value} (h : w.cell? (a.add 0) = some v) : ∃ b o, a = ⟨b, o, none⟩ := by
  obtain ⟨b, o, sp⟩ := a
  cases sp with
  | none => exact ⟨b, o, rfl⟩
  | some s =>
    unfold World.cell? Addr.add at h
    simp at h
    split at h <;> simp_all
theorem sub_one {cs : List Value} {a : Nat} {v : Value} (h : (cs.drop a).take 1 = [v]) : cs[a]? = some v := by
  have h1 : ((cs.drop a).take 1)[0]? = some v := by rw [h]; rfl
  rw [List.getElem?_take] at h1
  split at h1
  · rw [List.getElem?_drop] at h1; exact h1
  · simp at h1
theorem read_int {fuel : Nat} {cs : List Value} {a : Nat} {x : DataW H × List MemPlace} (h : DataW.trod enc Try.prog w 0 (fun _ => true) true fuel 3 ((cs.drop a).take (Try.prog.cellsOf 3)) = some x) : ∃ n, cs[a]? = some (.int .i64 n) ∧ -9223372036854775808 ≤ n ∧ n ≤ 9223372036854775807 := by
  obtain ⟨n, e, _, hw⟩ := DataW.trod_int Try.underlying3 h
  rw [Try.cells3] at e
  exact ⟨n, sub_one e, bounds_i64 hw⟩
/-- A try, as it is read. -/
theorem read_try {fuel : Nat} {cs : List Value} {x : DataW H × List MemPlace} (h : DataW.trod enc Try.prog w 0 (fun _ => true) true fuel 57 cs = some x) :
    4 ≤ Rows.uptoBulk x.1 ∧ cs.length = 3 ∧ ∃ a b c : Int, (cs[0]? = some (.int .i64 a) ∧ cs[1]? = some (.int .i64 b) ∧ cs[2]? = some (.int .i64 c)) ∧ (-9223372036854775808 ≤ a ∧ a ≤ 9223372036854775807) ∧ (-9223372036854775808 ≤ b ∧ b ≤ 9223372036854775807) ∧ (-9223372036854775808 ≤ c ∧ c ≤ 9223372036854775807) := by
  obtain ⟨xs, n, rfl, rfl, hlen, hxl, hf⟩ := DataW.trod_struct Try.underlying57 h
  rw [Try.cells57] at hlen
  have hxl3 : xs.length = 3 := hxl
  have g0 : DataW.trod enc Try.prog w 0 (fun _ => true) true n 3 ((cs.drop 0).take (Try.prog.cellsOf 3)) = xs[0]? := hf 0 _ rfl
  have g1 : DataW.trod enc Try.prog w 0 (fun _ => true) true n 3 ((cs.drop 1).take (Try.prog.cellsOf 3)) = xs[1]? := hf 1 _ rfl
  have g2 : DataW.trod enc Try.prog w 0 (fun _ => true) true n 3 ((cs.drop 2).take (Try.prog.cellsOf 3)) = xs[2]? := hf 2 _ rfl
  rw [List.getElem?_eq_getElem (by omega)] at g0 g1 g2
  obtain ⟨a, k0, b0⟩ := read_int g0
  obtain ⟨b, k1, b1⟩ := read_int g1
  obtain ⟨c, k2, b2⟩ := read_int g2
  refine ⟨?_, hlen, a, b, c, ⟨k0, k1, k2⟩, b0, b1, b2⟩
  have := bulk_len (xs.map (·.1))
  simp only [Rows.uptoBulk]
  rw [List.length_map] at this
  omega
theorem read_tries {fuel : Nat} {v : Value} {x : DataW H × List MemPlace} (h : DataW.trod enc Try.prog w 0 (fun _ => true) true fuel 41 [v] = some x) (hb : Rows.uptoBulk x.1 ≤ 1048576) :
    ∃ a m c, v = .slice a m c ∧ Trs w a m ∧ m ≤ 500000 := by
  rcases open_slice Try.underlying41 h with ⟨hcs, rfl⟩ | ⟨a, len, cap, m, n, D, Pl, hcs, _, hl, _, hm, rfl, hx⟩
  · simp at hcs
    subst hcs
    exact ⟨_, _, _, rfl, ⟨0, 0, fun h => by omega, fun j h => by omega⟩, by omega⟩
  · simp at hcs
    subst hcs
    simp at hm
    subst hm
    rw [Try.cells57] at hx
    by_cases h0 : len = 0
    · subst h0
      exact ⟨_, _, _, rfl, ⟨0, 0, fun h => by omega, fun j h => by omega⟩, by omega⟩
    · have ha : ∃ b o, a = ⟨b, o, none⟩ := by
        obtain ⟨cs', h1, _⟩ := hx 0 (by omega)
        obtain ⟨_, h2, h3⟩ := World.cells?_some h1
        have h4 := h3 0 (by omega)
        rw [List.getElem?_eq_getElem (by omega), Nat.zero_mul] at h4
        have e : (a.add 0).add 0 = a.add 0 := by unfold Addr.add; split <;> simp_all
        rw [e] at h4
        exact addr_of h4
      obtain ⟨b, o, rfl⟩ := ha
      have hbw : b < w.heap.size := by
        obtain ⟨cs', h1, _⟩ := hx 0 (by omega)
        have := World.cells?_block h1 (by omega)
        rw [Nat.zero_mul, add_eq] at this
        exact this
      simp only [Rows.uptoBulk] at hb
      have h4 := bulk_four ((List.range len).map D) fun d hd => by
        obtain ⟨i, hi, rfl⟩ := List.mem_map.1 hd
        obtain ⟨cs', _, h2⟩ := hx i (by have : i < len := by simpa using hi
                                        omega)
        exact (read_try h2).1
      simp only [List.length_map, List.length_range] at h4
      refine ⟨_, _, _, rfl, ⟨b, o, fun _ => ⟨rfl, hbw⟩, fun j hj => ?_⟩, by omega⟩
      obtain ⟨cs', h1, h2⟩ := hx j (by omega)
      obtain ⟨_, h3, h5⟩ := World.cells?_some h1
      obtain ⟨_, _, x, y, z, ⟨k0, k1, k2⟩, b0, b1, b2⟩ := read_try h2
      have e0 := (h5 0 (by omega)).trans k0
      have e1 := (h5 1 (by omega)).trans k1
      have e2 := (h5 2 (by omega)).trans k2
      rw [add_eq, add_eq] at e0 e1 e2
      exact ⟨x, y, z, ⟨e0, e1, e2⟩, b0, b1, b2⟩
end

set_option maxRecDepth 100000 in
theorem chosen_contract (H : Type) (enc : TypeId × Value → H) (W : World) (base : Nat) (args : Array Value) (ds gs : List (DataW H)) (before : List MemPlace)
    (hval : ∀ (j : Nat) t v, Try.f4.params[j]? = some t → args[j]? = some v → Value.okWide Try.prog W .any base t v)
    (hW : DataW.Whole enc Try.prog Try.f4.params.toList Rows.chosenSpec.vars false W args.toList ds gs before) (hk : Rows.uptoSmall H (ds ++ gs) = true) :
    Calls Try.prog 4 args W fun e W' => ∃ v, e = .returned v ∧ Rows.chosenSpec.post enc Try.prog Try.f4 false true false false W args v W' := by
  have hW' := hW
  obtain ⟨p, q, hA0, hV, rfl, hfz, hnd⟩ := hW
  have hA : DataW.TrodAll enc Try.prog W 0 (fun _ => true) true Try.f4.params.toList args.toList ds p := hA0
  rw [Try.params4] at hA hval
  obtain ⟨v0, vs0, d0, ds0, p0, q0, hargs, rfl, rfl, h0, r0⟩ := trodAll_cons hA
  obtain ⟨v1, vs1, d1, ds1, p1, q1, rfl, rfl, rfl, h1, r1⟩ := trodAll_cons r0
  obtain ⟨v2, vs2, d2, ds2, p2, q2, rfl, rfl, rfl, h2, r2⟩ := trodAll_cons r1
  obtain ⟨rfl, rfl, rfl⟩ := trodAll_nil r2
  obtain rfl : args = #[v0, v1, v2] := Array.toList_inj.1 hargs
  obtain ⟨rfl, rfl⟩ := trodVars_none hV
  obtain ⟨c, rfl, rfl, rfl, wc⟩ := open_int Try.underlying3 (hval 0 3 _ rfl rfl) h0
  obtain ⟨un, rfl, rfl, rfl, wu⟩ := open_int Try.underlying3 (hval 1 3 _ rfl rfl) h1
  have h2k := h2
  obtain ⟨a0, len, cap, rfl⟩ := okWide_slice Try.underlying41 (hval 2 41 _ rfl rfl)
  obtain ⟨fuel, hf⟩ := h2
  clear hA0
  have hb : Rows.uptoBulk d2 ≤ 1048576 := by
    have h : Rows.uptoBulkAll ([DataW.lit (Lit.int IntKind.i64 c), DataW.lit (Lit.int IntKind.i64 un), d2] ++ []) ≤ 1048576 := of_decide_eq_true hk
    simp only [List.append_nil, Rows.uptoBulkAll] at h
    omega
  obtain ⟨a, m, cc, e, ht, hm⟩ := read_tries (x := (d2, p2)) hf hb
  injection e with e1 e2 e3
  subst e1 e2 e3
  refine (chosen_any c un _ _ _ W (bounds_i64 wc) (bounds_i64 wu) ht hm).mono fun e W' ⟨he, hbl⟩ => ?_
  subst he
  have hbelow : Below W.heap.size W W' := hbl
  have hlt2 : ∀ x ∈ p2, x.block < W.heap.size := fun x hx => hW'.lt x (by simp [hx])
  have k0 := Below.trod Try.laidOut' (by kernel_rfl) (of_decide_eq_true (by kernel_rfl)) h0 hbelow (fun x hx => by cases hx)
  have k1 := Below.trod Try.laidOut' (by kernel_rfl) (of_decide_eq_true (by kernel_rfl)) h1 hbelow (fun x hx => by cases hx)
  have k2 := Below.trod Try.laidOut' (by kernel_rfl) (of_decide_eq_true (by kernel_rfl)) h2k hbelow hlt2
  refine ⟨_, rfl, _, _, _, [], [] ++ ([] ++ (p2 ++ [])), [], hW', ?_, ?_, ?_, hbelow.frame _, fun h => by cases h⟩
  · exact trodAll_cons_mk (shut_bool Try.underlying4 _) trodAll_mk0
  · exact trodAll_cons_mk k0 (trodAll_cons_mk k1 (trodAll_cons_mk k2 trodAll_mk0))
  · rfl

set_option maxRecDepth 100000 in
theorem chosen_lifted (os : Os) (started : os.Started) (H : Type) (enc : TypeId × Value → H) (F : Stop.Interp) :
    ReturnsInHanded {} Try.checked os 4 .any ((Rows.OpenSpec.upto Rows.chosenSpec).pre6 enc Try.prog Try.f4 Rows.chosenUptoRow.domain false) (((Rows.OpenSpec.upto Rows.chosenSpec).at F).post enc Try.prog Try.f4 false true false false) := by
  refine returnsInHanded_of_cond (C := Try.checked) (s := Rows.OpenSpec.upto Rows.chosenSpec) (k := Rows.uptoSmall) rfl Try.own' started (by kernel_rfl) Try.func4
    (OpenSpec.witness (enc := enc) (C := Try.checked) (s := Rows.OpenSpec.upto Rows.chosenSpec) (k := Rows.uptoSmall) rfl false ⟨#[], #[.int .i64 0, .int .i64 0, .slice none 0 0], []⟩ 8 (by kernel_rfl) (by kernel_rfl) (by kernel_rfl)
      (x := ([.lit (.int .i64 0), .lit (.int .i64 0), .nil], [], [])) (by kernel_rfl) rfl (by kernel_rfl)) ?_
  intro W base args ds gs before hval hW _ hk _
  exact chosen_contract H enc W base args ds gs before hval hW hk

theorem chosen_upto_holds : Rows.ChosenUptoSaid :=
  OpenClaim.holds_of_cond 4 Try.f4 rfl rfl rfl rfl rfl rfl rfl ⟨rfl, rfl, rfl, rfl, rfl⟩ rfl rfl rfl rfl rfl (by kernel_rfl) Try.func4 (by kernel_rfl)
    (of_decide_eq_true (by kernel_rfl)) (by unfold Func.isWrapper; first | (rw [if_pos (by decide +kernel)]; kernel_rfl) | (rw [if_neg (by decide +kernel)]; exact ⟨rfl, rfl⟩))
    (fun os started H enc _ F => chosen_lifted os started H enc F)

#print axioms chosen_upto_holds

end Go.Proofs.Ytbghhbpacijmmaa
