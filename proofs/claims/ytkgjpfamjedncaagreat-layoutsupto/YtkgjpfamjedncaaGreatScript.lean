/-
  A script, as it is read.
-/
import Derived.Test.YtkgjpfamjedncaaGreatLayouts
import Derived.ProofKit
import Derived.Deep.Slices
namespace Go.Proofs.YtkgjpfamjedncaaGreat
open Go.RowKit Go.Deep

theorem Tryz.cells3 : Tryz.prog.cellsOf 3 = 1 := by kernel_rfl
theorem Tryz.cells5 : Tryz.prog.cellsOf 5 = 1 := by kernel_rfl
theorem Tryz.cells9 : Tryz.prog.cellsOf 9 = 1 := by kernel_rfl
theorem Tryz.cells24 : Tryz.prog.cellsOf 24 = 1 := by kernel_rfl
theorem Tryz.cells39 : Tryz.prog.cellsOf 39 = 1 := by kernel_rfl
theorem Tryz.cells40 : Tryz.prog.cellsOf 40 = 1 := by kernel_rfl
theorem Tryz.cells38 : Tryz.prog.cellsOf 38 = 4 := by kernel_rfl
theorem Tryz.cells42 : Tryz.prog.cellsOf 42 = 4 := by kernel_rfl
theorem Tryz.cells44 : Tryz.prog.cellsOf 44 = 15 := by kernel_rfl

section
variable {H : Type} {enc : TypeId × Value → H} {w : World}

theorem bulk_one (d : DataW H) : 1 ≤ Rows.uptoBulk d := by
  cases d with
  | lit l => cases l <;> simp [Rows.uptoBulk]
  | nil => simp [Rows.uptoBulk]
  | ptr d => simp [Rows.uptoBulk]
  | slice elems spare => simp [Rows.uptoBulk]
  | agg parts => simp [Rows.uptoBulk]
  | iface t d => simp [Rows.uptoBulk]
  | map entries => simp [Rows.uptoBulk]
  | held h => simp [Rows.uptoBulk]
theorem bulk_part {d : DataW H} {l : List (DataW H)} (h : d ∈ l) : Rows.uptoBulk d ≤ Rows.uptoBulkAll l := by
  induction l with
  | nil => cases h
  | cons x r ih =>
    simp only [Rows.uptoBulkAll]
    cases List.mem_cons.1 h with
    | inl e => subst e; omega
    | inr e => have := ih e; omega
theorem bulk_len (l : List (DataW H)) : l.length ≤ Rows.uptoBulkAll l := by
  induction l with
  | nil => simp [Rows.uptoBulkAll]
  | cons x r ih => have := bulk_one x; simp only [Rows.uptoBulkAll, List.length_cons]; omega

/-- An address at which there is a cell. -/
theorem addr_of {a : Addr} {v : Value} (h : w.cell? (a.add 0) = some v) : ∃ b o, a = ⟨b, o, none⟩ := by
  obtain ⟨b, o, sp⟩ := a
  cases sp with
  | none => exact ⟨b, o, rfl⟩
  | some s =>
    unfold World.cell? Addr.add at h
    simp at h
    split at h <;> simp_all

/-- Numbers as they are read. -/
theorem read_ints {fuel : Nat} {v : Value} {x : DataW H × List MemPlace} (h : DataW.trod enc Tryz.prog w 0 (fun _ => true) true fuel 24 [v] = some x) :
    ∃ a n c zs, v = .slice a n c ∧ Sl w v (zs.map (Value.int .i64)) ∧ wfAll zs ∧ zs.length ≤ Rows.uptoBulk x.1 := by
  rcases open_slice1 Tryz.underlying24 Tryz.cells3 h with ⟨hcs, rfl⟩ | ⟨a, len, cap, m, n, V, D, Pl, hcs, _, hl, _, hm, rfl, hx⟩
  · simp at hcs
    subst hcs
    exact ⟨_, _, _, [], rfl, .inl ⟨_, _, rfl, rfl⟩, fun z hz => by simp at hz, by simp⟩
  · simp at hcs
    subst hcs
    simp at hm
    subst hm
    by_cases h0 : len = 0
    · subst h0
      exact ⟨_, _, _, [], rfl, .inl ⟨_, _, rfl, rfl⟩, fun z hz => by simp at hz, by simp⟩
    · obtain ⟨b, o, rfl⟩ := addr_of (hx 0 (by omega)).1
      have hV : ∀ i, i < len → ∃ z, V i = .int .i64 z ∧ (Lit.int .i64 z).wf = true := fun i hi => by
        obtain ⟨z, e1, _, e3⟩ := DataW.trod_int Tryz.underlying3 (hx i (by omega)).2
        exact ⟨z, by simpa using e1, e3⟩
      obtain ⟨f, hf⟩ := choose_lt hV
      refine ⟨_, _, _, (List.range len).map f, rfl, .inr ⟨b, o, _, by simp; rfl, ?_, fun j hj => ?_⟩, fun z hz => ?_, ?_⟩
      · have := World.block_lt_of_cell? w _ (hx 0 (by omega)).1
        rw [add_eq] at this
        exact this
      · simp at hj
        have := (hx j (by omega)).1
        rw [add_eq, (hf j hj).1] at this
        simpa using this
      · obtain ⟨i, hi, rfl⟩ := List.mem_map.1 hz
        exact (hf i (by simpa using hi)).2
      · simp only [Rows.uptoBulk]
        have := bulk_len ((List.range len).map D)
        simp at this ⊢
        omega

theorem bulk_slice_part (elems spare : List (DataW H)) (d : DataW H) (h : d ∈ elems) : Rows.uptoBulk d ≤ Rows.uptoBulk (.slice elems spare) := by
  have := bulk_part h
  simp only [Rows.uptoBulk]
  omega

/-- A layout as it is read. -/
theorem read_layout {fuel : Nat} {v : Value} {x : DataW H × List MemPlace} (h : DataW.trod enc Tryz.prog w 0 (fun _ => true) true fuel 39 [v] = some x) :
    ∃ a n c, ∃ (ls : List Value) (L : List (List Int)), v = .slice a n c ∧ Sl w v ls ∧ ls.length = L.length ∧ (∀ i (h : i < ls.length) (h' : i < L.length), Sl w ls[i] (L[i].map (Value.int .i64))) ∧ (∀ c ∈ L, c.length ≤ Rows.uptoBulk x.1 ∧ wfAll c) ∧ L.length ≤ Rows.uptoBulk x.1 := by
  rcases open_slice1 Tryz.underlying39 Tryz.cells24 h with ⟨hcs, rfl⟩ | ⟨a, len, cap, m, n, V, D, Pl, hcs, _, hl, _, hm, rfl, hx⟩
  · simp at hcs
    subst hcs
    exact ⟨_, _, _, [], [], rfl, .inl ⟨_, _, rfl, rfl⟩, rfl, fun i hi => by simp at hi, fun z hz => by simp at hz, by simp⟩
  · simp at hcs
    subst hcs
    simp at hm
    subst hm
    by_cases h0 : len = 0
    · subst h0
      exact ⟨_, _, _, [], [], rfl, .inl ⟨_, _, rfl, rfl⟩, rfl, fun i hi => by simp at hi, fun z hz => by simp at hz, by simp⟩
    · obtain ⟨b, o, rfl⟩ := addr_of (hx 0 (by omega)).1
      have hV : ∀ i, i < len → ∃ zs, Sl w (V i) (zs.map (Value.int .i64)) ∧ wfAll zs ∧ zs.length ≤ Rows.uptoBulk (D i) := fun i hi => by
        obtain ⟨_, _, _, zs, _, e2, e3, e4⟩ := read_ints (hx i (by omega)).2
        exact ⟨zs, e2, e3, e4⟩
      obtain ⟨f, hf⟩ := choose_lt hV
      refine ⟨_, _, _, (List.range len).map V, (List.range len).map f, rfl, .inr ⟨b, o, _, by simp; rfl, ?_, fun j hj => ?_⟩, by simp, fun i hi hi' => ?_, fun z hz => ?_, ?_⟩
      · have := World.block_lt_of_cell? w _ (hx 0 (by omega)).1
        rw [add_eq] at this
        exact this
      · simp at hj
        have := (hx j (by omega)).1
        rw [add_eq] at this
        simpa using this
      · simp at hi
        simpa using (hf i hi).1
      · obtain ⟨i, hi, rfl⟩ := List.mem_map.1 hz
        have hi' : i < len := by simpa using hi
        exact ⟨Nat.le_trans (hf i hi').2.2 (bulk_slice_part _ _ _ (List.mem_map.2 ⟨i, hi, rfl⟩)), (hf i hi').2.1⟩
      · simp only [Rows.uptoBulk]
        have := bulk_len ((List.range len).map D)
        simp at this ⊢
        omega

theorem sub_get {cs : List Value} {a n j : Nat} {v : Value} (h : ((cs.drop a).take n)[j]? = some v) : cs[a + j]? = some v := by
  rw [List.getElem?_take] at h
  split at h
  · rw [List.getElem?_drop] at h; exact h
  · simp at h
theorem sub_one {cs : List Value} {a : Nat} {v : Value} (h : (cs.drop a).take 1 = [v]) : cs[a]? = some v := by
  have : ((cs.drop a).take 1)[0]? = some v := by rw [h]; rfl
  exact sub_get this
theorem read_int {fuel : Nat} {cs : List Value} {a : Nat} {x : DataW H × List MemPlace} (h : DataW.trod enc Tryz.prog w 0 (fun _ => true) true fuel 3 ((cs.drop a).take (Tryz.prog.cellsOf 3)) = some x) : ∃ n, cs[a]? = some (.int .i64 n) := by
  obtain ⟨n, e, _, _⟩ := DataW.trod_int Tryz.underlying3 h
  rw [Tryz.cells3] at e
  exact ⟨n, sub_one e⟩
theorem take_one_form {cs : List Value} {a : Nat} (h : a < cs.length) : (cs.drop a).take 1 = [cs[a]] := by
  rw [List.drop_eq_getElem_cons h]; rfl

/-- A step of a script, as it is read. -/
theorem read_op {fuel : Nat} {cs : List Value} {x : DataW H × List MemPlace} (h : DataW.trod enc Tryz.prog w 0 (fun _ => true) true fuel 44 cs = some x) (hb : Rows.uptoBulk x.1 ≤ 1048576) {b off : Nat} (hc : ∀ j, j < 15 → w.cell? ⟨b, off + j, none⟩ = cs[j]?) :
    ∃ kd L, OpAt w b off kd L ∧ L.length ≤ Rows.uptoBulk x.1 := by
  obtain ⟨xs, n, rfl, rfl, hlen, hxl, hf⟩ := DataW.trod_struct Tryz.underlying44 h
  rw [Tryz.cells44] at hlen
  have hxl9 : xs.length = 9 := hxl
  have g0 : DataW.trod enc Tryz.prog w 0 (fun _ => true) true n 3 ((cs.drop 0).take (Tryz.prog.cellsOf 3)) = xs[0]? := hf 0 _ rfl
  have g1 : DataW.trod enc Tryz.prog w 0 (fun _ => true) true n 3 ((cs.drop 1).take (Tryz.prog.cellsOf 3)) = xs[1]? := hf 1 _ rfl
  have g2 : DataW.trod enc Tryz.prog w 0 (fun _ => true) true n 3 ((cs.drop 2).take (Tryz.prog.cellsOf 3)) = xs[2]? := hf 2 _ rfl
  have g3 : DataW.trod enc Tryz.prog w 0 (fun _ => true) true n 3 ((cs.drop 3).take (Tryz.prog.cellsOf 3)) = xs[3]? := hf 3 _ rfl
  have g4 : DataW.trod enc Tryz.prog w 0 (fun _ => true) true n 38 ((cs.drop 4).take (Tryz.prog.cellsOf 38)) = xs[4]? := hf 4 _ rfl
  have g5 : DataW.trod enc Tryz.prog w 0 (fun _ => true) true n 39 ((cs.drop 8).take (Tryz.prog.cellsOf 39)) = xs[5]? := hf 5 _ rfl
  have g6 : DataW.trod enc Tryz.prog w 0 (fun _ => true) true n 24 ((cs.drop 9).take (Tryz.prog.cellsOf 24)) = xs[6]? := hf 6 _ rfl
  have g7 : DataW.trod enc Tryz.prog w 0 (fun _ => true) true n 9 ((cs.drop 10).take (Tryz.prog.cellsOf 9)) = xs[7]? := hf 7 _ rfl
  have g8 : DataW.trod enc Tryz.prog w 0 (fun _ => true) true n 42 ((cs.drop 11).take (Tryz.prog.cellsOf 42)) = xs[8]? := hf 8 _ rfl
  rw [List.getElem?_eq_getElem (by omega)] at g0 g1 g2 g3 g4 g5 g6 g7 g8
  obtain ⟨kd, k0⟩ := read_int g0
  obtain ⟨a, k1⟩ := read_int g1
  obtain ⟨bb, k2⟩ := read_int g2
  obtain ⟨c, k3⟩ := read_int g3
  obtain ⟨ys, n4, _, _, _, hyl, hy⟩ := DataW.trod_struct Tryz.underlying38 g4
  have hyl4 : ys.length = 4 := hyl
  have y0 : DataW.trod enc Tryz.prog w 0 (fun _ => true) true n4 3 ((((cs.drop 4).take (Tryz.prog.cellsOf 38)).drop 0).take (Tryz.prog.cellsOf 3)) = ys[0]? := hy 0 _ rfl
  have y1 : DataW.trod enc Tryz.prog w 0 (fun _ => true) true n4 3 ((((cs.drop 4).take (Tryz.prog.cellsOf 38)).drop 1).take (Tryz.prog.cellsOf 3)) = ys[1]? := hy 1 _ rfl
  have y2 : DataW.trod enc Tryz.prog w 0 (fun _ => true) true n4 3 ((((cs.drop 4).take (Tryz.prog.cellsOf 38)).drop 2).take (Tryz.prog.cellsOf 3)) = ys[2]? := hy 2 _ rfl
  have y3 : DataW.trod enc Tryz.prog w 0 (fun _ => true) true n4 3 ((((cs.drop 4).take (Tryz.prog.cellsOf 38)).drop 3).take (Tryz.prog.cellsOf 3)) = ys[3]? := hy 3 _ rfl
  rw [List.getElem?_eq_getElem (by omega)] at y0 y1 y2 y3
  obtain ⟨q1, r1⟩ := read_int y0
  obtain ⟨q2, r2⟩ := read_int y1
  obtain ⟨q3, r3⟩ := read_int y2
  obtain ⟨q4, r4⟩ := read_int y3
  have k4 := sub_get r1
  have k5 := sub_get r2
  have k6 := sub_get r3
  have k7 := sub_get r4
  rw [Tryz.cells39, take_one_form (by omega)] at g5
  rw [Tryz.cells24, take_one_form (by omega)] at g6
  obtain ⟨la, ln, lc, ls, L, e5, S1, S2, S3, S4, S5⟩ := read_layout g5
  obtain ⟨ua, un, uc, zs, e6, T1, T2, T3⟩ := read_ints g6
  obtain ⟨st, e7, _, _⟩ := DataW.trod_string Tryz.underlying9 g7
  rw [Tryz.cells9] at e7
  have k10 := sub_one e7
  obtain ⟨us, n8, _, _, _, hul, hu⟩ := DataW.trod_struct Tryz.underlying42 g8
  have hul4 : us.length = 4 := hul
  have u0 : DataW.trod enc Tryz.prog w 0 (fun _ => true) true n8 3 ((((cs.drop 11).take (Tryz.prog.cellsOf 42)).drop 0).take (Tryz.prog.cellsOf 3)) = us[0]? := hu 0 _ rfl
  have u1 : DataW.trod enc Tryz.prog w 0 (fun _ => true) true n8 3 ((((cs.drop 11).take (Tryz.prog.cellsOf 42)).drop 1).take (Tryz.prog.cellsOf 3)) = us[1]? := hu 1 _ rfl
  have u2 : DataW.trod enc Tryz.prog w 0 (fun _ => true) true n8 3 ((((cs.drop 11).take (Tryz.prog.cellsOf 42)).drop 2).take (Tryz.prog.cellsOf 3)) = us[2]? := hu 2 _ rfl
  have u3 : DataW.trod enc Tryz.prog w 0 (fun _ => true) true n8 40 ((((cs.drop 11).take (Tryz.prog.cellsOf 42)).drop 3).take (Tryz.prog.cellsOf 40)) = us[3]? := hu 3 _ rfl
  rw [List.getElem?_eq_getElem (by omega)] at u0 u1 u2 u3
  obtain ⟨t1, r11⟩ := read_int u0
  obtain ⟨t2, r12⟩ := read_int u1
  obtain ⟨t3, r13⟩ := read_int u2
  have k11 := sub_get r11
  have k12 := sub_get r12
  have k13 := sub_get r13
  obtain ⟨va, vn, vc, e14⟩ : ∃ va vn vc, ((cs.drop 11).take 4)[3]? = some (.slice va vn vc) := by
    rw [Tryz.cells40] at u3
    rcases DataW.trod_slice Tryz.underlying40 u3 with ⟨hcs, _⟩ | ⟨a', len', cap', _, _, _, _, hcs, _⟩
    · exact ⟨_, _, _, sub_one (by rw [← Tryz.cells42]; exact hcs)⟩
    · exact ⟨_, _, _, sub_one (by rw [← Tryz.cells42]; exact hcs)⟩
  have k14 := sub_get e14
  have k8 : cs[8]? = some (.slice la ln lc) := by rw [List.getElem?_eq_getElem (by omega), e5]
  have k9 : cs[9]? = some (.slice ua un uc) := by rw [List.getElem?_eq_getElem (by omega), e6]
  have p5 : Rows.uptoBulk xs[5].1 ≤ Rows.uptoBulk (.agg (xs.map (·.1))) := by
    have := bulk_part (List.mem_map.2 ⟨xs[5], List.getElem_mem (by omega), rfl⟩ : xs[5].1 ∈ xs.map (·.1))
    simp only [Rows.uptoBulk]
    omega
  have p6 : Rows.uptoBulk xs[6].1 ≤ Rows.uptoBulk (.agg (xs.map (·.1))) := by
    have := bulk_part (List.mem_map.2 ⟨xs[6], List.getElem_mem (by omega), rfl⟩ : xs[6].1 ∈ xs.map (·.1))
    simp only [Rows.uptoBulk]
    omega
  rw [e5] at S1
  rw [e6] at T1
  dsimp only at hb ⊢
  refine ⟨kd, L, ⟨a, bb, c, q1, q2, q3, q4, la, ln, lc, ua, un, uc, st, t1, t2, t3, va, vn, vc, ls, zs, ⟨?_, ?_, ?_, ?_, ?_, ?_, ?_, ?_, ?_, ?_, ?_, ?_, ?_, ?_, ?_⟩, S1, S2, S3, T1, fun c' hc' => ⟨by have := (S4 c' hc').1; omega, (S4 c' hc').2⟩, by omega, T2⟩, by omega⟩
  · exact (hc 0 (by omega)).trans k0
  · exact (hc 1 (by omega)).trans k1
  · exact (hc 2 (by omega)).trans k2
  · exact (hc 3 (by omega)).trans k3
  · exact (hc 4 (by omega)).trans k4
  · exact (hc 5 (by omega)).trans k5
  · exact (hc 6 (by omega)).trans k6
  · exact (hc 7 (by omega)).trans k7
  · exact (hc 8 (by omega)).trans k8
  · exact (hc 9 (by omega)).trans k9
  · exact (hc 10 (by omega)).trans k10
  · exact (hc 11 (by omega)).trans k11
  · exact (hc 12 (by omega)).trans k12
  · exact (hc 13 (by omega)).trans k13
  · exact (hc 14 (by omega)).trans k14

theorem total_bulk (Ls : List (List (List Int))) : ∀ (ds : List (DataW H)), Ls.length = ds.length → (∀ i (h : i < Ls.length) (h' : i < ds.length), Ls[i].length ≤ Rows.uptoBulk ds[i]) → total Ls ≤ Rows.uptoBulkAll ds := by
  induction Ls with
  | nil => intro ds _ _; simp [total]
  | cons L Ls ih =>
    intro ds hl hb
    cases ds with
    | nil => simp at hl
    | cons d ds =>
      have h0 := hb 0 (by simp) (by simp)
      have h1 := ih ds (by simpa using hl) (fun i h h' => by have := hb (i + 1) (by simpa using h) (by simpa using h'); simpa using this)
      simp at h0
      simp only [total, List.map_cons, List.sum_cons, Rows.uptoBulkAll] at h1 ⊢
      omega

/-- A script, as it is read. -/
theorem read_script {fuel : Nat} {v : Value} {x : DataW H × List MemPlace} (h : DataW.trod enc Tryz.prog w 0 (fun _ => true) true fuel 22 [v] = some x) (hb : Rows.uptoBulk x.1 ≤ 1048576) : ScriptAt w v := by
  rcases open_slice Tryz.underlying22 h with ⟨hcs, rfl⟩ | ⟨a, len, cap, m, n, D, Pl, hcs, _, hl, _, hm, rfl, hx⟩
  · simp at hcs
    subst hcs
    exact .inl ⟨_, _, rfl⟩
  · simp at hcs
    subst hcs
    simp at hm
    subst hm
    by_cases h0 : len = 0
    · subst h0
      exact .inl ⟨_, _, rfl⟩
    · rw [Tryz.cells44] at hx
      have ha : ∃ b o, a = ⟨b, o, none⟩ := by
        obtain ⟨cs', h1, _⟩ := hx 0 (by omega)
        obtain ⟨_, h2, h3⟩ := World.cells?_some h1
        have h4 := h3 0 (by omega)
        rw [List.getElem?_eq_getElem (by omega), Nat.zero_mul, add_add] at h4
        exact addr_of h4
      obtain ⟨b, o, rfl⟩ := ha
      simp only [Rows.uptoBulk] at hb
      have hlen := bulk_len ((List.range len).map D)
      simp only [List.length_map, List.length_range] at hlen
      have hop : ∀ i, i < len → ∃ q : Int × List (List Int), OpAt w b (o + i * 15) q.1 q.2 ∧ q.2.length ≤ Rows.uptoBulk (D i) := fun i hi => by
        obtain ⟨cs', h1, h2⟩ := hx i (by omega)
        obtain ⟨_, h3, h4⟩ := World.cells?_some h1
        have hbi : Rows.uptoBulk (D i) ≤ 1048576 := by
          have := bulk_part (List.mem_map.2 ⟨i, by simpa using hi, rfl⟩ : D i ∈ (List.range len).map D)
          omega
        obtain ⟨kd, L, r1, r2⟩ := read_op (b := b) (off := o + i * 15) h2 hbi (fun j hj => by
          have := h4 j hj
          rw [add_eq, add_eq] at this
          exact this)
        exact ⟨(kd, L), r1, r2⟩
      obtain ⟨f, hf⟩ := choose_lt hop
      have hbw : b < w.heap.size := by
        obtain ⟨cs', h1, _⟩ := hx 0 (by omega)
        have := World.cells?_block h1 (by omega)
        rw [Nat.zero_mul, add_eq] at this
        exact this
      refine .inr ⟨len, b, o, _, (List.range len).map fun i => (f i).1, (List.range len).map fun i => (f i).2, rfl, by simp, by simp, hbw, fun k hk hk' => ?_, by omega, ?_⟩
      · simp at hk
        simpa using (hf k hk).1
      · have := total_bulk ((List.range len).map fun i => (f i).2) ((List.range len).map D) (by simp) (fun i hi hi' => by
          simp at hi
          simpa using (hf i hi).2)
        omega
end
end Go.Proofs.YtkgjpfamjedncaaGreat
