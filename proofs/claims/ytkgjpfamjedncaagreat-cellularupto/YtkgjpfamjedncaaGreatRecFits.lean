/-
  A record is laid behind bytes.
-/
/-
  Which shapes fit the beginning of bytes.
-/
import Derived.Test.YtkgjpfamjedncaaGreatBaseNum
import Derived.Laws.AppendOwnNone
import Derived.Maps.AppendAt
namespace Go.Proofs.YtkgjpfamjedncaaGreat
open Go.RowKit

/-- A slice that reads as a list, whatever its address where it is empty. -/
def Bs (w : World) (v : Value) (ys : List Value) : Prop :=
  (v = .slice none 0 0 ∧ ys = []) ∨ ∃ ad c, v = .slice (some ad) ys.length c ∧ ∀ j u, ys[j]? = some u → w.cell? (ad.add j) = some u

theorem Bs.len {w : World} {v : Value} {ys : List Value} (h : Bs w v ys) : ∃ a c, v = .slice a ys.length c := by
  rcases h with ⟨rfl, rfl⟩ | ⟨ad, c, rfl, _⟩
  · exact ⟨_, _, rfl⟩
  · exact ⟨_, _, rfl⟩
theorem Bs.only {S : Nat → Prop} {w w' : World} {v : Value} {ys : List Value} (h : Bs w v ys) (ho : Only S w w') (hs : ∀ b, v.ownBlock = some b → ¬ S b) : Bs w' v ys := by
  rcases h with h | ⟨ad, c, rfl, hc⟩
  · exact .inl h
  · refine .inr ⟨ad, c, rfl, fun j u hj => ?_⟩
    have h1 := hc j u hj
    have hb := World.block_lt_of_cell? w _ h1
    have e : (ad.add j).block = ad.block := by unfold Addr.add; split <;> rfl
    rw [World.cell?_of_block (ho.block _ hb (by rw [e]; exact hs ad.block rfl))]
    exact h1
theorem Bs.bl {w w' : World} {v : Value} {ys : List Value} (h : Bs w v ys) (hb : Bl w w') : Bs w' v ys := h.only (Only.of_bl (S := fun _ => False) hb) fun _ _ e => e
theorem Bs.sl {w : World} {v : Value} {ys : List Value} (h : Bs w v ys) : Sl w v ys := by
  rcases h with ⟨rfl, rfl⟩ | ⟨ad, c, rfl, hc⟩
  · exact .inl ⟨_, _, rfl, rfl⟩
  · cases hy : ys with
    | nil => exact .inl ⟨_, _, rfl, rfl⟩
    | cons y r =>
      have h0 := hc 0 y (by rw [hy]; rfl)
      have ha : ∃ b o, ad = ⟨b, o, none⟩ := by
        obtain ⟨b, o, sp⟩ := ad
        cases sp with
        | none => exact ⟨b, o, rfl⟩
        | some s =>
          unfold World.cell? Addr.add at h0
          simp at h0
          split at h0 <;> simp_all
      obtain ⟨b, o, rfl⟩ := ha
      have hb := World.block_lt_of_cell? w _ h0
      rw [add_eq] at hb
      rw [← hy]
      refine .inr ⟨b, o, c, rfl, hb, fun j hj => ?_⟩
      have := hc j ys[j] (List.getElem?_eq_getElem hj)
      rw [add_eq] at this
      exact this
theorem ownsRow_bs {w : World} {base : Nat} {e : TypeId} {v : Value} {n : Nat} {xs : List Value} (h : w.ownsRow base e 1 v n xs) : Bs w v xs := by
  have hl := ownsRow_len h
  rcases h.2 with ⟨rfl, rfl⟩ | ⟨g, cap, cur, rfl, _⟩
  · exact .inl ⟨rfl, List.length_eq_zero_iff.1 hl⟩
  · refine .inr ⟨⟨g, 0, none⟩, cap, by rw [hl], fun j u hj => ?_⟩
    rw [add_eq, Nat.zero_add, h.cellAt j (by have := (List.getElem?_eq_some_iff.1 hj).1; omega)]
    exact hj

/-- 'append(v, y...)' where y reads as a list. -/
theorem wpList_append_bs {P : Program} (w : World) {ops : Array Oper} {rest : List Oper} {o : Oper} {a : Act} {Q : Exit → Act → World → Prop}
    (hg : o.guard = none) (s y : Operand) (t : TypeId) (hop : o.op = Op.call { callee := Callee.builtin Builtin.append, args := #[s, y], argTypes := #[t, t] })
    (base : Nat) (e : TypeId) (i : TypeInfo) (z : Value) (bytes : Nat) (h1 : P.underlying t = some (.slice e)) (h2 : P.info? e = some i) (h3 : i.zero = some z) (h4 : i.size = 1) (h5 : i.bytes = bytes) (h6 : z.cells.size = 1)
    (v : Value) (n : Nat) (xs : List Value) (hs : a.eval s = v) (hown : w.ownsRow base e 1 v n xs) (u : Value) (ys : List Value) (hu : a.eval y = u) (hy : Bs w u ys) (h1c : ∀ q ∈ ys, q.oneCell' = true)
    (b1 : n + ys.length ≤ maxLen) (b2 : (n + ys.length) * bytes ≤ 140737488355328) (hb : base ≤ w.heap.size)
    (hK : ∀ v' w', Grew base e w w' v v' (n + ys.length) (xs ++ ys) → wpList P ops Q rest (a.put o.dst v') w') :
    wpList P ops Q (o :: rest) a w := by
  rcases hy with ⟨rfl, rfl⟩ | ⟨ad, c, rfl, hc⟩
  · refine wpList_append_own_none hg s y t hop base e i 1 h1 h2 v n xs hs hown hu ?_
    exact hK v w (by simpa using Grew.refl hown)
  · refine wpList_append_own_at w hg s y t hop base e i z 1 bytes h1 h2 h3 h4 h5 h6 (by omega) v n xs hs hown ad ys.length c ys hu (by simp) hc h1c b1 b2 hb ?_
    intro v' w' r1 r2 r3 r4
    refine hK v' w' ⟨r1, (Only.of_grown r2).mono fun k _ e => e.symm, fun b hb' => ?_, ?_⟩
    · rcases r4 with r4 | r4
      · exact .inl (by rw [← r4]; exact hb')
      · rw [hb'] at r4; simp at r4; exact .inr (by omega)
    · obtain ⟨a', c', e'⟩ := (ownsRow_sl r1).len
      rw [ownsRow_len r1] at e'
      exact ⟨a', c', e'⟩
theorem bs_new (w : World) (e : TypeId) (cs : Array Value) (n : Nat) (hn : n = cs.size) : Bs (w.alloc (.cells cs e)) (.slice (some ⟨w.heap.size, 0, none⟩) n n) cs.toList := by
  subst hn
  refine .inr ⟨⟨w.heap.size, 0, none⟩, cs.size, by simp, fun j u hj => ?_⟩
  rw [add_eq, Nat.zero_add, cell_of_row _ _ j _ e (0, 0) (heap_alloc_new w _)]
  simpa using hj
theorem Grew.from {base : Nat} {e : TypeId} {w W w1 : World} {v v1 : Value} {n : Nat} {xs : List Value} (hb : Bl w W) (h : Grew base e W w1 v v1 n xs) : Grew base e w w1 v v1 n xs :=
  ⟨h.own, (Only.of_bl hb).trans h.only, fun b hb' => (h.lies b hb').imp id fun e => Nat.le_trans hb.lt e, h.shape⟩
/-- A block of another element type than the row's is as it was. -/
theorem Grew.block {base : Nat} {e e' : TypeId} {w w1 : World} {v v1 : Value} {n m : Nat} {xs ys : List Value} (h : Grew base e w w1 v v1 n xs) (hv : w.ownsRow base e 1 v m ys) {R : Nat} {c : Array Value} {f : Nat × Nat} (hR : w.heap[R]? = some (.cells c e' f)) (hne : e ≠ e') : w1.heap[R]? = some (.cells c e' f) := by
  rw [h.only.block R (Array.getElem?_eq_some_iff.1 hR).1 (fun e => own_ne_block hv hR hne e)]
  exact hR

/-- A record as bytes. -/
def recB (kd : Int) (ns : List Int) (val : List Int) : List Int := [kd, ns.length, val.length] ++ (ns.flatMap enc8 ++ val)
def recTo (kd : Int) (ns : List Int) (val : List Int) (k : Nat) : List Int := [kd, ns.length, val.length] ++ (ns.take k).flatMap enc8
theorem recTo_succ (kd : Int) (ns val : List Int) (k : Nat) (h : k < ns.length) : recTo kd ns val (k + 1) = recTo kd ns val k ++ enc8 ns[k] := by
  unfold recTo; rw [List.take_succ_eq_append_getElem h, List.flatMap_append, List.append_assoc]; simp only [List.flatMap_cons, List.flatMap_nil, List.append_nil]
theorem flat_len : ∀ ns : List Int, (ns.flatMap enc8).length = 8 * ns.length
  | [] => rfl
  | n :: r => by rw [List.flatMap_cons, List.length_append, enc8_len, flat_len r, List.length_cons]; omega
theorem recTo_len (kd : Int) (ns val : List Int) (k : Nat) (h : k ≤ ns.length) : (recTo kd ns val k).length = 3 + 8 * k := by
  unfold recTo; rw [List.length_append, flat_len, List.length_take, Nat.min_eq_left h]; simp
theorem recB_eq (kd : Int) (ns val : List Int) : recB kd ns val = recTo kd ns val ns.length ++ val := by
  unfold recB recTo; rw [List.take_length, List.append_assoc]
theorem recB_len (kd : Int) (ns val : List Int) : (recB kd ns val).length = 3 + 8 * ns.length + val.length := by
  rw [recB_eq, List.length_append, recTo_len _ _ _ _ (Nat.le_refl _)]

theorem b8_one (l : List Int) : ∀ q ∈ l.map B8, q.oneCell' = true := fun q hq => by
  obtain ⟨x, _, rfl⟩ := List.mem_map.1 hq; rfl

set_option maxRecDepth 100000 in
set_option maxHeartbeats 1000000 in
theorem recAppend_any (base : Nat) (v : Value) (k : Nat) (xs : List Value) (kd : Int) (nv vv : Value) (ns val : List Int) (w : World) (hv : w.ownsRow base 5 1 v k xs) (hb : base ≤ w.heap.size) (hk : k ≤ 30000000)
    (hns : Bs w nv (ns.map (Value.int .i64))) (hval : Bs w vv (val.map B8)) (h0 : 0 ≤ kd) (h1 : kd ≤ 255) (hnl : ns.length ≤ 255) (hvl : val.length ≤ 255) (hd1 : ∀ b, v.ownBlock = some b → nv.ownBlock ≠ some b) (hd2 : ∀ b, v.ownBlock = some b → vv.ownBlock ≠ some b)
    (hl1 : ∀ b, nv.ownBlock = some b → b < w.heap.size) (hl2 : ∀ b, vv.ownBlock = some b → b < w.heap.size) :
    Calls Tryz.prog 112 #[.agg #[.int .i64 kd, nv, vv], v] w fun e w' => ∃ v', e = .returned v' ∧ Grew base 5 w w' v v' (k + (recB kd ns val).length) (xs ++ (recB kd ns val).map B8) := by
  obtain ⟨i5, ji, jz0, jz1, jz2⟩ := info_parts Tryz.info5
  obtain ⟨na, nc, en⟩ := hns.len
  obtain ⟨va, vc, ev⟩ := hval.len
  simp only [List.length_map] at en ev
  subst en ev
  have Hv := hid hv
  have Hns := hid hns
  have Hval := hid hval
  have Hd1 := hid hd1
  have Hd2 := hid hd2
  have Hl1 := hid hl1
  have Hl2 := hid hl2
  clear hv hns hval hd1 hd2 hl1 hl2
  have hby : Hid ((k + 3) * 1 ≤ 140737488355328) := by unfold Hid; omega
  have hml : Hid (k + 3 ≤ maxLen) := by unfold Hid maxLen; omega
  go_enter Tryz.func112, Tryz.ntmps112
  have bX := (Bl.refl w).alloc (.cells #[.int .i64 kd, .slice na ns.length nc, .slice va val.length vc] 170)
  have hX := heap_alloc_new w (.cells #[.int .i64 kd, .slice na ns.length nc, .slice va val.length vc] 170)
  have HV1 := hid (Hv.out.alloc (.cells #[.int .i64 kd, .slice na ns.length nc, .slice va val.length vc] 170))
  have HY := hid (bs_new (w.alloc (.cells #[.int .i64 kd, .slice na ns.length nc, .slice va val.length vc] 170)) 5 #[B8 kd, B8 ns.length, B8 val.length] 3 rfl)
  have hone : Hid (∀ q ∈ (#[B8 kd, B8 ns.length, B8 val.length] : Array Value).toList, q.oneCell' = true) := by
    intro q hq; simp at hq; rcases hq with rfl | rfl | rfl <;> rfl
  rw [show (w.alloc (.cells #[.int .i64 kd, .slice na ns.length nc, .slice va val.length vc] 170)).heap.size = w.heap.size + 1 from by simp] at HY
  have HX := hid hX
  have BX := hid bX
  clear bX hX
  go_wp2_with (at_builtin; refine wpList_append_bs _ rfl (.tmp 7) (.tmp 19) 40 rfl base 5 i5 (.int .u8 0) 1 Tryz.underlying40 ji jz0 jz1 jz2 rfl v k xs rfl (HV1.out.alloc _) _ _ rfl (by exact HY.out) hone.out hml.out hby.out (by simp; omega) ?_)
  intro v1 w1 hG
  have HE := hid (Below.heap_alloc (w.alloc (.cells #[.int .i64 kd, .slice na ns.length nc, .slice va val.length vc] 170)) (.cells #[B8 kd, B8 ns.length, B8 val.length] 5) w.heap.size (by simp))
  have HX1 := hid (hG.block (HV1.out.alloc _) (HE.out.trans HX.out) (by decide))
  have HG1 := hid (Grew.from (BX.out.alloc (.cells #[B8 kd, B8 ns.length, B8 val.length] 5)) hG)
  clear hG HY HV1 HE hone
  obtain ⟨a1, c1, e1⟩ : ∃ a c, v1 = .slice a (k + 3) c := HG1.out.shape
  subst e1
  have x1 := cell_of_row w1 w.heap.size 1 _ 170 (0, 0) HX1.out
  have x2 := cell_of_row w1 w.heap.size 2 _ 170 (0, 0) HX1.out
  simp at x1 x2
  have HR0 : Hid (Grew base 5 w w1 v (.slice a1 (k + 3) c1) (k + (3 + 8 * 0)) (xs ++ (recTo kd ns val 0).map B8)) := by
    have := HG1.out
    refine hid ?_
    simpa [recTo] using this
  clear HG1
  go_wp2
  go_loopw [1, 24] (fun d i wr => ∃ (j : Nat), j ≤ ns.length ∧ i = .int .i64 j ∧ wr.heap[w.heap.size]? = some (.cells #[.int .i64 kd, .slice na ns.length nc, .slice va val.length vc] 170 (0, 0)) ∧ Grew base 5 w wr v d (k + (3 + 8 * j)) (xs ++ (recTo kd ns val j).map B8)) (fun _ i _ => ns.length - (intOf i).toNat)
  case atStart => exact ⟨0, by omega, rfl, HX1.out, HR0.out⟩
  case round =>
    clear HR0 HX1 x1 x2
    obtain ⟨j, hj, rfl, hXr, hG⟩ := hrel
    have HXr := hid hXr
    have HG := hid hG
    clear hXr hG
    have hszr := Nat.le_trans hb HG.out.only.size
    by_cases hlt : j < ns.length
    · have Hn := hid ((Hns.out.only HG.out.only (fun b hb' e => Hd1.out b e hb')).sl)
      rcases Hn.out with ⟨a9, c9, hv0, hz0⟩ | ⟨b1, o1, cc, hv1, hb1, hc1⟩
      · simp at hz0; simp [hz0] at hlt
      have hcj := hc1 j (by simpa using hlt)
      simp only [List.getElem_map] at hcj
      simp only [Value.slice.injEq] at hv1
      obtain ⟨rfl, hlx, rfl⟩ := hv1
      clear hlx hc1
      have HE := hid (recTo_succ kd ns val j hlt)
      generalize ns[j] = nj at *
      go_wp2_with fail
      refine (appendNumber_any base _ _ _ nj _ HG.out.own hszr (by omega)).mono ?_
      rintro e w2 ⟨v2, rfl, hG2⟩
      have HX2 := hid (hG2.block HG.out.own HXr.out (by decide))
      have HG2 := hid (HG.out.trans hG2)
      clear hG2 HG HXr Hn
      go_wp2
      go_roundw
      case rel => exact ⟨j + 1, by omega, by go_num, HX2.out, by rw [HE.out]; simpa [Nat.add_assoc, Nat.mul_add] using HG2.out⟩
      case measure => simp [intOf]; omega
    · have hjn : j = ns.length := by omega
      subst hjn
      have x2 := cell_of_row wr w.heap.size 2 _ 170 (0, 0) HXr.out
      simp at x2
      have Hvv := hid (Hval.out.only HG.out.only (fun b hb' e => Hd2.out b e hb'))
      have hb2 : Hid ((k + (3 + 8 * ns.length) + (val.map B8).length) * 1 ≤ 140737488355328) := by unfold Hid; simp; omega
      have hm2 : Hid (k + (3 + 8 * ns.length) + (val.map B8).length ≤ maxLen) := by unfold Hid maxLen; simp; omega
      have HB := hid (recB_eq kd ns val)
      have HBl := hid (recB_len kd ns val)
      go_wp2_with (at_builtin; refine wpList_append_bs _ rfl (.tmp 32) (.tmp 34) 40 rfl base 5 i5 (.int .u8 0) 1 Tryz.underlying40 ji jz0 jz1 jz2 rfl _ _ _ rfl HG.out.own _ _ rfl Hvv.out (b8_one val) hm2.out hb2.out hszr ?_)
      intro v3 w3 hG3
      have HG3 := hid (HG.out.trans hG3)
      clear hG3 HG
      go_wp2
      go_ret
      refine ⟨_, rfl, ?_⟩
      rw [HBl.out, HB.out]
      simpa [Nat.add_assoc] using HG3.out
end Go.Proofs.YtkgjpfamjedncaaGreat

namespace Go.Proofs.YtkgjpfamjedncaaGreat
open Go.RowKit

/-- Does a shape (kind, numbers, value) fit the beginning of some bytes? -/
def fitsB (k n v : Int) (ds : List Int) : Bool := (ds.getD 0 0 == k) && (decide (ds.length < 2) || (ds.getD 1 0 == n)) && (decide (ds.length < 3) || decide (ds.getD 2 0 ≤ v))

theorem byte_at {w : World} {b o : Nat} {ds : List Int} (hc : ∀ j, (h : j < (ds.map B8).length) → w.cell? ⟨b, o + j, none⟩ = some (ds.map B8)[j]) (j : Nat) (h : j < ds.length) : w.cell? ⟨b, o + j, none⟩ = some (.int .u8 (ds.getD j 0)) := by
  have := hc j (by simpa using h)
  rw [this]
  simp [B8, List.getD, h]

set_option maxRecDepth 100000 in
set_option maxHeartbeats 4000000 in
theorem begins_core (k n v : Int) (b o c m : Nat) (d0 d1 d2 : Int) (r : Bool) (w : World) (hm : 0 < m) (hl : m ≤ 40000000) (hb : b < w.heap.size) (y0 : w.cell? ⟨b, o, none⟩ = some (.int .u8 d0)) (y1 : 1 < m → w.cell? ⟨b, o + 1, none⟩ = some (.int .u8 d1)) (y2 : 2 < m → w.cell? ⟨b, o + 2, none⟩ = some (.int .u8 d2))
    (r0 : 0 ≤ d0 ∧ d0 ≤ 255) (r1 : 0 ≤ d1 ∧ d1 ≤ 255) (r2 : 0 ≤ d2 ∧ d2 ≤ 255) (hr : Hid (((d0 == k) && (decide (m < 2) || (d1 == n)) && (decide (m < 3) || decide (d2 ≤ v))) = r)) :
    Calls Tryz.prog 118 #[.agg #[.int .i64 k, .int .i64 n, .int .i64 v], .slice (some ⟨b, o, none⟩) m c] w fun e w' => e = .returned (.bool r) ∧ Bl w w' := by
  obtain ⟨r00, r01⟩ := r0
  obtain ⟨r10, r11⟩ := r1
  obtain ⟨r20, r21⟩ := r2
  have m0 : (0 : Int) < (m : Int) := by omega
  cases e0 : (d0 == k)
  · have F : Hid (r = false) := by rw [Hid, ← hr.out, e0]; rfl
    clear hr y1 y2
    go_enter Tryz.func118, Tryz.ntmps118
    go_wp2
    go_quiet (fail)
    go_wp2
    go_ret
    exact ⟨ret_bool F.out.symm, ((Bl.refl _).alloc _).drewN _⟩
  · by_cases l1 : m < 2
    · have F : Hid (r = true) := by rw [Hid, ← hr.out, e0]; simp [l1]; omega
      have m1 : (m : Int) < 2 := by omega
      have m2 : (m : Int) < 3 := by omega
      clear hr y1 y2
      go_enter Tryz.func118, Tryz.ntmps118
      go_wp2
      go_quiet (fail)
      go_wp2
      go_ret
      exact ⟨ret_bool F.out.symm, ((Bl.refl _).alloc _).drewN _⟩
    · have z1 := y1 (by omega)
      have m1 : (1 : Int) < (m : Int) := by omega
      have n1 : decide ((m : Int) < 2) = false := by simp; omega
      cases e1 : (d1 == n)
      · have F : Hid (r = false) := by rw [Hid, ← hr.out, e0, e1]; simp [l1]
        clear hr y1 y2
        go_enter Tryz.func118, Tryz.ntmps118
        go_wp2
        go_quiet (fail)
        go_wp2
        go_ret
        exact ⟨ret_bool F.out.symm, ((Bl.refl _).alloc _).drewN _⟩
      · by_cases l2 : m < 3
        · have F : Hid (r = true) := by rw [Hid, ← hr.out, e0, e1]; simp [l2]
          have m2 : (m : Int) < 3 := by omega
          clear hr y1 y2
          go_enter Tryz.func118, Tryz.ntmps118
          go_wp2
          go_quiet (fail)
          go_wp2
          go_ret
          exact ⟨ret_bool F.out.symm, ((Bl.refl _).alloc _).drewN _⟩
        · have z2 := y2 (by omega)
          have m2 : (2 : Int) < (m : Int) := by omega
          have n2 : decide ((m : Int) < 3) = false := by simp; omega
          have F : Hid (r = decide (d2 ≤ v)) := by rw [Hid, ← hr.out, e0, e1]; simp [l2]
          clear hr y1 y2
          go_enter Tryz.func118, Tryz.ntmps118
          go_wp2
          go_quiet (fail)
          go_wp2
          go_ret
          exact ⟨ret_bool F.out.symm, ((Bl.refl _).alloc _).drewN _⟩

theorem begins_any (k n v : Int) (u : Value) (ds : List Int) (w : World) (hu : Sl w u (ds.map B8)) (h0 : 0 < ds.length) (hl : ds.length ≤ 40000000) (hby : ∀ d ∈ ds, 0 ≤ d ∧ d ≤ 255) :
    Calls Tryz.prog 118 #[.agg #[.int .i64 k, .int .i64 n, .int .i64 v], u] w fun e w' => e = .returned (.bool (fitsB k n v ds)) ∧ Bl w w' := by
  rcases hu with ⟨a, c, rfl, hz⟩ | ⟨b, o, c, rfl, hb, hc⟩
  · simp at hz; simp [hz] at h0
  have rng : ∀ j, 0 ≤ ds.getD j 0 ∧ ds.getD j 0 ≤ 255 := fun j => by
    by_cases h : j < ds.length
    · rw [List.getD, List.getElem?_eq_getElem h]; exact hby _ (List.getElem_mem h)
    · rw [List.getD, List.getElem?_eq_none (by omega)]; simp
  have y0 := byte_at hc 0 h0
  rw [List.length_map]
  exact begins_core k n v b o c ds.length _ _ _ _ w h0 hl hb y0 (fun h => byte_at hc 1 h) (fun h => byte_at hc 2 h) (rng 0) (rng 1) (rng 2) (hid rfl)
set_option maxRecDepth 100000 in
set_option maxHeartbeats 400000 in
theorem fitsFn_any (k n v : Int) (p : Nat) (u : Value) (ds : List Int) (w : World) (hp : p < w.heap.size) (hc : w.cell? ⟨p, 0, none⟩ = some u) (hu : Sl w u (ds.map B8)) (h0 : 0 < ds.length) (hl : ds.length ≤ 40000000) (hby : ∀ d ∈ ds, 0 ≤ d ∧ d ≤ 255) :
    Calls Tryz.prog 117 #[.agg #[.int .i64 k, .int .i64 n, .int .i64 v], .pointer (some ⟨p, 0, none⟩)] w fun e w' => e = .returned (.bool (fitsB k n v ds)) ∧ Bl w w' := by
  obtain ⟨a, c, e⟩ := hu.len
  simp only [List.length_map] at e
  subst e
  have Hu := hid hu
  have Hby := hid hby
  clear hu hby
  go_enter Tryz.func117, Tryz.ntmps117
  go_wp2_with fail
  refine (begins_any k n v _ ds _ (Hu.out.bl ((Bl.refl _).alloc _)) h0 hl Hby.out).mono ?_
  rintro e w' ⟨rfl, hb⟩
  go_wp2
  go_ret
  exact ⟨rfl, ((Bl.refl _).alloc _).trans hb⟩

/-- A slice of shapes. -/
def Shapes (w : World) (b o : Nat) (shs : List (Int × Int × Int)) : Prop :=
  b < w.heap.size ∧ ∀ j, (h : j < shs.length) → w.cell? ⟨b, o + j * 3, none⟩ = some (.int .i64 shs[j].1) ∧ w.cell? ⟨b, o + j * 3 + 1, none⟩ = some (.int .i64 shs[j].2.1) ∧ w.cell? ⟨b, o + j * 3 + 2, none⟩ = some (.int .i64 shs[j].2.2)

set_option maxRecDepth 100000 in
set_option maxHeartbeats 400000 in
theorem indexShape_any (b o c : Nat) (shs : List (Int × Int × Int)) (p : Nat) (u : Value) (ds : List Int) (w : World) (hsh : Shapes w b o shs) (hp : p < w.heap.size) (hcu : w.cell? ⟨p, 0, none⟩ = some u) (hu : Sl w u (ds.map B8)) (h0 : 0 < ds.length) (hl : ds.length ≤ 40000000) (hby : ∀ d ∈ ds, 0 ≤ d ∧ d ≤ 255) (hs : shs.length ≤ 1000) :
    Calls Tryz.prog 123 #[.slice (some ⟨b, o, none⟩) shs.length c, .func (.func 117) #[] #[.pointer (some ⟨p, 0, none⟩)]] w fun e w' => ∃ n : Int, e = .returned (.int .i64 n) ∧ (0 ≤ n ↔ ∃ s ∈ shs, fitsB s.1 s.2.1 s.2.2 ds = true) ∧ Bl w w' := by
  have Hsh := hid hsh
  have Hu := hid hu
  have Hby := hid hby
  have Hcu := hid hcu
  have hbs := hsh.1
  clear hsh hu hby hcu
  go_enter Tryz.func123, Tryz.ntmps123
  go_wp2
  go_loopw [8] (fun i wr => ∃ k : Nat, k ≤ shs.length ∧ i = .int .i64 k ∧ Bl w wr ∧ ∀ s ∈ shs.take k, ¬ fitsB s.1 s.2.1 s.2.2 ds = true) (fun i _ => shs.length - (intOf i).toNat)
  case atStart => exact ⟨0, Nat.zero_le _, rfl, Bl.refl _, by simp⟩
  case round =>
    obtain ⟨k, hk, rfl, hbl, hno⟩ := hrel
    have Hno := hid hno
    clear hno
    by_cases hlt : k < shs.length
    · obtain ⟨q0, q1, q2⟩ := Hsh.out.2 k hlt
      have g0 := (hbl.cell hbs).trans q0
      have g1 := (hbl.cell hbs).trans q1
      have g2 := (hbl.cell hbs).trans q2
      have Hm : Hid (shs[k] ∈ shs) := List.getElem_mem hlt
      have Ht : Hid (shs.take (k + 1) = shs.take k ++ [shs[k]]) := List.take_succ_eq_append_getElem hlt
      clear q0 q1 q2
      generalize shs[k] = sh at *
      obtain ⟨s1, s2, s3⟩ := sh
      cases hf : fitsB s1 s2 s3 ds
      · have Hf := hid hf
        clear hf
        go_wp2_with fail
        refine (fitsFn_any s1 s2 s3 p u ds _ (Nat.lt_of_lt_of_le hp hbl.lt) ((hbl.cell hp).trans Hcu.out) (Hu.out.bl hbl) h0 hl Hby.out).mono ?_
        rw [Hf.out]
        rintro e w' ⟨rfl, hbl'⟩
        go_wp2
        go_roundw
        case rel =>
          refine ⟨k + 1, by omega, by go_num, hbl.trans hbl', ?_⟩
          rw [Ht.out]
          intro y hy
          rcases List.mem_append.1 hy with hy | hy
          · exact Hno.out y hy
          · simp at hy; subst hy; rw [Hf.out]; simp
        case measure => simp [intOf]; omega
      · have Hf := hid hf
        clear hf
        go_wp2_with fail
        refine (fitsFn_any s1 s2 s3 p u ds _ (Nat.lt_of_lt_of_le hp hbl.lt) ((hbl.cell hp).trans Hcu.out) (Hu.out.bl hbl) h0 hl Hby.out).mono ?_
        rw [Hf.out]
        rintro e w' ⟨rfl, hbl'⟩
        go_wp2
        go_ret
        exact ⟨_, rfl, iff_of_true (by omega) ⟨_, Hm.out, Hf.out⟩, hbl.trans hbl'⟩
    · go_wp2
      go_ret
      refine ⟨_, rfl, iff_of_false (by omega) ?_, hbl⟩
      rintro ⟨y, hy, hz⟩
      refine Hno.out y ?_ hz
      rw [List.take_of_length_le (by omega)]
      exact hy

set_option maxRecDepth 100000 in
set_option maxHeartbeats 400000 in
theorem containsShape_any (b o c : Nat) (shs : List (Int × Int × Int)) (p : Nat) (u : Value) (ds : List Int) (w : World) (hsh : Shapes w b o shs) (hp : p < w.heap.size) (hcu : w.cell? ⟨p, 0, none⟩ = some u) (hu : Sl w u (ds.map B8)) (h0 : 0 < ds.length) (hl : ds.length ≤ 40000000) (hby : ∀ d ∈ ds, 0 ≤ d ∧ d ≤ 255) (hs : shs.length ≤ 1000) :
    Calls Tryz.prog 119 #[.slice (some ⟨b, o, none⟩) shs.length c, .func (.func 117) #[] #[.pointer (some ⟨p, 0, none⟩)]] w fun e w' => e = .returned (.bool (shs.any fun s => fitsB s.1 s.2.1 s.2.2 ds)) ∧ Bl w w' := by
  go_enter Tryz.func119, Tryz.ntmps119
  go_wp2_with fail
  refine (indexShape_any b o c shs p u ds _ hsh hp hcu hu h0 hl hby hs).mono ?_
  rintro e w' ⟨n, rfl, hn, hbl⟩
  have Hn := hid hn
  clear hn
  go_wp2
  go_ret
  refine ⟨ret_bool ?_, hbl⟩
  rw [Bool.eq_iff_iff]
  simpa using Hn.out

end Go.Proofs.YtkgjpfamjedncaaGreat
