-- Once.
import Derived.Test.YtbghhbpacijmmaaOnceM
namespace Go.Proofs.Ytbghhbpacijmmaa
open Go.RowKit
attribute [local go_sem ↓] Go.wp_at_zero Go.wp_at_succ

/-- Blocks that no call on cells turns. -/
def Bx (W : World) (l : List (Nat × Array Value × TypeId)) : Prop := ∀ q ∈ l, W.heap[q.1]? = some (.cells q.2.1 q.2.2 (0, 0)) ∧ q.2.2 ≠ 5 ∧ q.2.2 ≠ 68 ∧ q.2.2 ≠ 70
theorem Bx.lt {W : World} {l : List (Nat × Array Value × TypeId)} (h : Bx W l) {g : Nat} {cs : Array Value} {t : TypeId} (hq : (g, cs, t) ∈ l) : g < W.heap.size := (Array.getElem?_eq_some_iff.1 (h _ hq).1).1
theorem Bx.cell {W : World} {l : List (Nat × Array Value × TypeId)} (h : Bx W l) {g : Nat} {cs : Array Value} {t : TypeId} (hq : (g, cs, t) ∈ l) (o : Nat) : W.cell? ⟨g, o, none⟩ = cs[o]? := cell_of_row W g o _ t (0, 0) (h _ hq).1
theorem Bx.frozen {W : World} {l : List (Nat × Array Value × TypeId)} (h : Bx W l) {g : Nat} {cs : Array Value} {t : TypeId} (hq : (g, cs, t) ∈ l) (o : Nat) : W.frozen? ⟨g, o, none⟩ = false := frozen_of_row W g o _ t (h _ hq).1
theorem Bx.bl {W W' : World} {l : List (Nat × Array Value × TypeId)} (h : Bx W l) (hb : Bl W W') : Bx W' l := fun q hq => ⟨(hb.heap (Array.getElem?_eq_some_iff.1 (h q hq).1).1).trans (h q hq).1, (h q hq).2⟩
theorem Bx.nil (W : World) : Bx W [] := fun q hq => by simp at hq
theorem Bx.push {W : World} {l : List (Nat × Array Value × TypeId)} (h : Bx W l) (cs : Array Value) (t : TypeId) (ht : t ≠ 5 ∧ t ≠ 68 ∧ t ≠ 70) : Bx (W.alloc (.cells cs t)) ((W.heap.size, cs, t) :: l) := fun q hq => by
  rcases List.mem_cons.1 hq with rfl | hq
  · exact ⟨heap_alloc_new W _, ht⟩
  · exact (h.bl ((Bl.refl W).alloc _)) q hq
theorem Bx.ks {base : Nat} {w w' : World} {p : Nat} {a b c d ch ep mk : Int} {ct : Nat → Ct} {img : List Int} {K : Nat → Value} {l : List (Nat × Array Value × TypeId)} (h : Bx w l) (hk : Ks base w p a b c d ch ep mk ct img K) (ho : Only (fun b => b = p ∨ (K 71).ownBlock = some b) w w') : Bx w' l := fun q hq => by
  obtain ⟨h1, h2, h3, h4⟩ := h q hq
  refine ⟨(ho.block q.1 (Array.getElem?_eq_some_iff.1 h1).1 ?_).trans h1, h2, h3, h4⟩
  rintro (e | e)
  · obtain ⟨arr, t, g1, g2, _⟩ := hk.at'
    rw [← e, h1] at g1
    simp only [Option.some.injEq, Obj.cells.injEq] at g1
    rcases g2 with rfl | rfl
    · exact h3 g1.2.1
    · exact h4 g1.2.1
  · exact own_ne_block hk.own h1 (Ne.symm h2) e

/-- What stays while calls on the cells p are made: blocks, the input, the value of x. -/
structure Fx (w W : World) (base p : Nat) (l : List (Nat × Array Value × TypeId)) (vx : Value) (ys : List Int) : Prop where
  bx : Bx W l
  bw : Bl w W
  vb : Bs W vx (ys.map B8)
  low : ∀ g, vx.ownBlock = some g → g < base ∧ g ≠ p
  wb : w.heap.size ≤ base
  wp : w.heap.size ≤ p
  bW : base ≤ W.heap.size
theorem Fx.bl {w W W' : World} {base p : Nat} {l : List (Nat × Array Value × TypeId)} {vx : Value} {ys : List Int} (h : Fx w W base p l vx ys) (hb : Bl W W') : Fx w W' base p l vx ys :=
  ⟨h.bx.bl hb, h.bw.trans hb, h.vb.bl hb, h.low, h.wb, h.wp, Nat.le_trans h.bW hb.lt⟩
theorem Fx.push {w W : World} {base p : Nat} {l : List (Nat × Array Value × TypeId)} {vx : Value} {ys : List Int} (h : Fx w W base p l vx ys) (cs : Array Value) (t : TypeId) (ht : t ≠ 5 ∧ t ≠ 68 ∧ t ≠ 70) : Fx w (W.alloc (.cells cs t)) base p ((W.heap.size, cs, t) :: l) vx ys :=
  have h' := h.bl ((Bl.refl W).alloc (.cells cs t))
  ⟨h.bx.push cs t ht, h'.bw, h'.vb, h.low, h.wb, h.wp, h'.bW⟩
theorem Fx.ks {w W W' : World} {base p : Nat} {l : List (Nat × Array Value × TypeId)} {vx : Value} {ys : List Int} {a b c d ch ep mk : Int} {ct : Nat → Ct} {img : List Int} {K : Nat → Value} (h : Fx w W base p l vx ys) (hk : Ks base W p a b c d ch ep mk ct img K) (ho : Only (fun b => b = p ∨ (K 71).ownBlock = some b) W W') : Fx w W' base p l vx ys := by
  refine ⟨h.bx.ks hk ho, h.bw.trans_only ho ?_, h.vb.only ho ?_, h.low, h.wb, h.wp, Nat.le_trans h.bW ho.size⟩
  · rintro n (e | e)
    · have := h.wp; omega
    · have := (hk.own.lt n e).1; have := h.wb; omega
  · rintro g e (e' | e')
    · exact (h.low g e).2 e'
    · have := (hk.own.lt g e').1; have := (h.low g e).1; omega
theorem Fx.ks' {w W W' : World} {base p base' p' : Nat} {l : List (Nat × Array Value × TypeId)} {vx : Value} {ys : List Int} {a b c d ch ep mk : Int} {ct : Nat → Ct} {img : List Int} {K : Nat → Value} (h : Fx w W base p l vx ys) (hk : Ks base' W p' a b c d ch ep mk ct img K) (ho : Only (fun b => b = p' ∨ (K 71).ownBlock = some b) W W') (hb : base ≤ base') (hp : base ≤ p') : Fx w W' base p l vx ys := by
  refine ⟨h.bx.ks hk ho, h.bw.trans_only ho ?_, h.vb.only ho ?_, h.low, h.wb, h.wp, Nat.le_trans h.bW ho.size⟩
  · rintro n (e | e)
    · have := h.wb; omega
    · have := (hk.own.lt n e).1; have := h.wb; omega
  · rintro g e (e' | e')
    · have := (h.low g e).1; omega
    · have := (hk.own.lt g e').1; have := (h.low g e).1; omega
/-- A block is laid anew. -/
theorem Fx.set {w W W' : World} {base p g : Nat} {l : List (Nat × Array Value × TypeId)} {vx : Value} {ys : List Int} (h : Fx w W base p l vx ys) (hO : Only (fun b => b = g) W W') (hg : base ≤ g) (cs : Array Value) (t : TypeId) (ht : t ≠ 5 ∧ t ≠ 68 ∧ t ≠ 70) (hn : W'.heap[g]? = some (.cells cs t (0, 0))) (l' : List (Nat × Array Value × TypeId)) (hl : ∀ q ∈ l', q ∈ l ∧ q.1 ≠ g) : Fx w W' base p ((g, cs, t) :: l') vx ys := by
  refine ⟨fun q hq => ?_, h.bw.trans_only hO ?_, h.vb.only hO ?_, h.low, h.wb, h.wp, Nat.le_trans h.bW hO.size⟩
  · rcases List.mem_cons.1 hq with rfl | hq
    · exact ⟨hn, ht⟩
    · obtain ⟨h1, h2⟩ := hl q hq
      obtain ⟨h3, h4⟩ := h.bx q h1
      exact ⟨(hO.block q.1 (Array.getElem?_eq_some_iff.1 h3).1 h2).trans h3, h4⟩
  · intro n e; have := h.wb; omega
  · intro q e e'; have := (h.low q e).1; omega
theorem Fx.cell {w W : World} {base p : Nat} {l : List (Nat × Array Value × TypeId)} {vx : Value} {ys : List Int} (h : Fx w W base p l vx ys) {g : Nat} {cs : Array Value} {t : TypeId} (hq : (g, cs, t) ∈ l) (o : Nat) : W.cell? ⟨g, o, none⟩ = cs[o]? := h.bx.cell hq o
theorem Fx.row4 {w W : World} {base p : Nat} {l : List (Nat × Array Value × TypeId)} {vx : Value} {ys : List Int} (h : Fx w W base p l vx ys) {g : Nat} {u0 u1 u2 u3 : Value} {t : TypeId} (hq : (g, #[u0, u1, u2, u3], t) ∈ l) : W.cell? ⟨g, 0, none⟩ = some u0 ∧ W.cell? ⟨g, 1, none⟩ = some u1 ∧ W.cell? ⟨g, 2, none⟩ = some u2 ∧ W.cell? ⟨g, 3, none⟩ = some u3 ∧ g < W.heap.size :=
  ⟨h.cell hq 0, h.cell hq 1, h.cell hq 2, h.cell hq 3, h.bx.lt hq⟩
theorem Fx.row7 {w W : World} {base p : Nat} {l : List (Nat × Array Value × TypeId)} {vx : Value} {ys : List Int} (h : Fx w W base p l vx ys) {g : Nat} {u0 u1 u2 u3 u4 u5 u6 : Value} {t : TypeId} (hq : (g, #[u0, u1, u2, u3, u4, u5, u6], t) ∈ l) : W.cell? ⟨g, 0, none⟩ = some u0 ∧ W.cell? ⟨g, 1, none⟩ = some u1 ∧ W.cell? ⟨g, 2, none⟩ = some u2 ∧ W.cell? ⟨g, 3, none⟩ = some u3 ∧ W.cell? ⟨g, 4, none⟩ = some u4 ∧ W.cell? ⟨g, 5, none⟩ = some u5 ∧ W.cell? ⟨g, 6, none⟩ = some u6 ∧ g < W.heap.size :=
  ⟨h.cell hq 0, h.cell hq 1, h.cell hq 2, h.cell hq 3, h.cell hq 4, h.cell hq 5, h.cell hq 6, h.bx.lt hq⟩
theorem Fx.free7 {w W : World} {base p : Nat} {l : List (Nat × Array Value × TypeId)} {vx : Value} {ys : List Int} (h : Fx w W base p l vx ys) {g : Nat} {cs : Array Value} {t : TypeId} (hq : (g, cs, t) ∈ l) : W.frozen? ⟨g, 0, none⟩ = false ∧ W.frozen? ⟨g, 1, none⟩ = false ∧ W.frozen? ⟨g, 2, none⟩ = false ∧ W.frozen? ⟨g, 3, none⟩ = false ∧ W.frozen? ⟨g, 4, none⟩ = false ∧ W.frozen? ⟨g, 5, none⟩ = false ∧ W.frozen? ⟨g, 6, none⟩ = false :=
  ⟨h.bx.frozen hq 0, h.bx.frozen hq 1, h.bx.frozen hq 2, h.bx.frozen hq 3, h.bx.frozen hq 4, h.bx.frozen hq 5, h.bx.frozen hq 6⟩
theorem nos_vals : ∀ i, i < 16 → ((fun _ : Nat => no) i).val.length ≤ 255 := fun i _ => by simp [no]

theorem cut_of {w : World} {base g L c : Nat} {rs : List Rc} (h : w.ownsRow base 5 1 (.slice (some ⟨g, 0, none⟩) L c) L ((flat rs).map B8)) (n : Nat) (hn : n ≤ L) : Cut w (some ⟨g, 0, none⟩) n c rs := by
  have hl := ownsRow_len h
  rw [List.length_map] at hl
  have hcap := ownsRow_cap h
  have hmax : c ≤ 9223372036854775807 := by
    rcases h.2 with ⟨h', _⟩ | ⟨g', cap', cur, h', _, _, _, hm, _⟩
    · simp at h'
    · injection h' with _ _ h3
      rw [h3]; unfold maxLen at hm; omega
  refine ⟨by omega, by omega, hmax, g, 0, fun _ => ⟨rfl, (h.lt g rfl).2⟩, fun j d hj hd => ?_⟩
  rw [Nat.zero_add, h.cellAt j (by omega), List.getElem?_map, hd]; rfl

theorem Ks.other' {base : Nat} {w w' : World} {p g : Nat} {a b c d ch ep mk : Int} {ct : Nat → Ct} {img : List Int} {K : Nat → Value} (h : Ks base w p a b c d ch ep mk ct img K) (ho : Only (fun x => x = g) w w') {cs : Array Value} {t : TypeId} (hg : w.heap[g]? = some (.cells cs t (0, 0))) (ht : t ≠ 5) (hp : p ≠ g) : Ks base w' p a b c d ch ep mk ct img K :=
  ⟨h.at'.only ho hp, h.k0, h.k1, h.k2, h.k3, h.k4, h.k5, h.k6, ho.owns h.own fun b e e' => own_ne_block h.own hg (Ne.symm ht) (by rw [e, e']), h.kd, h.cl, h.ca, fun i hi => ho.owns (h.val i hi) fun b e e' => own_ne_block (h.val i hi) hg (Ne.symm ht) (by rw [e, e']), h.apart⟩
theorem Ks.row {base : Nat} {w w' : World} {p : Nat} {a b c d ch ep mk : Int} {ct : Nat → Ct} {img : List Int} {K : Nat → Value} (h : Ks base w p a b c d ch ep mk ct img K) (ho : Only (fun b => b = p ∨ (K 71).ownBlock = some b) w w') {B n : Nat} {v : Value} {xs : List Value} (hv : w.ownsRow B 5 1 v n xs) (hl : ∀ g, v.ownBlock = some g → g < base ∧ g < p) : w'.ownsRow B 5 1 v n xs :=
  ho.owns hv fun g e e' => by
    rcases e' with e' | e'
    · have := (hl g e).2; omega
    · have := (h.own.lt g e').1; have := (hl g e).1; omega
theorem Fx.heap {w W : World} {base p : Nat} {l : List (Nat × Array Value × TypeId)} {vx : Value} {ys : List Int} (h : Fx w W base p l vx ys) {g : Nat} {cs : Array Value} {t : TypeId} (hq : (g, cs, t) ∈ l) : W.heap[g]? = some (.cells cs t (0, 0)) := (h.bx _ hq).1
theorem off_len (rs : List Rc) {k : Nat} (h : k ≤ rs.length) : (flat (rs.take k)).length ≤ (flat rs).length := by
  have := off_mono rs h
  rw [off_all] at this
  exact this
theorem wrap_nat (LA cn : Nat) (h1 : LA ≤ 100000) (h2 : cn ≤ 100000) : wrap64 ((LA : Int) + (cn : Int)) = ((LA + cn : Nat) : Int) := by
  have h : IntKind.i64.wrap ((LA : Int) + (cn : Int)) = (LA : Int) + (cn : Int) := IntWalk.i64_in _ ⟨by omega, by omega⟩
  rw [IntWalk.i64_left] at h
  rw [h]; simp
theorem way_nil (a b c d ch : Int) : Way a b c d ch [] (fun _ => St.first) := ⟨rfl, fun j h => by simp at h, fun r h => by simp at h⟩
theorem cut_nil (w : World) : Cut w none 0 0 [] := ⟨by simp, Nat.le_refl _, by decide, 0, 0, fun h => absurd h (by decide), fun j d h => absurd h (by omega)⟩

set_option maxRecDepth 100000 in
set_option maxHeartbeats 20000000 in
theorem once_any (c un ut ra ep cut : Int) (v o : Value) (zs zo : List Int) (w : World) (hc : -9223372036854775808 ≤ c ∧ c ≤ 9223372036854775807) (hun : -9223372036854775808 ≤ un ∧ un ≤ 9223372036854775807) (hut : -9223372036854775808 ≤ ut ∧ ut ≤ 9223372036854775807) (hra : -9223372036854775808 ≤ ra ∧ ra ≤ 9223372036854775807) (hep : -9223372036854775808 ≤ ep ∧ ep ≤ 9223372036854775807) (hcut : -9223372036854775808 ≤ cut ∧ cut ≤ 9223372036854775807)
    (hv : Sl w v (zs.map B8)) (hz : ∀ d ∈ zs, 0 ≤ d ∧ d ≤ 255) (hvl : ∀ a n c, v = .slice a n c → n ≤ c ∧ (c : Int) ≤ 9223372036854775807) (hov : Sl w o (zo.map B8)) (hzo : ∀ d ∈ zo, 0 ≤ d ∧ d ≤ 255) (hol : ∀ a n c, o = .slice a n c → n ≤ c ∧ (c : Int) ≤ 9223372036854775807) :
    Calls Try.prog 3 #[.int .i64 c, .int .i64 un, .int .i64 ut, .int .i64 ra, v, o, .int .i64 ep, .int .i64 cut] w fun e w' => e = .returned (.bool true) ∧ Bl w w' := by
  have P1 := hid (settings_any c un 1 ra w hc hun (by decide) hra)
  have rc := pk_range c 3 (by decide)
  have ru := pk_range un 3 (by decide)
  have rd := pk_range ra 5 (by decide)
  rw [show (1 + 2 * pk 1 3 : Int) = 3 by decide] at P1
  have P2 : Hid (∀ (n : Int) (W : World), 0 < n → n ≤ 9223372036854775807 → _) := fun n W h0 h1 => pick_any ut n W hut.1 hut.2 h0 h1
  have P3 : Hid (∀ (n : Int) (W : World), 0 < n → n ≤ 9223372036854775807 → _) := fun n W h0 h1 => pick_any ra n W hra.1 hra.2 h0 h1
  have P4 : Hid (∀ W, _) := fun W => pick_any ep 1000 W hep.1 hep.2 (by decide) (by decide)
  have P5 : Hid (∀ (n : Int) (W : World), 0 < n → n ≤ 9223372036854775807 → _) := fun n W h0 h1 => pick_any cut n W hcut.1 hcut.2 h0 h1
  have D1 : Hid (∀ W, Bl w W → _) := fun W hW => data_any 5 2 v zs (if zs = [] then [1] else zs.take 8) w W hW hv hz hvl rfl
  have D2 : Hid (∀ cl ca W, Bl w W → _) := fun cl ca W hW => data_any cl ca o zo (if zo = [] then [1] else zo.take 8) w W hW hov hzo hol rfl
  obtain ⟨a, ha⟩ : ∃ a, a = 1 + pk c 3 := ⟨_, rfl⟩
  obtain ⟨b, hb⟩ : ∃ b, b = 1 + pk un 3 := ⟨_, rfl⟩
  obtain ⟨d, hd⟩ : ∃ d, d = 1 + pk ra 5 := ⟨_, rfl⟩
  rw [← ha, ← hb, ← hd] at P1
  have a1 : 1 ≤ a := by omega
  have a3 : a ≤ 3 := by omega
  have b1 : 1 ≤ b := by omega
  have b3 : b ≤ 3 := by omega
  have d1 : 1 ≤ d := by omega
  have d5 : d ≤ 5 := by omega
  clear hv hz hvl hov hzo hol hc hun hut hra hep hcut rc ru rd ha hb hd
  have ab := Int.mul_le_mul a3 b3 (by omega) (by decide : (0 : Int) ≤ 3)
  have ab1 := Int.mul_le_mul a1 b1 (by decide) (by omega : (0 : Int) ≤ a)
  go_enter Try.func3, Try.ntmps3
  go_wp2_with fail
  refine P1.out.mono ?_
  rintro e w1 ⟨rfl, hb1⟩
  have B1 := hid hb1
  clear hb1
  unfold cfg
  have ab2 : 1 ≤ a * b := by omega
  have ab3 : a * b ≤ 9 := by omega
  clear ab ab1
  go_wp2_with fail
  refine (P2.out (a * b) _ (by omega) (by omega)).mono ?_
  rintro e W ⟨rfl, rfl⟩
  have ur := pk_range ut (a * b) (by omega)
  generalize pk ut (a * b) = u at *
  obtain ⟨u0, u1⟩ := ur
  have q0 : (w1.alloc (.cells #[.int .i64 a, .int .i64 b, .int .i64 3, .int .i64 d] 24)).cell? ⟨w1.heap.size, 0, none⟩ = some (.int .i64 a) := by rw [cell_of_row _ _ 0 _ 24 (0, 0) (heap_alloc_new w1 _)]; rfl
  have q1 : (w1.alloc (.cells #[.int .i64 a, .int .i64 b, .int .i64 3, .int .i64 d] 24)).cell? ⟨w1.heap.size, 1, none⟩ = some (.int .i64 b) := by rw [cell_of_row _ _ 1 _ 24 (0, 0) (heap_alloc_new w1 _)]; rfl
  have q2 : (w1.alloc (.cells #[.int .i64 a, .int .i64 b, .int .i64 3, .int .i64 d] 24)).cell? ⟨w1.heap.size, 2, none⟩ = some (.int .i64 3) := by rw [cell_of_row _ _ 2 _ 24 (0, 0) (heap_alloc_new w1 _)]; rfl
  have q3 : (w1.alloc (.cells #[.int .i64 a, .int .i64 b, .int .i64 3, .int .i64 d] 24)).cell? ⟨w1.heap.size, 3, none⟩ = some (.int .i64 d) := by rw [cell_of_row _ _ 3 _ 24 (0, 0) (heap_alloc_new w1 _)]; rfl
  have X2 : Hid (Bx (w1.alloc (.cells #[.int .i64 a, .int .i64 b, .int .i64 3, .int .i64 d] 24)) _) := (Bx.nil w1).push #[.int .i64 a, .int .i64 b, .int .i64 3, .int .i64 d] 24 (by decide)
  have B2 := hid (B1.out.alloc (.cells #[.int .i64 a, .int .i64 b, .int .i64 3, .int .i64 d] 24))
  generalize w1.heap.size = b17 at *
  generalize w1.alloc (.cells #[.int .i64 a, .int .i64 b, .int .i64 3, .int .i64 d] 24) = W2 at *
  have hbz : b ≠ 0 := by omega
  have tq : Int.tdiv u b = u / b := Int.tdiv_eq_ediv_of_nonneg u0
  have ch0 : 0 ≤ u / b := Int.ediv_nonneg u0 (by omega)
  have ch1 : u / b < a := Int.ediv_lt_of_lt_mul (by omega) u1
  have ir := pk_range ra d (by omega)
  have Pi := hid (fun W => P3.out d W (by omega) (by omega))
  clear P3
  generalize pk ra d = ii at *
  obtain ⟨i, rfl⟩ := Int.eq_ofNat_of_zero_le ir.1
  obtain ⟨i0, i1⟩ := ir
  have im1 : 0 ≤ a * (i : Int) := Int.mul_nonneg (by omega) (by omega)
  have im2 : a * (i : Int) ≤ 15 := by
    have := Int.mul_le_mul a3 (show (i : Int) ≤ 5 by omega) (by omega) (by decide : (0 : Int) ≤ 3)
    omega
  have e1 : IntKind.i64.wrap (u / b) = u / b := IntWalk.i64_in _ ⟨by omega, by omega⟩
  have e2 : IntKind.i64.wrap (a * (i : Int)) = a * (i : Int) := IntWalk.i64_in _ ⟨by omega, by omega⟩
  have e3 : IntKind.i64.wrap (u / b + a * (i : Int)) = u / b + a * (i : Int) := IntWalk.i64_in _ ⟨by omega, by omega⟩
  go_wp2_with fail
  go_region_held3 (fun W => W.cell? ⟨b17, 0, none⟩ = some (.int .i64 a) ∧ W.cell? ⟨b17, 1, none⟩ = some (.int .i64 b) ∧ W.cell? ⟨b17, 3, none⟩ = some (.int .i64 d)) (go_keep)
    (first | (go_at_call 6; refine (Pi.out _).mono ?_; rintro e w3 ⟨rfl, rfl⟩))
  have PL : Hid (Place a b d u (u / b) (u / b + a * (i : Int)) i) := ⟨a1, a3, b1, b3, d1, d5, u0, u1, rfl, i1, rfl⟩
  clear e1 e2 e3 Pi tq im1 im2 ab2 ab3
  go_wp2_with fail
  refine (P4.out _).mono ?_
  rintro e W ⟨rfl, rfl⟩
  have er := pk_range ep 1000 (by decide)
  generalize pk ep 1000 = ee at *
  obtain ⟨ee0, ee1⟩ := er
  have x0 := PL.out.xr.1
  have x1 := PL.out.xr.2.2
  have HO := hid (opened_any a b 3 d u (u / b) none 0 0 [] (fun _ => St.first) W2.drew PL.out.cha (way_nil _ _ _ _ _) (by decide) (cut_nil _))
  unfold cfg at HO
  generalize u / b + a * (i : Int) = x at *
  generalize u / b = ch at *
  clear P1 P2 P4 ch0 ch1 i0 hbz
  go_wp2_with fail
  refine HO.out.mono ?_
  rintro e w5 ⟨k, p, K, rfl, hk, -, -, hp, hK, hK0, hb5⟩
  obtain rfl : k = 0 := by simpa using hk
  have X5 := hid (X2.out.bl ((Bl.refl W2).drew.trans hb5))
  have B5 := hid (B2.out.trans ((Bl.refl W2).drew.trans hb5))
  have Lp : Hid (w.heap.size ≤ p) := Nat.le_trans B2.out.lt hp
  have HK0 := hid (hK0 rfl)
  have lp := hK.at'.lt
  have c0 := X5.out.cell (List.mem_cons_self ..) 0
  have c1 := X5.out.cell (List.mem_cons_self ..) 1
  have c2 := X5.out.cell (List.mem_cons_self ..) 2
  have c3 := X5.out.cell (List.mem_cons_self ..) 3
  simp at c0 c1 c2 c3
  clear hb5 hp hK hK0 hk HO q0 q1 q2 q3 X2 B2
  generalize (if zs = [] then [1] else zs.take 8) = ys at *
  generalize (if zo = [] then [1] else zo.take 8) = yo at *
  have HD := hid (D1.out w5 B5.out)
  go_wp2_with fail
  refine HD.out.mono ?_
  rintro e w6 ⟨vx, rfl, hb6, hdx⟩
  obtain ⟨xa, xc, ex⟩ := hdx.bs.sl.bytes
  subst ex
  have y1 := hdx.l1
  have y8 := hdx.l8
  have Y255 := hid hdx.by8
  have F5 : Hid (Fx w w6 w6.heap.size p _ (.slice xa ys.length xc) ys) := ⟨X5.out.bl hb6, B5.out.trans hb6, hdx.bs, fun g e => ⟨hdx.lt g e, by rcases hdx.old g e with h | h <;> have := Lp.out <;> omega⟩, (B5.out.trans hb6).lt, Lp.out, Nat.le_refl _⟩
  have O1 := hid (F5.out.bx.lt (g := b17) (cs := #[.int .i64 a, .int .i64 b, .int .i64 3, .int .i64 d]) (t := 24) (by simp))
  have F6 := hid (F5.out.push #[.int .i64 8, .int .i64 5, .int .i64 2, .slice xa ys.length xc] 31 (by decide))
  have bA6 := (Bl.refl w6).alloc (.cells #[.int .i64 8, .int .i64 5, .int .i64 2, .slice xa ys.length xc] 31)
  have K6 : Hid (Ks w6.heap.size _ p a b 3 d ch 0 0 (fun _ => no) [] K) := (HK0.out w6.heap.size).bl (hb6.trans bA6)
  have HR := hid (fread_new w6.heap.size p a b 3 d ch 0 0 (fun _ => no) [] K ee x _ K6.out bA6.lt (by decide) nos_vals (by omega) 3 0 ⟨0, 0, 0, []⟩ PL.out.look0)
  simp only at HR
  clear hb6 hdx X5 bA6 HD F5 HK0 Lp
  go_wp2_with fail
  refine HR.out.mono ?_
  rintro e w7 ⟨K1, v1, rfl, hv1, hk1, ho1, -⟩
  obtain ⟨va1, vc1, rfl⟩ := owned_slice hv1
  have F7 := hid ((F6.out.ks K6.out ho1).push #[.int .i64 3, .int .i64 0, .int .i64 0, .int .i64 0, .int .i64 0, .int .i64 0, .slice va1 0 vc1] 34 (by decide))
  have K7 := hid (hk1.bl ((Bl.refl w7).alloc (.cells #[.int .i64 3, .int .i64 0, .int .i64 0, .int .i64 0, .int .i64 0, .int .i64 0, .slice va1 0 vc1] 34)))
  obtain ⟨z0, z1, z2, z3, lz⟩ := F7.out.row4 (g := w6.heap.size) (u0 := .int .i64 8) (u1 := .int .i64 5) (u2 := .int .i64 2) (u3 := .slice xa ys.length xc) (t := 31) (by simp)
  have I1 : Hid (([] ++ if ee = 0 then [] else recB 1 [ee] []) = flat (r0 ee)) := by unfold Hid; rw [flat_r0]; rfl
  rw [I1.out] at K7
  have iB := once_len ee x ys y8
  have hA := flat_rsA ee x ys
  have hA2 : (flat (r0 ee)).length ≤ 3000000 := by
    rw [hA, ← flat_r0, List.length_append] at iB; omega
  have HW := hid (fwrite_empty w6.heap.size p a b 3 d ch ee 0 (fun _ => no) (flat (r0 ee)) K1 ee x 8 5 2 (.slice xa ys.length xc) ys i _ K7.out F7.out.bW hA2 nos_vals F7.out.vb (by omega) (fun g e => ⟨Nat.lt_of_lt_of_le (F7.out.low g e).1 F7.out.bW, fun e' => by have := (K7.out.own.lt g e').1; have := (F7.out.low g e).1; omega, (F7.out.low g e).2⟩) (by omega) PL.out.i16 PL.out.loc PL.out.look0 (by simp [isC]; omega))
  rw [show flat (r0 ee) ++ recB 3 [ee, x, 8, 5, 2] ys = flat (rsA ee x ys) by rw [flat_rsA, flat_r0]] at HW
  have HW : Hid (Calls Try.prog 10 _ _ fun e w' => ∃ K', e = .returned (reply 1 0 0 0 0 0 nilS) ∧ Ks w6.heap.size w' p a b 3 d ch ee 0 (ct1 i ys) (flat (rsA ee x ys)) K' ∧ Only (fun b => b = p ∨ (K1 71).ownBlock = some b) _ w') := HW
  unfold reply
  simp only
  clear hv1 hk1 ho1 HR hA hA2
  go_wp2_with fail
  refine HW.out.mono ?_
  rintro e w8 ⟨K2, rfl, hk2, ho2⟩
  have F8 := hid ((F7.out.ks K7.out ho2).push #[.int .i64 1, .int .i64 0, .int .i64 0, .int .i64 0, .int .i64 0, .int .i64 0, nilS] 34 (by decide))
  have K8 := hid (hk2.bl ((Bl.refl w8).alloc (.cells #[.int .i64 1, .int .i64 0, .int .i64 0, .int .i64 0, .int .i64 0, .int .i64 0, nilS] 34)))
  have HI := hid (fimage_any w6.heap.size p a b 3 d ch ee 0 (ct1 i ys) (flat (rsA ee x ys)) K2 _ K8.out (by omega))
  have V1 := hid (ct1_vals i ys y8)
  have lA : (flat (rsA ee x ys)).length ≤ 100 := iB.1
  unfold reply
  clear hk2 ho2 HW z0 z1 z2 z3 lz I1
  go_wp2_with fail
  refine HI.out.mono ?_
  rintro e w9 ⟨vi, rfl, hb9, hvi⟩
  obtain ⟨via, vic, rfl⟩ := owned_slice hvi
  have F9 := hid (F8.out.bl hb9)
  have K9 := hid (K8.out.bl hb9)
  have HD := hid (D2.out 6 2 w9 F9.out.bw)
  clear hb9 hvi HI
  go_wp2_with fail
  refine HD.out.mono ?_
  rintro e w10 ⟨v2, rfl, hb10, hd10⟩
  obtain ⟨v2a, v2c, rfl⟩ := hd10.bs.sl.bytes
  have F10 := hid (F9.out.bl hb10)
  have K10 := hid (K9.out.bl hb10)
  have o1 := hd10.l1
  have o8 := hd10.l8
  have HT := hid (fwrite_told w6.heap.size p a b 3 d ch ee 0 (ct1 i ys) (flat (rsA ee x ys)) K2 ee x 8 6 2 v2a yo.length v2c w10 K10.out F10.out.bW (by omega) V1.out (by omega) (by omega) 2 0 ⟨8, 5, 2, ys⟩ (PL.out.look1 ys) (by decide) (by simp [isC]; omega))
  rw [if_pos rfl, List.append_nil] at HT
  simp only at HT
  clear hb10 hd10 HD
  go_wp2_with fail
  refine HT.out.mono ?_
  rintro e w11 ⟨K', vs, rfl, hvs, hk11, -, hs11⟩
  obtain ⟨rfl, hb11⟩ := hs11 trivial
  obtain ⟨sa, sc, rfl⟩ := owned_slice hvs
  have F11 := hid ((F10.out.bl hb11).push #[.int .i64 2, .int .i64 0, .int .i64 0, .int .i64 8, .int .i64 5, .int .i64 2, .slice sa ys.length sc] 34 (by decide))
  have bA11 := hid ((Bl.refl w11).alloc (.cells #[.int .i64 2, .int .i64 0, .int .i64 0, .int .i64 8, .int .i64 5, .int .i64 2, .slice sa ys.length sc] 34))
  have K11 := hid (hk11.bl bA11.out)
  have S11 := hid ((ownsRow_sl hvs).bl bA11.out)
  have HT := hid (fwrite_told w6.heap.size p a b 3 d ch ee 0 (ct1 i ys) (flat (rsA ee x ys)) K' ee x 9 0 0 none 0 0 _ K11.out F11.out.bW (by omega) V1.out (by omega) (by omega) 2 0 ⟨8, 5, 2, ys⟩ (PL.out.look1 ys) (by decide) (by simp [isC]))
  rw [if_pos rfl, List.append_nil] at HT
  simp only at HT
  unfold reply
  clear hvs hk11 hs11 hb11
  go_wp2_with fail
  refine HT.out.mono ?_
  rintro e w12 ⟨K'', vj, rfl, hvj, hk12, -, hs12⟩
  obtain ⟨rfl, hb12⟩ := hs12 trivial
  obtain ⟨ja, jc, rfl⟩ := owned_slice hvj
  have F12 := hid ((F11.out.bl hb12).push #[.int .i64 2, .int .i64 0, .int .i64 0, .int .i64 8, .int .i64 5, .int .i64 2, .slice ja ys.length jc] 34 (by decide))
  have bA12 := hid ((Bl.refl w12).alloc (.cells #[.int .i64 2, .int .i64 0, .int .i64 0, .int .i64 8, .int .i64 5, .int .i64 2, .slice ja ys.length jc] 34))
  have K12 := hid (hk12.bl bA12.out)
  have S12 := hid ((ownsRow_sl hvj).bl bA12.out)
  have S11b := hid (S11.out.bl (hb12.trans bA12.out))
  have HT := hid (fread_new w6.heap.size p a b 3 d ch ee 0 (ct1 i ys) (flat (rsA ee x ys)) K'' ee x _ K12.out F12.out.bW (by omega) V1.out (by omega) 2 0 ⟨8, 5, 2, ys⟩ (PL.out.look1 ys))
  rw [if_pos rfl, List.append_nil] at HT
  simp only at HT
  unfold reply
  clear hvj hk12 hs12 hb12 S11
  go_wp2_with fail
  refine HT.out.mono ?_
  rintro e w13 ⟨K3, vr, rfl, hvr, hk13, -, hs13⟩
  obtain ⟨rfl, hb13⟩ := hs13 trivial
  obtain ⟨ra', rc', rfl⟩ := owned_slice hvr
  have O2 := hid ((F12.out.bl hb13).bx.lt (g := w6.heap.size) (cs := #[.int .i64 8, .int .i64 5, .int .i64 2, .slice xa ys.length xc]) (t := 31) (by simp))
  have F13 := hid ((F12.out.bl hb13).push #[.int .i64 2, .int .i64 0, .int .i64 0, .int .i64 8, .int .i64 5, .int .i64 2, .slice ra' ys.length rc'] 34 (by decide))
  have bA13 := hid ((Bl.refl w13).alloc (.cells #[.int .i64 2, .int .i64 0, .int .i64 0, .int .i64 8, .int .i64 5, .int .i64 2, .slice ra' ys.length rc'] 34))
  have K13 := hid (hk13.bl bA13.out)
  have S13 := hid ((ownsRow_sl hvr).bl bA13.out)
  have S12c := hid (S12.out.bl (hb13.trans bA13.out))
  have S11c := hid (S11b.out.bl (hb13.trans bA13.out))
  have SX := hid F13.out.vb.sl
  obtain ⟨z0, z1, z2, z3, lz⟩ := F13.out.row4 (g := w6.heap.size) (u0 := .int .i64 8) (u1 := .int .i64 5) (u2 := .int .i64 2) (u3 := .slice xa ys.length xc) (t := 31) (by simp)
  obtain ⟨s0, s1, s2, s3, s4, s5, s6, ls⟩ := F13.out.row7 (g := w11.heap.size) (u0 := .int .i64 2) (u1 := .int .i64 0) (u2 := .int .i64 0) (u3 := .int .i64 8) (u4 := .int .i64 5) (u5 := .int .i64 2) (u6 := .slice sa ys.length sc) (t := 34) (by simp)
  unfold reply
  clear hvr hk13 hs13 hb13 S12 S11b HT K8 K9 K10 F8 F9 F10 F11 F12 K11 K12
  go_wp2_with fail
  have T1 := told_any 2 0 0 8 5 2 (.slice sa ys.length sc) (.slice xa ys.length xc) ys _ S11c.out SX.out
  unfold reply at T1
  refine T1.mono ?_
  rintro e w14 ⟨rfl, hb14⟩
  have F14 := hid (F13.out.bl hb14)
  have S12d := hid (S12c.out.bl hb14)
  have S13d := hid (S13.out.bl hb14)
  have K14 := hid (K13.out.bl hb14)
  have SX := hid F14.out.vb.sl
  clear z0 z1 z2 z3 lz s0 s1 s2 s3 s4 s5 s6 ls T1 S11c S12c S13 hb14
  obtain ⟨z0, z1, z2, z3, lz⟩ := F14.out.row4 (g := w6.heap.size) (u0 := .int .i64 8) (u1 := .int .i64 5) (u2 := .int .i64 2) (u3 := .slice xa ys.length xc) (t := 31) (by simp)
  obtain ⟨s0, s1, s2, s3, s4, s5, s6, ls⟩ := F14.out.row7 (g := w12.heap.size) (u0 := .int .i64 2) (u1 := .int .i64 0) (u2 := .int .i64 0) (u3 := .int .i64 8) (u4 := .int .i64 5) (u5 := .int .i64 2) (u6 := .slice ja ys.length jc) (t := 34) (by simp)
  go_wp2_with fail
  have T1 := told_any 2 0 0 8 5 2 (.slice ja ys.length jc) (.slice xa ys.length xc) ys _ S12d.out SX.out
  unfold reply at T1
  refine T1.mono ?_
  rintro e w15 ⟨rfl, hb15⟩
  have F15 := hid (F14.out.bl hb15)
  have S13e := hid (S13d.out.bl hb15)
  have K15 := hid (K14.out.bl hb15)
  have SX := hid F15.out.vb.sl
  clear z0 z1 z2 z3 lz s0 s1 s2 s3 s4 s5 s6 ls T1 S12d S13d hb15 F14 K14
  obtain ⟨z0, z1, z2, z3, lz⟩ := F15.out.row4 (g := w6.heap.size) (u0 := .int .i64 8) (u1 := .int .i64 5) (u2 := .int .i64 2) (u3 := .slice xa ys.length xc) (t := 31) (by simp)
  obtain ⟨s0, s1, s2, s3, s4, s5, s6, ls⟩ := F15.out.row7 (g := w13.heap.size) (u0 := .int .i64 2) (u1 := .int .i64 0) (u2 := .int .i64 0) (u3 := .int .i64 8) (u4 := .int .i64 5) (u5 := .int .i64 2) (u6 := .slice ra' ys.length rc') (t := 34) (by simp)
  go_wp2_with fail
  have T1 := told_any 2 0 0 8 5 2 (.slice ra' ys.length rc') (.slice xa ys.length xc) ys _ S13e.out SX.out
  unfold reply at T1
  refine T1.mono ?_
  rintro e w16 ⟨rfl, hb16⟩
  have F16 := hid (F15.out.bl hb16)
  have K16 := hid (K15.out.bl hb16)
  clear z0 z1 z2 z3 lz s0 s1 s2 s3 s4 s5 s6 ls T1 S13e hb16 F15 K15 SX
  have t0 := F16.out.cell (g := w7.heap.size) (cs := #[.int .i64 3, .int .i64 0, .int .i64 0, .int .i64 0, .int .i64 0, .int .i64 0, .slice va1 0 vc1]) (t := 34) (by simp) 0
  have t1 := F16.out.cell (g := w8.heap.size) (cs := #[.int .i64 1, .int .i64 0, .int .i64 0, .int .i64 0, .int .i64 0, .int .i64 0, nilS]) (t := 34) (by simp) 0
  simp at t0 t1
  have HS := hid (fseal_new w6.heap.size p a b 3 d ch ee 0 (ct1 i ys) (flat (rsA ee x ys)) K3 (ee + 2) w16 K16.out F16.out.bW (by omega) (by omega))
  rw [← flat_rsB] at HS
  go_wp2_with fail
  refine HS.out.mono ?_
  rintro e w17 ⟨K4, rfl, hk17, ho17⟩
  have F17 := hid ((F16.out.ks K16.out ho17).push #[.int .i64 1, .int .i64 (ee + 2), .int .i64 0, .int .i64 0, .int .i64 0, .int .i64 0, nilS] 34 (by decide))
  have K17 := hid (hk17.bl ((Bl.refl w17).alloc (.cells #[.int .i64 1, .int .i64 (ee + 2), .int .i64 0, .int .i64 0, .int .i64 0, .int .i64 0, nilS] 34)))
  have HR := hid (fread_old w6.heap.size p a b 3 d ch (ee + 2) 0 (ct1 i ys) (flat (rsB ee x ys)) K4 (ee + 1) x _ K17.out (by omega))
  unfold reply
  clear t0 t1 hk17 ho17 F16 K16 HS
  go_wp2_with fail
  refine HR.out.mono ?_
  rintro e w18 ⟨rfl, hk18, hb18⟩
  have O3 := hid ((F17.out.bl hb18).bx.lt (g := w13.heap.size) (cs := #[.int .i64 2, .int .i64 0, .int .i64 0, .int .i64 8, .int .i64 5, .int .i64 2, .slice ra' ys.length rc']) (t := 34) (by simp))
  have F18 := hid ((F17.out.bl hb18).push #[.int .i64 5, .int .i64 (ee + 2), .int .i64 0, .int .i64 0, .int .i64 0, .int .i64 0, nilS] 34 (by decide))
  have K18 := hid (hk18.bl ((Bl.refl w18).alloc (.cells #[.int .i64 5, .int .i64 (ee + 2), .int .i64 0, .int .i64 0, .int .i64 0, .int .i64 0, nilS] 34)))
  have HR := hid (fwrite_old w6.heap.size p a b 3 d ch (ee + 2) 0 (ct1 i ys) (flat (rsB ee x ys)) K4 ee x 8 5 2 xa ys.length xc _ K18.out (by omega))
  obtain ⟨z0, z1, z2, z3, lz⟩ := F18.out.row4 (g := w6.heap.size) (u0 := .int .i64 8) (u1 := .int .i64 5) (u2 := .int .i64 2) (u3 := .slice xa ys.length xc) (t := 31) (by simp)
  unfold reply
  clear hk18 hb18 F17 K17
  go_wp2_with fail
  refine HR.out.mono ?_
  rintro e w19 ⟨rfl, hk19, hb19⟩
  have O4 := hid ((F18.out.bl hb19).bx.lt (g := w18.heap.size) (cs := #[.int .i64 5, .int .i64 (ee + 2), .int .i64 0, .int .i64 0, .int .i64 0, .int .i64 0, nilS]) (t := 34) (by simp))
  have F19 := hid ((F18.out.bl hb19).push #[.int .i64 5, .int .i64 (ee + 2), .int .i64 0, .int .i64 0, .int .i64 0, .int .i64 0, nilS] 34 (by decide))
  have K19 := hid (hk19.bl ((Bl.refl w19).alloc (.cells #[.int .i64 5, .int .i64 (ee + 2), .int .i64 0, .int .i64 0, .int .i64 0, .int .i64 0, nilS] 34)))
  have HR := hid (ftrim_old w6.heap.size p a b 3 d ch (ee + 2) 0 (ct1 i ys) (flat (rsB ee x ys)) K4 (ee + 1) (x + 1) _ K19.out (by omega))
  unfold reply
  clear hk19 hb19 F18 K18 z0 z1 z2 z3 lz
  go_wp2_with fail
  refine HR.out.mono ?_
  rintro e w20 ⟨rfl, hk20, hb20⟩
  have F20 := hid ((F19.out.bl hb20).push #[.int .i64 5, .int .i64 (ee + 2), .int .i64 0, .int .i64 0, .int .i64 0, .int .i64 0, nilS] 34 (by decide))
  have K20 := hid (hk20.bl ((Bl.refl w20).alloc (.cells #[.int .i64 5, .int .i64 (ee + 2), .int .i64 0, .int .i64 0, .int .i64 0, .int .i64 0, nilS] 34)))
  have HI := hid (fimage_any w6.heap.size p a b 3 d ch (ee + 2) 0 (ct1 i ys) (flat (rsB ee x ys)) K4 _ K20.out (by omega))
  unfold reply
  clear hk20 hb20 F19 K19 HR
  go_wp2_with fail
  refine HI.out.mono ?_
  rintro e w21 ⟨vi, rfl, hb21, hvi⟩
  have F21 := hid (F20.out.bl hb21)
  have lB : (flat (rsB ee x ys)).length = (flat (rsA ee x ys)).length + 11 := iB.2.1
  obtain ⟨gi, ci, rfl⟩ := own_shape hvi (by omega)
  have HVI := hid hvi
  have hci := ownsRow_cap hvi
  have WY := hid (way_once PL.out ee0 ee1 y1 y8 Y255.out)
  obtain ⟨LA, hLA⟩ : ∃ n, n = (flat (rsA ee x ys)).length := ⟨_, rfl⟩
  obtain ⟨LB, hLB⟩ : ∃ n, n = (flat (rsB ee x ys)).length := ⟨_, rfl⟩
  have HLA := hid hLA
  have HLB := hid hLB
  rw [← hLB] at hci HVI
  rw [← hLA, ← hLB] at lB
  rw [← hLA] at lA
  rw [← hLA, ← hLB]
  have r12 := pk_range cut ((LB : Int) - LA + 1) (by omega)
  have P6 := hid (fun W => P5.out ((LB : Int) - LA + 1) W (by omega) (by omega))
  generalize pk cut ((LB : Int) - LA + 1) = cu at *
  obtain ⟨cn, rfl⟩ := Int.eq_ofNat_of_zero_le r12.1
  obtain ⟨cn0, cn1⟩ := r12
  have hlt : ¬ (LB : Int) < (LA : Int) := by omega
  have m1 : (0 : Int) ≤ (LA : Int) + (cn : Int) := by omega
  have m2 : (LA : Int) + (cn : Int) ≤ (ci : Int) := by omega
  have e1 : IntKind.i64.wrap ((LB : Int) - LA) = (LB : Int) - LA := IntWalk.i64_in _ ⟨by omega, by omega⟩
  have e2 : IntKind.i64.wrap ((LB : Int) - LA + 1) = (LB : Int) - LA + 1 := IntWalk.i64_in _ ⟨by omega, by omega⟩
  have HlB := hid lB
  clear hvi hb21 hLA hLB F20 K20 HI iB P5 lB
  go_wp2_with fail
  refine (P6.out _).mono ?_
  rintro e Wi ⟨rfl, rfl⟩
  have e3 : IntKind.i64.wrap ((LA : Int) + (cn : Int)) = (LA : Int) + (cn : Int) := IntWalk.i64_in _ ⟨by omega, by have := HlB.out; omega⟩
  obtain ⟨c0, c1, c2, c3, lc⟩ := F21.out.row4 (g := b17) (u0 := .int .i64 a) (u1 := .int .i64 b) (u2 := .int .i64 3) (u3 := .int .i64 d) (t := 24) (by repeat (first | exact List.Mem.head _ | apply List.Mem.tail))
  go_wp2_with fail
  have lBB := HlB.out
  have lRB : (flat (rsB ee x ys)).length ≤ 3000000 := by rw [← HLB.out]; omega
  have WB : Hid (Way a b 3 d ch (rsB ee x ys) (Sx ee x i ys)) := Way.front (rs := rsB ee x ys) WY.out
  have HVL : Hid (Wi.ownsRow _ 5 1 (.slice (some ⟨gi, 0, none⟩) LB ci) LB ((flat (rsB ee x ys)).map B8)) := HVI.out
  have HO : Hid (∀ W, Bl Wi W → _) := fun W hW => opened_any a b 3 d u ch (some ⟨gi, 0, none⟩) (LA + cn) ci (rsB ee x ys) (Sx ee x i ys) W PL.out.cha WB.out lRB ((cut_of HVL.out (LA + cn) (by omega)).bl hW)
  unfold cfg at HO
  have HC : Hid (∀ W, Bl Wi W → W.cell? ⟨b17, 0, none⟩ = some (.int .i64 a) ∧ W.cell? ⟨b17, 1, none⟩ = some (.int .i64 b) ∧ W.cell? ⟨b17, 2, none⟩ = some (.int .i64 3) ∧ W.cell? ⟨b17, 3, none⟩ = some (.int .i64 d)) := fun W hW => ⟨(hW.cell lc).trans c0, (hW.cell lc).trans c1, (hW.cell lc).trans c2, (hW.cell lc).trans c3⟩
  rw [show ((LA : Int) + (cn : Int)) = ((LA + cn : Nat) : Int) by omega] at m1 m2 ⊢
  have hnn1 : LA ≤ LA + cn := by omega
  generalize LA + cn = nn at *
  have m3 : nn ≤ ci := by omega
  have m4 : ¬ ci = 0 := by omega
  clear e1 e2 e3 lBB
  go_region_held (fun W => W.cell? ⟨b17, 0, none⟩ = some (.int .i64 a) ∧ W.cell? ⟨b17, 1, none⟩ = some (.int .i64 b) ∧ W.cell? ⟨b17, 2, none⟩ = some (.int .i64 3) ∧ W.cell? ⟨b17, 3, none⟩ = some (.int .i64 d)) (go_keep)
    (first | (go_at_call 7; refine (HO.out _ (by exact (Bl.refl _).drewN _)).mono ?_; rintro e w22 ⟨k2, p2, K5, rfl, hk2, hn2, hl2, hp2, hks2, -, hb22⟩; have KK := hid hks2; have Hk2 := hid hk2; have Hl2 := hid hl2; have Hp2 := hid hp2; have B22 := hid hb22; have C22 := HC.out w22 (((Bl.refl _).drewN _).trans hb22); obtain ⟨C0, C1, C2, C3⟩ := C22; clear hk2 hn2 hl2 hp2 hks2 hb22))
  have F22 : Hid (Fx w w22 w6.heap.size p _ (.slice xa ys.length xc) ys) := F21.out.bl (((Bl.refl Wi).drew).trans B22.out)
  have V22 : Hid (w22.ownsRow _ 5 1 (.slice (some ⟨gi, 0, none⟩) LB ci) LB ((flat (rsB ee x ys)).map B8)) := (Only.of_bl (S := fun _ => False) (((Bl.refl Wi).drew).trans B22.out)).owns HVL.out fun _ _ e => e
  obtain ⟨ep2, im2, hep2, him2, hkp⟩ : ∃ ep2 im2, (ep2 = ee ∨ ep2 = ee + 2) ∧ im2.length ≤ 3000000 ∧ Ks Wi.heap.size w22 p2 a b 3 d ch ep2 0 (ct1 i ys) im2 K5 := by
    have h1 := last_k (rs := rsA ee x ys) (r := ⟨1, [ee + 2], []⟩) (n := nn) (k := k2) Hk2.out (by rw [← HLA.out]; exact hnn1) Hl2.out
    have hlen := Nat.le_trans (off_len (rsB ee x ys) Hk2.out) lRB
    have hK := KK.out
    rcases h1 with h1 | h1
    · subst h1
      rw [Sx_A] at hK
      exact ⟨ee, _, .inl rfl, hlen, hK⟩
    · subst h1
      rw [Sx_B] at hK
      exact ⟨ee + 2, _, .inr rfl, hlen, hK⟩
  have KP := hid hkp
  have lgi : Hid (gi < Wi.heap.size) := (HVL.out.lt gi rfl).2
  have hp2' : Hid (Wi.heap.size ≤ p2) := Hp2.out
  obtain ⟨s0, s1, s2, s3, s4, s5, s6, ls⟩ := F22.out.row7 (g := w17.heap.size) (u0 := .int .i64 1) (u1 := .int .i64 (ee + 2)) (u2 := .int .i64 0) (u3 := .int .i64 0) (u4 := .int .i64 0) (u5 := .int .i64 0) (u6 := nilS) (t := 34) (by repeat (first | exact List.Mem.head _ | apply List.Mem.tail))
  obtain ⟨t0, t1, t2, t3, t4, t5, t6, lt⟩ := F22.out.row7 (g := w18.heap.size) (u0 := .int .i64 5) (u1 := .int .i64 (ee + 2)) (u2 := .int .i64 0) (u3 := .int .i64 0) (u4 := .int .i64 0) (u5 := .int .i64 0) (u6 := nilS) (t := 34) (by repeat (first | exact List.Mem.head _ | apply List.Mem.tail))
  obtain ⟨v0, -, -, -, -, -, -, lv⟩ := F22.out.row7 (g := w19.heap.size) (u0 := .int .i64 5) (u1 := .int .i64 (ee + 2)) (u2 := .int .i64 0) (u3 := .int .i64 0) (u4 := .int .i64 0) (u5 := .int .i64 0) (u6 := nilS) (t := 34) (by repeat (first | exact List.Mem.head _ | apply List.Mem.tail))
  obtain ⟨n0, -, -, -, -, -, -, ln⟩ := F22.out.row7 (g := w20.heap.size) (u0 := .int .i64 5) (u1 := .int .i64 (ee + 2)) (u2 := .int .i64 0) (u3 := .int .i64 0) (u4 := .int .i64 0) (u5 := .int .i64 0) (u6 := nilS) (t := 34) (by repeat (first | exact List.Mem.head _ | apply List.Mem.tail))
  have HR := hid (fread_new Wi.heap.size p2 a b 3 d ch ep2 0 (ct1 i ys) im2 K5 (ee + 2) x w22 KP.out B22.out.lt him2 V1.out (by omega) 2 0 ⟨8, 5, 2, ys⟩ (PL.out.look1 ys))
  generalize (im2 ++ if ee + 2 = ep2 then [] else recB 1 [ee + 2] []) = im3 at HR
  simp only at HR
  have lowB : Hid (w6.heap.size ≤ Wi.heap.size) := F21.out.bW
  clear hkp hep2 KK Hk2 Hl2 Hp2 HO HC C0 C1 C2 C3 c0 c1 c2 c3 lc m1 m2 m3 m4 hnn1 F21 HVI
  go_wp2_with fail
  refine HR.out.mono ?_
  rintro e w23 ⟨K6, vr2, rfl, hvr2, -, ho23, -⟩
  obtain ⟨r2a, r2c, rfl⟩ := owned_slice hvr2
  have F23 := hid (F22.out.ks' KP.out ho23 lowB.out (Nat.le_trans lowB.out hp2'.out))
  have V23 := hid (KP.out.row ho23 V22.out (fun g e => by simp [Value.ownBlock] at e; subst e; exact ⟨lgi.out, Nat.lt_of_lt_of_le lgi.out hp2'.out⟩))
  have HVR := hid hvr2
  have lsz : Hid (w22.heap.size ≤ w23.heap.size) := ho23.size
  clear hvr2 ho23 HR KP V22 s0 s1 s2 s3 s4 s5 s6 ls t0 t1 t2 t3 t4 t5 t6 lt v0 lv n0 ln him2
  obtain ⟨s0, s1, s2, s3, s4, s5, s6, ls⟩ := F23.out.row7 (g := w13.heap.size) (u0 := .int .i64 2) (u1 := .int .i64 0) (u2 := .int .i64 0) (u3 := .int .i64 8) (u4 := .int .i64 5) (u5 := .int .i64 2) (u6 := .slice ra' ys.length rc') (t := 34) (by repeat (first | exact List.Mem.head _ | apply List.Mem.tail))
  obtain ⟨f0, f1, f2, f3, f4, f5, f6⟩ := F23.out.free7 (g := w13.heap.size) (cs := #[.int .i64 2, .int .i64 0, .int .i64 0, .int .i64 8, .int .i64 5, .int .i64 2, .slice ra' ys.length rc']) (t := 34) (by repeat (first | exact List.Mem.head _ | apply List.Mem.tail))
  obtain ⟨z0, z1, z2, z3, lz⟩ := F23.out.row4 (g := w6.heap.size) (u0 := .int .i64 8) (u1 := .int .i64 5) (u2 := .int .i64 2) (u3 := .slice xa ys.length xc) (t := 31) (by repeat (first | exact List.Mem.head _ | apply List.Mem.tail))
  have H29 := hid (F23.out.heap (g := w13.heap.size) (cs := #[.int .i64 2, .int .i64 0, .int .i64 0, .int .i64 8, .int .i64 5, .int .i64 2, .slice ra' ys.length rc']) (t := 34) (by repeat (first | exact List.Mem.head _ | apply List.Mem.tail)))
  have S7 := hid (Only.set7 (w := w23) (S := fun b => b = w13.heap.size) rfl (.int .i64 2) (.int .i64 0) (.int .i64 0) (.int .i64 8) (.int .i64 5) (.int .i64 2) (.slice r2a ys.length r2c))
  have N7 := hid (set7_heap H29.out (.int .i64 2) (.int .i64 0) (.int .i64 0) (.int .i64 8) (.int .i64 5) (.int .i64 2) (.slice r2a ys.length r2c))
  have o1 := O1.out
  have o2 := O2.out
  have o3 := O3.out
  have o4 := O4.out
  have hne1 : ¬ w6.heap.size = w13.heap.size := by omega
  have hne2 : ¬ w13.heap.size = w6.heap.size := by omega
  unfold reply
  clear o1 o2 o3 o4
  go_wp2_with fail
  have F23s := hid (F23.out.set S7.out (by have := O2.out; omega) #[.int .i64 2, .int .i64 0, .int .i64 0, .int .i64 8, .int .i64 5, .int .i64 2, .slice r2a ys.length r2c] 34 (by decide) N7.out [(b17, #[.int .i64 a, .int .i64 b, .int .i64 3, .int .i64 d], 24), (w6.heap.size, #[.int .i64 8, .int .i64 5, .int .i64 2, .slice xa ys.length xc], 31), (w18.heap.size, #[.int .i64 5, .int .i64 (ee + 2), .int .i64 0, .int .i64 0, .int .i64 0, .int .i64 0, nilS], 34), (w19.heap.size, #[.int .i64 5, .int .i64 (ee + 2), .int .i64 0, .int .i64 0, .int .i64 0, .int .i64 0, nilS], 34)] (by intro q hq; simp only [List.mem_cons, List.not_mem_nil, or_false] at hq; have := O1.out; have := O2.out; have := O3.out; have := O4.out; rcases hq with rfl | rfl | rfl | rfl; all_goals exact ⟨by repeat (first | exact List.Mem.head _ | apply List.Mem.tail), by simp only; omega⟩))
  have V23s := hid (S7.out.owns V23.out fun g e e' => own_ne_block V23.out H29.out (by decide) (by rw [e, e']))
  have SU := hid (ownsRow_sl (S7.out.owns HVR.out fun g e e' => own_ne_block HVR.out H29.out (by decide) (by rw [e, e'])))
  have SX := hid F23s.out.vb.sl
  have T1 := told_any 2 0 0 8 5 2 (.slice r2a ys.length r2c) (.slice xa ys.length xc) ys _ SU.out SX.out
  unfold reply at T1
  refine T1.mono ?_
  rintro e w24 ⟨rfl, hb24⟩
  have F24 := hid (F23s.out.bl hb24)
  have V24 := hid ((Only.of_bl (S := fun _ => False) hb24).owns V23s.out fun _ _ e => e)
  have lw24 : Hid (Wi.heap.size ≤ w24.heap.size) := Nat.le_trans B22.out.lt (Nat.le_trans lsz.out (Nat.le_trans S7.out.size hb24.lt))
  have ord24 : Hid (w18.heap.size < w24.heap.size ∧ w13.heap.size < w24.heap.size ∧ w6.heap.size < w24.heap.size ∧ w19.heap.size < w24.heap.size) := ⟨F24.out.bx.lt (cs := #[.int .i64 5, .int .i64 (ee + 2), .int .i64 0, .int .i64 0, .int .i64 0, .int .i64 0, nilS]) (t := 34) (by repeat (first | exact List.Mem.head _ | apply List.Mem.tail)), F24.out.bx.lt (cs := #[.int .i64 2, .int .i64 0, .int .i64 0, .int .i64 8, .int .i64 5, .int .i64 2, .slice r2a ys.length r2c]) (t := 34) (by repeat (first | exact List.Mem.head _ | apply List.Mem.tail)), F24.out.bx.lt (cs := #[.int .i64 8, .int .i64 5, .int .i64 2, .slice xa ys.length xc]) (t := 31) (by repeat (first | exact List.Mem.head _ | apply List.Mem.tail)), F24.out.bx.lt (cs := #[.int .i64 5, .int .i64 (ee + 2), .int .i64 0, .int .i64 0, .int .i64 0, .int .i64 0, nilS]) (t := 34) (by repeat (first | exact List.Mem.head _ | apply List.Mem.tail))⟩
  clear s0 s1 s2 s3 s4 s5 s6 ls f0 f1 f2 f3 f4 f5 f6 z0 z1 z2 z3 lz hne1 hne2 T1 SU SX S7 N7 H29 HVR F23 F23s V23 V23s F22 B22 hb24
  obtain ⟨z0, z1, z2, z3, lz⟩ := F24.out.row4 (g := b17) (u0 := .int .i64 a) (u1 := .int .i64 b) (u2 := .int .i64 3) (u3 := .int .i64 d) (t := 24) (by repeat (first | exact List.Mem.head _ | apply List.Mem.tail))
  have HO := hid (opened_any a b 3 d u ch (some ⟨gi, 0, none⟩) LB ci (rsB ee x ys) (Sx ee x i ys) w24 PL.out.cha WB.out lRB (cut_of V24.out LB (Nat.le_refl _)))
  unfold cfg at HO
  go_wp2_with fail
  refine HO.out.mono ?_
  rintro e w25 ⟨k3, p3, K7, rfl, hk3, -, hl3, hp3, hks3, -, hb25⟩
  obtain rfl : k3 = (rsA ee x ys).length + 1 := by
    have := full_k hk3 HLB.out hl3
    rw [this]; unfold rsB; simp
  rw [Sx_B] at hks3
  have KK := hid hks3
  have hfull : Hid ((rsB ee x ys).take ((rsA ee x ys).length + 1) = rsB ee x ys) := List.take_of_length_le (by unfold rsB; simp)
  rw [hfull.out] at KK
  have F25 := hid (F24.out.bl hb25)
  have hp3' : Hid (w24.heap.size ≤ p3) := hp3
  have bs3 : Hid (w24.heap.size ≤ w25.heap.size) := hb25.lt
  have HR := hid (fread_old w24.heap.size p3 a b 3 d ch (ee + 2) 0 (ct1 i ys) (flat (rsB ee x ys)) K7 (ee + 1) x w25 KK.out (by omega))
  clear hk3 hl3 hp3 hks3 hb25 HO F24 V24 z0 z1 z2 z3 lz
  go_wp2_with fail
  refine HR.out.mono ?_
  rintro e w26 ⟨rfl, hk26, hb26⟩
  have F26 := hid (F25.out.bl hb26)
  have K26 := hid hk26
  have lb6 : Hid (w6.heap.size ≤ w24.heap.size) := Nat.le_trans lowB.out lw24.out
  have l2624 : Hid (w24.heap.size ≤ w26.heap.size) := Nat.le_trans bs3.out hb26.lt
  have hp34 : Hid (w18.heap.size < w24.heap.size ∧ w13.heap.size < w24.heap.size ∧ w6.heap.size < w24.heap.size ∧ w19.heap.size < w24.heap.size) := ord24.out
  have H34 := hid (F26.out.heap (g := w18.heap.size) (cs := #[.int .i64 5, .int .i64 (ee + 2), .int .i64 0, .int .i64 0, .int .i64 0, .int .i64 0, nilS]) (t := 34) (by repeat (first | exact List.Mem.head _ | apply List.Mem.tail)))
  have S7 := hid (Only.set7 (w := w26) (S := fun b => b = w18.heap.size) rfl (.int .i64 5) (.int .i64 (ee + 2)) (.int .i64 0) (.int .i64 0) (.int .i64 0) (.int .i64 0) nilS)
  have N7 := hid (set7_heap H34.out (.int .i64 5) (.int .i64 (ee + 2)) (.int .i64 0) (.int .i64 0) (.int .i64 0) (.int .i64 0) nilS)
  have F26s := hid (F26.out.set S7.out (by have := O2.out; have := O3.out; omega) #[.int .i64 5, .int .i64 (ee + 2), .int .i64 0, .int .i64 0, .int .i64 0, .int .i64 0, nilS] 34 (by decide) N7.out [(w13.heap.size, #[.int .i64 2, .int .i64 0, .int .i64 0, .int .i64 8, .int .i64 5, .int .i64 2, .slice r2a ys.length r2c], 34), (b17, #[.int .i64 a, .int .i64 b, .int .i64 3, .int .i64 d], 24), (w6.heap.size, #[.int .i64 8, .int .i64 5, .int .i64 2, .slice xa ys.length xc], 31), (w19.heap.size, #[.int .i64 5, .int .i64 (ee + 2), .int .i64 0, .int .i64 0, .int .i64 0, .int .i64 0, nilS], 34)] (by intro q hq; simp only [List.mem_cons, List.not_mem_nil, or_false] at hq; have := O1.out; have := O2.out; have := O3.out; have := O4.out; rcases hq with rfl | rfl | rfl | rfl; all_goals exact ⟨by repeat (first | exact List.Mem.head _ | apply List.Mem.tail), by simp only; omega⟩))
  have K26s := hid (K26.out.other' S7.out H34.out (by decide) (by have := hp34.out; have := hp3'.out; omega))
  obtain ⟨s0, s1, s2, s3, s4, s5, s6, ls⟩ := F26.out.row7 (g := w18.heap.size) (u0 := .int .i64 5) (u1 := .int .i64 (ee + 2)) (u2 := .int .i64 0) (u3 := .int .i64 0) (u4 := .int .i64 0) (u5 := .int .i64 0) (u6 := nilS) (t := 34) (by repeat (first | exact List.Mem.head _ | apply List.Mem.tail))
  obtain ⟨f0, f1, f2, f3, f4, f5, f6⟩ := F26.out.free7 (g := w18.heap.size) (cs := #[.int .i64 5, .int .i64 (ee + 2), .int .i64 0, .int .i64 0, .int .i64 0, .int .i64 0, nilS]) (t := 34) (by repeat (first | exact List.Mem.head _ | apply List.Mem.tail))
  have HT := hid (ftrim_new w24.heap.size p3 a b 3 d ch (ee + 2) 0 (ct1 i ys) (flat (rsB ee x ys)) K7 (ee + 2) (x + 1) _ K26s.out (Nat.le_trans l2624.out S7.out.size) lRB (by omega) (by omega))
  rw [← flat_rsC] at HT
  unfold reply
  clear hk26 hb26 HR F25 KK
  go_wp2_with fail
  refine HT.out.mono ?_
  rintro e w27 ⟨K8, rfl, hk27, ho27⟩
  have G27 := hid (F26s.out.ks' K26s.out ho27 lb6.out (Nat.le_trans lb6.out hp3'.out))
  have O5 : Hid (w19.heap.size < w27.heap.size) := G27.out.bx.lt (cs := #[.int .i64 5, .int .i64 (ee + 2), .int .i64 0, .int .i64 0, .int .i64 0, .int .i64 0, nilS]) (t := 34) (by repeat (first | exact List.Mem.head _ | apply List.Mem.tail))
  have F27 := hid (G27.out.push #[.int .i64 1, .int .i64 0, .int .i64 (x + 1), .int .i64 0, .int .i64 0, .int .i64 0, nilS] 34 (by decide))
  have K27 := hid (hk27.bl ((Bl.refl w27).alloc (.cells #[.int .i64 1, .int .i64 0, .int .i64 (x + 1), .int .i64 0, .int .i64 0, .int .i64 0, nilS] 34)))
  have lC : (flat (rsC ee x ys)).length = LB + 19 := by rw [HLB.out]; exact (once_len ee x ys y8).2.2
  have lB1 := HlB.out
  have lRC : (flat (rsC ee x ys)).length ≤ 3000000 := by omega
  have l27 : Hid (w24.heap.size ≤ w27.heap.size + 1) := by
    have := ho27.size; have := S7.out.size; have := l2624.out; unfold Hid; omega
  have HR := hid (fread_new w24.heap.size p3 a b 3 d ch (ee + 2) (x + 1) (ct1 i ys) (flat (rsC ee x ys)) K8 (ee + 2) x _ K27.out (by have := l27.out; simp; omega) lRC V1.out (by omega) 4 (x + 1) ⟨8, 5, 2, []⟩ (PL.out.look2 ys))
  rw [if_pos rfl, List.append_nil] at HR
  simp only at HR
  have HlC := hid lC
  have HlRC := hid lRC
  unfold reply
  clear hk27 ho27 HT F26 F26s K26 K26s S7 N7 H34 s0 s1 s2 s3 s4 s5 s6 ls f0 f1 f2 f3 f4 f5 f6 G27 lC lB1 lRC
  go_wp2_with fail
  refine HR.out.mono ?_
  rintro e w28 ⟨K9, vq, rfl, hvq, hk28, -, hs28⟩
  obtain ⟨rfl, hb28⟩ := hs28 trivial
  obtain ⟨qa, qc, rfl⟩ := owned_slice hvq
  have F28 := hid (F27.out.bl hb28)
  have H29 := hid (F28.out.heap (g := w13.heap.size) (cs := #[.int .i64 2, .int .i64 0, .int .i64 0, .int .i64 8, .int .i64 5, .int .i64 2, .slice r2a ys.length r2c]) (t := 34) (by repeat (first | exact List.Mem.head _ | apply List.Mem.tail)))
  have S7 := hid (Only.set7 (w := w28) (S := fun b => b = w13.heap.size) rfl (.int .i64 4) (.int .i64 0) (.int .i64 (x + 1)) (.int .i64 8) (.int .i64 5) (.int .i64 2) (.slice qa 0 qc))
  have N7 := hid (set7_heap H29.out (.int .i64 4) (.int .i64 0) (.int .i64 (x + 1)) (.int .i64 8) (.int .i64 5) (.int .i64 2) (.slice qa 0 qc))
  have F28s := hid (F28.out.set S7.out (by have := O2.out; omega) #[.int .i64 4, .int .i64 0, .int .i64 (x + 1), .int .i64 8, .int .i64 5, .int .i64 2, .slice qa 0 qc] 34 (by decide) N7.out [(b17, #[.int .i64 a, .int .i64 b, .int .i64 3, .int .i64 d], 24), (w6.heap.size, #[.int .i64 8, .int .i64 5, .int .i64 2, .slice xa ys.length xc], 31), (w18.heap.size, #[.int .i64 5, .int .i64 (ee + 2), .int .i64 0, .int .i64 0, .int .i64 0, .int .i64 0, nilS], 34), (w19.heap.size, #[.int .i64 5, .int .i64 (ee + 2), .int .i64 0, .int .i64 0, .int .i64 0, .int .i64 0, nilS], 34), (w27.heap.size, #[.int .i64 1, .int .i64 0, .int .i64 (x + 1), .int .i64 0, .int .i64 0, .int .i64 0, nilS], 34)] (by intro q hq; simp only [List.mem_cons, List.not_mem_nil, or_false] at hq; have := O1.out; have := O2.out; have := O3.out; have := O4.out; have := O5.out; rcases hq with rfl | rfl | rfl | rfl | rfl; all_goals exact ⟨by repeat (first | exact List.Mem.head _ | apply List.Mem.tail), by simp only; omega⟩))
  have K28s := hid (hk28.other' S7.out H29.out (by decide) (by have := ord24.out; have := hp3'.out; omega))
  have H23 := hid (F28s.out.heap (g := w6.heap.size) (cs := #[.int .i64 8, .int .i64 5, .int .i64 2, .slice xa ys.length xc]) (t := 31) (by repeat (first | exact List.Mem.head _ | apply List.Mem.tail)))
  obtain ⟨s0, s1, s2, s3, s4, s5, s6, ls⟩ := F28.out.row7 (g := w13.heap.size) (u0 := .int .i64 2) (u1 := .int .i64 0) (u2 := .int .i64 0) (u3 := .int .i64 8) (u4 := .int .i64 5) (u5 := .int .i64 2) (u6 := .slice r2a ys.length r2c) (t := 34) (by repeat (first | exact List.Mem.head _ | apply List.Mem.tail))
  obtain ⟨f0, f1, f2, f3, f4, f5, f6⟩ := F28.out.free7 (g := w13.heap.size) (cs := #[.int .i64 2, .int .i64 0, .int .i64 0, .int .i64 8, .int .i64 5, .int .i64 2, .slice r2a ys.length r2c]) (t := 34) (by repeat (first | exact List.Mem.head _ | apply List.Mem.tail))
  obtain ⟨z0, z1, z2, z3, lz⟩ := F28.out.row4 (g := w6.heap.size) (u0 := .int .i64 8) (u1 := .int .i64 5) (u2 := .int .i64 2) (u3 := .slice xa ys.length xc) (t := 31) (by repeat (first | exact List.Mem.head _ | apply List.Mem.tail))
  have fz := F28.out.bx.frozen (g := w6.heap.size) (cs := #[.int .i64 8, .int .i64 5, .int .i64 2, .slice xa ys.length xc]) (t := 31) (by repeat (first | exact List.Mem.head _ | apply List.Mem.tail)) 3
  have hne1 : ¬ w6.heap.size = w13.heap.size := by have := O2.out; omega
  have hne2 : ¬ w13.heap.size = w6.heap.size := by have := O2.out; omega
  unfold reply
  clear hvq hk28 hs28 hb28 HR F27 K27
  go_wp2_with fail
  have T1 := told_any 4 0 (x + 1) 8 5 2 (.slice qa 0 qc) nilS [] ((((((((w28.setCell ⟨w13.heap.size, 0, none⟩ (.int .i64 4)).setCell ⟨w13.heap.size, 1, none⟩ (.int .i64 0)).setCell ⟨w13.heap.size, 2, none⟩ (.int .i64 (x + 1))).setCell ⟨w13.heap.size, 3, none⟩ (.int .i64 8)).setCell ⟨w13.heap.size, 4, none⟩ (.int .i64 5)).setCell ⟨w13.heap.size, 5, none⟩ (.int .i64 2)).setCell ⟨w13.heap.size, 6, none⟩ (.slice qa 0 qc)).setCell ⟨w6.heap.size, 3, none⟩ nilS) (.inl ⟨qa, qc, rfl, rfl⟩) (.inl ⟨none, 0, rfl, rfl⟩)
  unfold reply at T1
  refine T1.mono ?_
  rintro e w29 ⟨rfl, hb29⟩
  generalize hW28 : (((((((w28.setCell ⟨w13.heap.size, 0, none⟩ (.int .i64 4)).setCell ⟨w13.heap.size, 1, none⟩ (.int .i64 0)).setCell ⟨w13.heap.size, 2, none⟩ (.int .i64 (x + 1))).setCell ⟨w13.heap.size, 3, none⟩ (.int .i64 8)).setCell ⟨w13.heap.size, 4, none⟩ (.int .i64 5)).setCell ⟨w13.heap.size, 5, none⟩ (.int .i64 2)).setCell ⟨w13.heap.size, 6, none⟩ (.slice qa 0 qc)) = W28 at *
  have S1 := hid ((Only.refl (fun b => b = w6.heap.size) W28).setCell ⟨w6.heap.size, 3, none⟩ (.inl rfl) nilS)
  have N1 : Hid ((W28.setCell ⟨w6.heap.size, 3, none⟩ nilS).heap[w6.heap.size]? = some (.cells #[.int .i64 8, .int .i64 5, .int .i64 2, nilS] 31 (0, 0))) := Go.heap_setCell_same W28 w6.heap.size 3 _ 31 nilS H23.out
  have F28t := hid (F28s.out.set S1.out (Nat.le_refl _) #[.int .i64 8, .int .i64 5, .int .i64 2, nilS] 31 (by decide) N1.out [(b17, #[.int .i64 a, .int .i64 b, .int .i64 3, .int .i64 d], 24), (w13.heap.size, #[.int .i64 4, .int .i64 0, .int .i64 (x + 1), .int .i64 8, .int .i64 5, .int .i64 2, .slice qa 0 qc], 34), (w18.heap.size, #[.int .i64 5, .int .i64 (ee + 2), .int .i64 0, .int .i64 0, .int .i64 0, .int .i64 0, nilS], 34), (w19.heap.size, #[.int .i64 5, .int .i64 (ee + 2), .int .i64 0, .int .i64 0, .int .i64 0, .int .i64 0, nilS], 34), (w27.heap.size, #[.int .i64 1, .int .i64 0, .int .i64 (x + 1), .int .i64 0, .int .i64 0, .int .i64 0, nilS], 34)] (by intro q hq; simp only [List.mem_cons, List.not_mem_nil, or_false] at hq; have := O1.out; have := O2.out; have := O3.out; have := O4.out; have := O5.out; rcases hq with rfl | rfl | rfl | rfl | rfl; all_goals exact ⟨by repeat (first | exact List.Mem.head _ | apply List.Mem.tail), by simp only; omega⟩))
  have K28t := hid (K28s.out.other' S1.out H23.out (by decide) (by have := ord24.out; have := hp3'.out; omega))
  have F29 := hid (F28t.out.bl hb29)
  have K29 := hid (K28t.out.bl hb29)
  obtain ⟨c0, c1, c2, c3, lc⟩ := F29.out.row4 (g := b17) (u0 := .int .i64 a) (u1 := .int .i64 b) (u2 := .int .i64 3) (u3 := .int .i64 d) (t := 24) (by repeat (first | exact List.Mem.head _ | apply List.Mem.tail))
  have HC : Hid (∀ W, Bl w29 W → W.cell? ⟨b17, 0, none⟩ = some (.int .i64 a) ∧ W.cell? ⟨b17, 1, none⟩ = some (.int .i64 b) ∧ W.cell? ⟨b17, 2, none⟩ = some (.int .i64 3) ∧ W.cell? ⟨b17, 3, none⟩ = some (.int .i64 d)) := fun W hW => ⟨(hW.cell lc).trans c0, (hW.cell lc).trans c1, (hW.cell lc).trans c2, (hW.cell lc).trans c3⟩
  have HI : Hid (∀ W, Bl w29 W → Calls Try.prog 11 #[.pointer (some ⟨p3, 0, none⟩)] W fun e w30 => ∃ gj cj LC, e = .returned (.slice (some ⟨gj, 0, none⟩) LC cj) ∧ Bl w29 w30 ∧ Calls Try.prog 7 #[.agg #[.int .i64 a, .int .i64 b, .int .i64 3, .int .i64 d], .int .i64 u, .slice (some ⟨gj, 0, none⟩) LC cj] w30 fun e w31 => ∃ p4 K10, e = .returned (.tuple #[.pointer (some ⟨p4, 0, none⟩), .bool true]) ∧ w29.heap.size ≤ p4 ∧ Ks w29.heap.size w31 p4 a b 3 d ch (ee + 2) (x + 1) (ct1 i ys) (flat (rsC ee x ys)) K10 ∧ Bl w29 w31) := by
    intro W hW
    refine (fimage_any w24.heap.size p3 a b 3 d ch (ee + 2) (x + 1) (ct1 i ys) (flat (rsC ee x ys)) K9 W (K29.out.bl hW) HlRC.out).mono ?_
    rintro e w30 ⟨vj, rfl, hb30, hvj⟩
    obtain ⟨gj, cj, rfl⟩ := own_shape hvj (by have := HlC.out; omega)
    refine ⟨gj, cj, _, rfl, hW.trans hb30, ?_⟩
    refine (opened_any a b 3 d u ch (some ⟨gj, 0, none⟩) (flat (rsC ee x ys)).length cj (rsC ee x ys) (Sx ee x i ys) w30 PL.out.cha WY.out HlRC.out (cut_of hvj _ (Nat.le_refl _))).mono ?_
    rintro e w31 ⟨k4, p4, K10, rfl, hk4, -, hl4, hp4, hks4, -, hb31⟩
    obtain rfl := full_k hk4 rfl hl4
    rw [Sx_C, List.take_length] at hks4
    exact ⟨p4, K10, rfl, Nat.le_trans (hW.trans hb30).lt hp4, hks4.base (hW.trans hb30).lt, (hW.trans hb30).trans hb31⟩
  clear s0 s1 s2 s3 s4 s5 s6 ls f0 f1 f2 f3 f4 f5 f6 z0 z1 z2 z3 lz fz hne1 hne2 T1 S7 N7 H29 H23 S1 N1 F28 F28s F28t K28s K28t hb29 hW28 lRB
  go_wp2_with fail
  go_region_held (fun W => W.cell? ⟨b17, 0, none⟩ = some (.int .i64 a) ∧ W.cell? ⟨b17, 1, none⟩ = some (.int .i64 b) ∧ W.cell? ⟨b17, 2, none⟩ = some (.int .i64 3) ∧ W.cell? ⟨b17, 3, none⟩ = some (.int .i64 d)) (go_keep)
    (first
      | (go_at_call 11; refine (HI.out _ (by exact (Bl.refl _).drewN _)).mono ?_; rintro e w30 ⟨gj, cj, LC, rfl, hb30, h7⟩; have H7 := hid h7; have C30 := HC.out w30 hb30; obtain ⟨C0, C1, C2, C3⟩ := C30; clear hb30 h7)
      | (go_at_call 7; refine H7.out.mono ?_; rintro e w31 ⟨p4, K10, rfl, hp4, hk31, hb31⟩; have K31 := hid hk31; have B31 := hid hb31; have Hp4 := hid hp4; have C31 := HC.out w31 hb31; obtain ⟨D0, D1', D2', D3⟩ := C31; clear hb31 hk31 hp4))
  all_goals
    have F31 := hid (F29.out.bl B31.out)
    have HD := hid (D2.out 7 7 w31 F31.out.bw)
    have lw31 : Hid (w6.heap.size ≤ w29.heap.size) := F29.out.bW
    clear C0 C1 C2 C3 D0 D1' D2' D3 c0 c1 c2 c3 lc HI H7 HC
    go_wp2_with fail
    refine HD.out.mono ?_
    rintro e w32 ⟨v5, rfl, hb32, hd32⟩
    obtain ⟨v5a, v5c, rfl⟩ := hd32.bs.sl.bytes
    have F32 := hid (F31.out.bl hb32)
    have K32 := hid (K31.out.bl hb32)
    have o1 := hd32.l1
    have o8 := hd32.l8
    have HT := hid (fwrite_told w29.heap.size p4 a b 3 d ch (ee + 2) (x + 1) (ct1 i ys) (flat (rsC ee x ys)) K10 (ee + 2) x 8 7 7 v5a yo.length v5c w32 K32.out (Nat.le_trans B31.out.lt hb32.lt) HlRC.out V1.out (by omega) (by omega) 4 (x + 1) ⟨8, 5, 2, []⟩ (PL.out.look2 ys) (by decide) (by simp [isC]; omega))
    rw [if_pos rfl, List.append_nil] at HT
    simp only at HT
    clear hb32 hd32 HD
    go_wp2_with fail
    refine HT.out.mono ?_
    rintro e w33 ⟨K11, vt, rfl, hvt, -, -, hs33⟩
    obtain ⟨rfl, hb33⟩ := hs33 trivial
    obtain ⟨ta, tc, rfl⟩ := owned_slice hvt
    have F33 := hid (F32.out.bl hb33)
    have H35 := hid (F33.out.heap (g := w19.heap.size) (cs := #[.int .i64 5, .int .i64 (ee + 2), .int .i64 0, .int .i64 0, .int .i64 0, .int .i64 0, nilS]) (t := 34) (by repeat (first | exact List.Mem.head _ | apply List.Mem.tail)))
    have S7 := hid (Only.set7 (w := w33) (S := fun b => b = w19.heap.size) rfl (.int .i64 4) (.int .i64 0) (.int .i64 (x + 1)) (.int .i64 8) (.int .i64 5) (.int .i64 2) (.slice ta 0 tc))
    have N7 := hid (set7_heap H35.out (.int .i64 4) (.int .i64 0) (.int .i64 (x + 1)) (.int .i64 8) (.int .i64 5) (.int .i64 2) (.slice ta 0 tc))
    have F33s := hid (F33.out.set S7.out (by have := O2.out; have := O3.out; have := O4.out; omega) #[.int .i64 4, .int .i64 0, .int .i64 (x + 1), .int .i64 8, .int .i64 5, .int .i64 2, .slice ta 0 tc] 34 (by decide) N7.out [(b17, #[.int .i64 a, .int .i64 b, .int .i64 3, .int .i64 d], 24), (w6.heap.size, #[.int .i64 8, .int .i64 5, .int .i64 2, nilS], 31), (w13.heap.size, #[.int .i64 4, .int .i64 0, .int .i64 (x + 1), .int .i64 8, .int .i64 5, .int .i64 2, .slice qa 0 qc], 34), (w18.heap.size, #[.int .i64 5, .int .i64 (ee + 2), .int .i64 0, .int .i64 0, .int .i64 0, .int .i64 0, nilS], 34), (w27.heap.size, #[.int .i64 1, .int .i64 0, .int .i64 (x + 1), .int .i64 0, .int .i64 0, .int .i64 0, nilS], 34)] (by intro q hq; simp only [List.mem_cons, List.not_mem_nil, or_false] at hq; have := O1.out; have := O2.out; have := O3.out; have := O4.out; have := O5.out; rcases hq with rfl | rfl | rfl | rfl | rfl; all_goals exact ⟨by repeat (first | exact List.Mem.head _ | apply List.Mem.tail), by simp only; omega⟩))
    obtain ⟨s0, s1, s2, s3, s4, s5, s6, ls⟩ := F33.out.row7 (g := w19.heap.size) (u0 := .int .i64 5) (u1 := .int .i64 (ee + 2)) (u2 := .int .i64 0) (u3 := .int .i64 0) (u4 := .int .i64 0) (u5 := .int .i64 0) (u6 := nilS) (t := 34) (by repeat (first | exact List.Mem.head _ | apply List.Mem.tail))
    obtain ⟨f0, f1, f2, f3, f4, f5, f6⟩ := F33.out.free7 (g := w19.heap.size) (cs := #[.int .i64 5, .int .i64 (ee + 2), .int .i64 0, .int .i64 0, .int .i64 0, .int .i64 0, nilS]) (t := 34) (by repeat (first | exact List.Mem.head _ | apply List.Mem.tail))
    obtain ⟨z0, z1, z2, z3, lz⟩ := F33.out.row4 (g := w6.heap.size) (u0 := .int .i64 8) (u1 := .int .i64 5) (u2 := .int .i64 2) (u3 := nilS) (t := 31) (by repeat (first | exact List.Mem.head _ | apply List.Mem.tail))
    have hne1 : ¬ w6.heap.size = w19.heap.size := by have := O2.out; have := O3.out; have := O4.out; omega
    have hne2 : ¬ w19.heap.size = w6.heap.size := by have := O2.out; have := O3.out; have := O4.out; omega
    unfold reply
    clear hvt hs33 hb33 HT F31 F32 K32 K31 K29 F29
    go_wp2_with fail
    have T1 := told_any 4 0 (x + 1) 8 5 2 (.slice ta 0 tc) nilS [] (((((((w33.setCell ⟨w19.heap.size, 0, none⟩ (.int .i64 4)).setCell ⟨w19.heap.size, 1, none⟩ (.int .i64 0)).setCell ⟨w19.heap.size, 2, none⟩ (.int .i64 (x + 1))).setCell ⟨w19.heap.size, 3, none⟩ (.int .i64 8)).setCell ⟨w19.heap.size, 4, none⟩ (.int .i64 5)).setCell ⟨w19.heap.size, 5, none⟩ (.int .i64 2)).setCell ⟨w19.heap.size, 6, none⟩ (.slice ta 0 tc)) (.inl ⟨ta, tc, rfl, rfl⟩) (.inl ⟨none, 0, rfl, rfl⟩)
    unfold reply at T1
    refine T1.mono ?_
    rintro e w34 ⟨rfl, hb34⟩
    have F34 := hid (F33s.out.bl hb34)
    clear s0 s1 s2 s3 s4 s5 s6 ls f0 f1 f2 f3 f4 f5 f6 z0 z1 z2 z3 lz hne1 hne2 T1 S7 N7 H35 F33 F33s hb34
    obtain ⟨t0, t1, t2, t3, t4, t5, t6, lt⟩ := F34.out.row7 (g := w18.heap.size) (u0 := .int .i64 5) (u1 := .int .i64 (ee + 2)) (u2 := .int .i64 0) (u3 := .int .i64 0) (u4 := .int .i64 0) (u5 := .int .i64 0) (u6 := nilS) (t := 34) (by repeat (first | exact List.Mem.head _ | apply List.Mem.tail))
    obtain ⟨s0, s1, s2, s3, s4, s5, s6, ls⟩ := F34.out.row7 (g := w27.heap.size) (u0 := .int .i64 1) (u1 := .int .i64 0) (u2 := .int .i64 (x + 1)) (u3 := .int .i64 0) (u4 := .int .i64 0) (u5 := .int .i64 0) (u6 := nilS) (t := 34) (by repeat (first | exact List.Mem.head _ | apply List.Mem.tail))
    obtain ⟨r0', r1, r2, r3, r4, r5, r6, lr⟩ := F34.out.row7 (g := w13.heap.size) (u0 := .int .i64 4) (u1 := .int .i64 0) (u2 := .int .i64 (x + 1)) (u3 := .int .i64 8) (u4 := .int .i64 5) (u5 := .int .i64 2) (u6 := .slice qa 0 qc) (t := 34) (by repeat (first | exact List.Mem.head _ | apply List.Mem.tail))
    go_wp2
    go_ret
    exact ⟨rfl, F34.out.bw⟩
end Go.Proofs.Ytbghhbpacijmmaa
