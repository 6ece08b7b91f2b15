-- The script of all kinds is played.
-- All, called at a script that can be read.
import Derived.Test.YtkgjpfamjedncaaGreatStepWvStepAQ
namespace Go.Proofs.YtkgjpfamjedncaaGreat
open Go.RowKit Go.Maps
attribute [local go_sem ↓] Go.wp_at_zero Go.wp_at_succ

def R64 (a : Int) : Prop := -9223372036854775808 ≤ a ∧ a ≤ 9223372036854775807
theorem r64_wf {n : Int} (h : R64 n) : (Lit.int .i64 n).wf = true := Go.WalkArith.wf_i64 (by unfold R64 at h; omega)
/-- A layout and numbers that can be read. -/
def LayAt (w : World) (v u : Value) (L : List (List Int)) : Prop :=
  ∃ (ls : List Value) (zs : List Int), Sl w v ls ∧ ls.length = L.length ∧ (∀ i (h : i < ls.length) (h' : i < L.length), Sl w ls[i] (L[i].map (Value.int .i64))) ∧ Sl w u (zs.map (Value.int .i64)) ∧ (∀ c ∈ L, c.length ≤ 4000000 ∧ wfAll c) ∧ zs.length ≤ 4000000 ∧ wfAll zs
theorem LayAt.bl {w w' : World} {v u : Value} {L : List (List Int)} (h : LayAt w v u L) (hb : Bl w w') : LayAt w' v u L := by
  obtain ⟨ls, zs, h1, h2, h3, h4, h5⟩ := h
  exact ⟨ls, zs, h1.bl hb, h2, fun i hi hi' => (h3 i hi hi').bl hb, h4.bl hb, h5⟩
/-- A step's kind, its bytes, its layout. -/
abbrev Sd3 : Type := Int × List Int × List (List Int)
def wt (d : Sd3) : Nat := d.2.1.length + d.2.2.length
def totA (Ds : List Sd3) : Nat := (Ds.map wt).sum
theorem totA_app (A B : List Sd3) : totA (A ++ B) = totA A + totA B := by
  unfold totA; rw [List.map_append, List.sum_append]
theorem totA_succ (Ds : List Sd3) (k : Nat) (h : k < Ds.length) : totA (Ds.take (k + 1)) = totA (Ds.take k) + wt Ds[k] := by
  rw [List.take_succ_eq_append_getElem h, totA_app]
  simp only [totA, List.map_cons, List.map_nil, List.sum_cons, List.sum_nil, Nat.add_zero]
theorem totA_le (Ds : List Sd3) (k : Nat) : totA (Ds.take k) ≤ totA Ds := by
  have := totA_app (Ds.take k) (Ds.drop k)
  rw [List.take_append_drop] at this
  omega
/-- A step of the script, as it lies in memory. -/
def OpAtA (w : World) (b off : Nat) (kd : Int) (ss : List Int) (L : List (List Int)) : Prop :=
  ∃ (a bb c q1 q2 q3 q4 : Int) (la : Option Addr) (ln lc : Nat) (ua : Option Addr) (un uc : Nat) (t1 t2 t3 : Int) (va : Option Addr) (vn vc : Nat),
    (w.cell? ⟨b, off, none⟩ = some (.int .i64 kd) ∧ w.cell? ⟨b, off + 1, none⟩ = some (.int .i64 a) ∧ w.cell? ⟨b, off + 2, none⟩ = some (.int .i64 bb) ∧ w.cell? ⟨b, off + 3, none⟩ = some (.int .i64 c) ∧
     w.cell? ⟨b, off + 4, none⟩ = some (.int .i64 q1) ∧ w.cell? ⟨b, off + 5, none⟩ = some (.int .i64 q2) ∧ w.cell? ⟨b, off + 6, none⟩ = some (.int .i64 q3) ∧ w.cell? ⟨b, off + 7, none⟩ = some (.int .i64 q4) ∧
     w.cell? ⟨b, off + 8, none⟩ = some (.slice la ln lc) ∧ w.cell? ⟨b, off + 9, none⟩ = some (.slice ua un uc) ∧ w.cell? ⟨b, off + 10, none⟩ = some (.string (strOf ss)) ∧
     w.cell? ⟨b, off + 11, none⟩ = some (.int .i64 t1) ∧ w.cell? ⟨b, off + 12, none⟩ = some (.int .i64 t2) ∧ w.cell? ⟨b, off + 13, none⟩ = some (.int .i64 t3) ∧ w.cell? ⟨b, off + 14, none⟩ = some (.slice va vn vc)) ∧
    R64 a ∧ R64 bb ∧ R64 c ∧ Byt ss ∧ R64 t1 ∧ R64 t2 ∧ R64 t3 ∧ LayAt w (.slice la ln lc) (.slice ua un uc) L
theorem OpAtA.bl {w w' : World} {b off : Nat} {kd : Int} {ss : List Int} {L : List (List Int)} (h : OpAtA w b off kd ss L) (hb : b < w.heap.size) (hbl : Bl w w') : OpAtA w' b off kd ss L := by
  obtain ⟨a, bb, c, q1, q2, q3, q4, la, ln, lc, ua, un, uc, t1, t2, t3, va, vn, vcc, ⟨d0, d1, d2, d3, d4, d5, d6, d7, d8, d9, d10, d11, d12, d13, d14⟩, h1, h2, h3, h4, h5, h6, h7, h8⟩ := h
  exact ⟨a, bb, c, q1, q2, q3, q4, la, ln, lc, ua, un, uc, t1, t2, t3, va, vn, vcc, ⟨(hbl.cell hb).trans d0, (hbl.cell hb).trans d1, (hbl.cell hb).trans d2, (hbl.cell hb).trans d3, (hbl.cell hb).trans d4, (hbl.cell hb).trans d5, (hbl.cell hb).trans d6, (hbl.cell hb).trans d7, (hbl.cell hb).trans d8, (hbl.cell hb).trans d9, (hbl.cell hb).trans d10, (hbl.cell hb).trans d11, (hbl.cell hb).trans d12, (hbl.cell hb).trans d13, (hbl.cell hb).trans d14⟩, h1, h2, h3, h4, h5, h6, h7, h8.bl hbl⟩

/-- The kinds. -/
def kkA : Nat → Int
  | 0 => 3
  | 1 => 1
  | 2 => 2
  | 3 => 4
  | 4 => 5
  | 5 => 6
  | 6 => 7
  | 7 => 8
  | 8 => 13
  | 9 => 9
  | 10 => 10
  | 11 => 11
  | 12 => 12
  | _ => 14
def inA (kd : Int) : Nat → Bool
  | 0 => false
  | n + 1 => inA kd n || (kd == kkA n)
theorem inA_all (kd : Int) (h : inA kd 14 = true) : kd = 3 ∨ kd = 1 ∨ kd = 2 ∨ kd = 4 ∨ kd = 5 ∨ kd = 6 ∨ kd = 7 ∨ kd = 8 ∨ kd = 13 ∨ kd = 9 ∨ kd = 10 ∨ kd = 11 ∨ kd = 12 ∨ kd = 14 := by
  simp [inA, kkA] at h
  omega

/-- What the play keeps: what was there is as it was. -/
structure PkA (w0 w : World) (nk nv nb K T : Nat) : Prop where
  ex : ∃ tag, PsA w tag w0.heap.size nk nv nb K T ∧ ∀ b, b < w0.heap.size → tag b = 0
  bl : Bl w0 w
theorem PkA.mono {w0 w : World} {nk nv nb K K' T T' : Nat} (h : PkA w0 w nk nv nb K T) (hK : K ≤ K') (hT : T ≤ T') : PkA w0 w nk nv nb K' T' := by
  obtain ⟨⟨tag, h1, h2⟩, h3⟩ := h
  exact ⟨⟨tag, h1.mono (Nat.le_refl _) hK hT, h2⟩, h3⟩
theorem PkA.turn {w0 w w' : World} {nk nv nb K T : Nat} (h : PkA w0 w nk nv nb K T) (hb : Bl w w') : PkA w0 w' nk nv nb K T := by
  obtain ⟨⟨tag, h1, h2⟩, h3⟩ := h
  exact ⟨⟨_, h1.bl hb 1, fun b hb' => by rw [tagTo_old _ _ _ _ (by have := h3.lt; omega)]; exact h2 b hb'⟩, h3.trans hb⟩
theorem PkA.first (w : World) : PkA w (w.alloc (.cells #[.slice none 0 0, .slice none 0 0, .slice none 0 0, .slice none 0 0, .slice none 0 0] 35)) 0 0 0 0 0 := by
  refine ⟨⟨tagTo (fun _ => 0) w.heap.size 2, ⟨.slice none 0 0, .slice none 0 0, fun _ => 0, fun _ => 0, Bt.first _ (heap_alloc_new w _) (tagTo_new _ _ _ _ (Nat.le_refl _)), ⟨World.ownsRow_nil _ _ _ _, fun b hb => by simp [Value.ownBlock] at hb⟩, ⟨World.ownsRow_nil _ _ _ _, fun b hb => by simp [Value.ownBlock] at hb⟩, fun j hj => by omega, fun j hj => by omega⟩, fun b hb => tagTo_old _ _ _ _ hb⟩, (Bl.refl w).alloc _⟩
theorem PkA.aft {w0 w w' : World} {tag : Nat → Nat} {nk nv nb K T : Nat} (h0 : ∀ b, b < w0.heap.size → tag b = 0) (hb : Bl w0 w) (h : Aft w tag w0.heap.size nk nv nb K T w') : ∃ nk' nv' nb', nk' ≤ nk + 1 ∧ nv' ≤ nv + 1 ∧ nb' ≤ nb ∧ PkA w0 w' nk' nv' nb' K T := by
  obtain ⟨⟨tag', nk', nv', nb', o, k1, k2, k3, k4⟩, O⟩ := h
  have hl := hb.lt
  exact ⟨nk', nv', nb', k2, k3, k4, ⟨tag', k1, fun b hb' => by rw [o b (by omega)]; exact h0 b hb'⟩, O.os.trans hb.os, O.tape.trans hb.tape, O.output.trans hb.output, Nat.le_trans hl O.size, fun i hi => (O.block i (by omega) fun e => e (h0 i hi)).trans (hb.heap hi)⟩
theorem pkA_new {w0 : World} (nk nv nb K T : Nat) (a b c q1 q2 q3 q4 : Int) (la : Option Addr) (ln lc : Nat) (ua : Option Addr) (un uc : Nat) (ss : List Int) (t1 t2 t3 : Int) (va : Option Addr) (vn vc : Nat) (w : World) (h : PkA w0 w nk nv nb K T) (hnk : nk < 4000000) (hnb : nb < 4000000) :
    Calls Tryz.prog 8 #[.pointer (some ⟨w0.heap.size, 0, none⟩), .agg #[.int .i64 3, .int .i64 a, .int .i64 b, .int .i64 c, .int .i64 q1, .int .i64 q2, .int .i64 q3, .int .i64 q4, .slice la ln lc, .slice ua un uc, .string (strOf ss), .int .i64 t1, .int .i64 t2, .int .i64 t3, .slice va vn vc]] w fun en w' => en = .returned (.bool true) ∧ ∃ nk' nv' nb', nk' ≤ nk + 1 ∧ nv' ≤ nv + 1 ∧ nb' ≤ nb + 1 ∧ PkA w0 w' nk' nv' nb' K T := by
  obtain ⟨⟨tag, h1, h2⟩, h3⟩ := h
  refine (stepA_new w0.heap.size nk nv nb K T tag a b c q1 q2 q3 q4 la ln lc ua un uc ss t1 t2 t3 va vn vc w h1 hnk hnb).mono ?_
  rintro en w' ⟨rfl, h⟩
  exact ⟨rfl, PkA.aft h2 h3 h⟩
theorem pkA_step {w0 : World} (kd : Int) (hkd : kd = 3 ∨ kd = 1 ∨ kd = 2 ∨ kd = 4 ∨ kd = 5 ∨ kd = 6 ∨ kd = 7 ∨ kd = 8 ∨ kd = 13 ∨ kd = 9 ∨ kd = 10 ∨ kd = 11 ∨ kd = 12 ∨ kd = 14) (nk nv nb K T : Nat) (a b c q1 q2 q3 q4 : Int) (la : Option Addr) (ln lc : Nat) (ua : Option Addr) (un uc : Nat) (ss : List Int) (t1 t2 t3 : Int) (va : Option Addr) (vn vc : Nat) (L : List (List Int)) (w : World) (h : PkA w0 w nk nv nb K T) (hnk : nk < 4000000) (hnv : nv < 4000000) (hnb : nb + L.length + 1 < 4000000) (hL : L.length ≤ 2000000) (hK : 60 * K + T + ss.length ≤ 29000000) (ha : R64 a) (hb : R64 b) (hc : R64 c) (hss : Byt ss) (h1' : R64 t1) (h2' : R64 t2) (h3' : R64 t3) (hlay : LayAt w (.slice la ln lc) (.slice ua un uc) L) :
    Calls Tryz.prog 8 #[.pointer (some ⟨w0.heap.size, 0, none⟩), .agg #[.int .i64 kd, .int .i64 a, .int .i64 b, .int .i64 c, .int .i64 q1, .int .i64 q2, .int .i64 q3, .int .i64 q4, .slice la ln lc, .slice ua un uc, .string (strOf ss), .int .i64 t1, .int .i64 t2, .int .i64 t3, .slice va vn vc]] w fun en w' => en = .returned (.bool true) ∧ ∃ nk' nv' nb', nk' ≤ nk + 1 ∧ nv' ≤ nv + 1 ∧ nb' ≤ nb + 2 + L.length ∧ PkA w0 w' nk' nv' nb' (K + 1) (T + (ss.length + L.length)) := by
  obtain ⟨⟨tag, h1, h2⟩, h3⟩ := h
  have key : ∀ nb2 K2 T2, nb2 ≤ nb + 2 + L.length → K2 ≤ K + 1 → T2 ≤ T + (ss.length + L.length) → ∀ en w', (en = Ending.returned (.bool true) ∧ Aft w tag w0.heap.size nk nv nb2 K2 T2 w') → en = Ending.returned (.bool true) ∧ ∃ nk' nv' nb', nk' ≤ nk + 1 ∧ nv' ≤ nv + 1 ∧ nb' ≤ nb + 2 + L.length ∧ PkA w0 w' nk' nv' nb' (K + 1) (T + (ss.length + L.length)) := fun nb2 K2 T2 l1 l2 l3 en w' h =>
    ⟨h.1, PkA.aft h2 h3 (h.2.mono l1 l2 l3)⟩
  have w1 := r64_wf h1'
  have w2 := r64_wf h2'
  have w3 := r64_wf h3'
  obtain ⟨ls, zs, s1, s2, s3, s4, s5, s6, s7⟩ := hlay
  rcases hkd with rfl | rfl | rfl | rfl | rfl | rfl | rfl | rfl | rfl | rfl | rfl | rfl | rfl | rfl
  · exact (stepA_new w0.heap.size nk nv nb K T tag a b c q1 q2 q3 q4 la ln lc ua un uc ss t1 t2 t3 va vn vc w h1 hnk (by omega)).mono (key _ _ _ (by omega) (by omega) (by omega))
  · exact (stepA_locate w0.heap.size nk nv nb K T tag a b c q1 q2 q3 q4 la ln lc ua un uc ss t1 t2 t3 va vn vc w h1).mono (key _ _ _ (by omega) (by omega) (by omega))
  · exact (stepA_next w0.heap.size nk nv nb K T tag a b c q1 q2 q3 q4 la ln lc ua un uc ss t1 t2 t3 va vn vc w ls L zs h1 s1 s2 s3 s4 hL s5 s6 s7 (by omega)).mono (key _ _ _ (by omega) (by omega) (by omega))
  · exact (stepAK_any 4 (by decide) w0.heap.size nk nv nb K T tag a b c q1 q2 q3 q4 la ln lc ua un uc ss t1 t2 t3 va vn vc w h1 hnk (by omega) (by omega) ha hb hc w1 w2 w3 hss).mono (key _ _ _ (by omega) (by omega) (by omega))
  · exact (stepAK_any 5 (by decide) w0.heap.size nk nv nb K T tag a b c q1 q2 q3 q4 la ln lc ua un uc ss t1 t2 t3 va vn vc w h1 hnk (by omega) (by omega) ha hb hc w1 w2 w3 hss).mono (key _ _ _ (by omega) (by omega) (by omega))
  · exact (stepAK_any 6 (by decide) w0.heap.size nk nv nb K T tag a b c q1 q2 q3 q4 la ln lc ua un uc ss t1 t2 t3 va vn vc w h1 hnk (by omega) (by omega) ha hb hc w1 w2 w3 hss).mono (key _ _ _ (by omega) (by omega) (by omega))
  · exact (stepAK_any 7 (by decide) w0.heap.size nk nv nb K T tag a b c q1 q2 q3 q4 la ln lc ua un uc ss t1 t2 t3 va vn vc w h1 hnk (by omega) (by omega) ha hb hc w1 w2 w3 hss).mono (key _ _ _ (by omega) (by omega) (by omega))
  · exact (stepAK_any 8 (by decide) w0.heap.size nk nv nb K T tag a b c q1 q2 q3 q4 la ln lc ua un uc ss t1 t2 t3 va vn vc w h1 hnk (by omega) (by omega) ha hb hc w1 w2 w3 hss).mono (key _ _ _ (by omega) (by omega) (by omega))
  · exact (stepAK_any 13 (by decide) w0.heap.size nk nv nb K T tag a b c q1 q2 q3 q4 la ln lc ua un uc ss t1 t2 t3 va vn vc w h1 hnk (by omega) (by omega) ha hb hc w1 w2 w3 hss).mono (key _ _ _ (by omega) (by omega) (by omega))
  · exact (stepA_voter w0.heap.size nk nv nb K T tag a b c q1 q2 q3 q4 la ln lc ua un uc ss t1 t2 t3 va vn vc w h1 hnv).mono (key _ _ _ (by omega) (by omega) (by omega))
  · exact (stepAV_any 10 (by decide) w0.heap.size nk nv nb K T tag a b c q1 q2 q3 q4 la ln lc ua un uc ss t1 t2 t3 va vn vc w h1 hnv (by omega) (by omega) ha hb hc hss).mono (key _ _ _ (by omega) (by omega) (by omega))
  · exact (stepAV_any 11 (by decide) w0.heap.size nk nv nb K T tag a b c q1 q2 q3 q4 la ln lc ua un uc ss t1 t2 t3 va vn vc w h1 hnv (by omega) (by omega) ha hb hc hss).mono (key _ _ _ (by omega) (by omega) (by omega))
  · exact (stepAV_any 12 (by decide) w0.heap.size nk nv nb K T tag a b c q1 q2 q3 q4 la ln lc ua un uc ss t1 t2 t3 va vn vc w h1 hnv (by omega) (by omega) ha hb hc hss).mono (key _ _ _ (by omega) (by omega) (by omega))
  · exact (stepAV_any 14 (by decide) w0.heap.size nk nv nb K T tag a b c q1 q2 q3 q4 la ln lc ua un uc ss t1 t2 t3 va vn vc w h1 hnv (by omega) (by omega) ha hb hc hss).mono (key _ _ _ (by omega) (by omega) (by omega))
theorem pkA_looks {w0 w : World} {nk nv nb K T : Nat} (h : PkA w0 w nk nv nb K T) (hnb : nb ≤ 4000000) : Calls Tryz.prog 9 #[.pointer (some ⟨w0.heap.size, 2, none⟩)] w fun e w' => e = .returned (.bool true) ∧ PkA w0 w' nk nv nb K T := by
  have h0 := h
  obtain ⟨⟨tag, ⟨kl, vl, PK, PV, hp⟩, h2⟩, h3⟩ := h
  refine (bt_looks hp.bt hnb).mono ?_
  rintro e w' ⟨rfl, hb⟩
  exact ⟨rfl, h0.turn hb⟩

set_option maxRecDepth 100000 in
set_option maxHeartbeats 4000000 in
theorem playsA_any (v : Value) (N : Nat) (b o cp kb : Nat) (Ds : List Sd3) (w : World) (hv : v = .slice (some ⟨b, o, none⟩) N cp) (hDl : Ds.length = N) (hbl : b < w.heap.size)
    (hops : ∀ k (h : k < Ds.length), OpAtA w b (o + k * 15) Ds[k].1 Ds[k].2.1 Ds[k].2.2) (hkb : kb < w.heap.size) (hk : ∀ n, n < 14 → w.cell? ⟨kb, n, none⟩ = some (.int .i64 (kkA n))) (hN : 3 * N ≤ 1048576) (hT : totA Ds ≤ 1048576) :
    Calls Tryz.prog 7 #[v, .slice (some ⟨kb, 0, none⟩) 14 14] w fun e w' => e = .returned (.bool true) ∧ Bl w w' := by
  subst hv
  have Hops := hid hops
  have Hk := hid hk
  have HDl := hid hDl
  have HT := hid hT
  have k0 : w.cell? ⟨kb, 0, none⟩ = some (.int .i64 3) := hk 0 (by omega)
  have HN := hid (pkA_new 0 0 0 0 0 1 0 0 2 2 3 3 none 0 0 none 0 0 [] 0 0 0 none 0 0 _ (PkA.first w) (by omega) (by omega))
  clear hops hDl hT hk
  rw [show strOf [] = ({ data := #[] } : ByteArray) from rfl] at HN
  go_enter Tryz.func7, Tryz.ntmps7
  go_wp2_with fail
  refine HN.out.mono ?_
  rintro e w1 ⟨rfl, nk1, nv1, nb1, l1, l2, l3, hP1⟩
  have HP1 := hid hP1
  clear hP1 HN
  go_wp2
  go_loopw [6, 7] (fun ok i wr => ∃ (k nk nv nb : Nat), k ≤ N ∧ i = .int .i64 k ∧ ok = .bool true ∧ Hid (PkA w wr nk nv nb k (totA (Ds.take k))) ∧ nk ≤ k + 1 ∧ nv ≤ k + 1 ∧ nb ≤ 2 * k + totA (Ds.take k) + 1) (fun _ i _ => N - (intOf i).toNat)
  case atStart => exact ⟨0, nk1, nv1, nb1, Nat.zero_le _, rfl, rfl, by simpa [totA] using HP1, by omega, by omega, by omega⟩
  case round =>
    clear HP1 k0
    obtain ⟨wo, rfl⟩ : ∃ wo, wo = wr := ⟨_, rfl⟩
    obtain ⟨k, nk, nv, nb, hk, rfl, rfl, HP, hnk, hnv, hnb⟩ := hrel
    by_cases hlt : k < N
    · have hk1' : k < Ds.length := by rw [HDl.out]; exact hlt
      have hop := hid (Hops.out k hk1')
      have Htot := hid (totA_succ Ds k hk1')
      have htle := totA_le Ds (k + 1)
      have hT2 := HT.out
      have hb4 : totA (Ds.take k) + wt Ds[k] ≤ 1048576 := by rw [← Htot.out]; omega
      unfold wt at hb4 Htot
      have Hb4 := hid hb4
      clear htle hT2 hb4
      generalize Ds[k].1 = kd at *
      generalize Ds[k].2.1 = ss at *
      generalize Ds[k].2.2 = L at *
      generalize htk : totA (Ds.take k) = tk at *
      generalize htk1 : totA (Ds.take (k + 1)) = tk1 at *
      have Htk1 := hid htk1
      clear htk htk1
      obtain ⟨a, bb, c, q1, q2, q3, q4, la, ln, lc, ua, un, uc, t1, t2, t3, va, vn, vcc, ⟨d0, d1, d2, d3, d4, d5, d6, d7, d8, d9, d10, d11, d12, d13, d14⟩, hS⟩ := hop.out
      have D0 := hid d0
      have HD := hid (And.intro d1 (And.intro d2 (And.intro d3 (And.intro d4 (And.intro d5 (And.intro d6 (And.intro d7 (And.intro d8 (And.intro d9 (And.intro d10 (And.intro d11 (And.intro d12 (And.intro d13 d14)))))))))))))
      have HS := hid hS
      clear hop d0 d1 d2 d3 d4 d5 d6 d7 d8 d9 d10 d11 d12 d13 d14 hS
      have hkN : (k : Int) < (N : Int) := by omega
      have hk0i : (0 : Int) ≤ (k : Int) := by omega
      go_wp2
      go_loopw [8, 9] (fun q j wr => ∃ n : Nat, n ≤ 14 ∧ j = .int .i64 n ∧ q = .bool (inA kd n) ∧ Hid (PkA w wr nk nv nb k tk)) (fun _ j _ => 14 - (intOf j).toNat)
      case atStart => exact ⟨0, by omega, rfl, rfl, HP.out⟩
      case round =>
        clear HP
        obtain ⟨n, hn, rfl, rfl, HP⟩ := hrel
        have hbw := HP.out.bl
        by_cases hn5 : n < 14
        · have g0 := (hbw.cell hbl).trans D0.out
          have y0 := (hbw.cell hkb).trans (Hk.out n hn5)
          have hnI : (n : Int) < 14 := by omega
          have hn0 : (0 : Int) ≤ (n : Int) := by omega
          clear hbw
          cases he : inA kd n with
          | true =>
            have Hee := hid he
            clear he
            go_wp2
            go_quiet (fail)
            go_wp2
            go_roundw
            case rel => exact ⟨n + 1, by omega, by go_num, by simp [inA, Hee.out], HP.out.turn ((Bl.refl _).drewN _)⟩
            case measure => simp [intOf]; omega
          | false =>
            have Hee := hid he
            clear he
            go_wp2
            go_quiet (fail)
            go_wp2
            go_roundw
            case rel => exact ⟨n + 1, by omega, by go_num, by simp [inA, Hee.out], HP.out.turn ((Bl.refl _).drewN _)⟩
            case measure => simp [intOf]; omega
        · obtain rfl : n = 14 := by omega
          cases he : inA kd 14 with
          | false =>
            have HPm := hid (HP.out.mono (Nat.le_succ k) (T' := tk1) (by have := Htot.out; omega))
            have htt := Htot.out
            clear he hbw
            go_wp2
            go_roundw
            case rel => exact ⟨k + 1, nk, nv, nb, by omega, by go_num, rfl, by rw [Htk1.out]; exact HPm, by omega, by omega, by rw [Htk1.out]; omega⟩
            case measure => simp [intOf]; omega
          | true =>
            have hkd := inA_all kd he
            have g0 := (hbw.cell hbl).trans D0.out
            obtain ⟨d1, d2, d3, d4, d5, d6, d7, d8, d9, d10, d11, d12, d13, d14⟩ := HD.out
            have g1 := (hbw.cell hbl).trans d1
            have g2 := (hbw.cell hbl).trans d2
            have g3 := (hbw.cell hbl).trans d3
            have g4 := (hbw.cell hbl).trans d4
            have g5 := (hbw.cell hbl).trans d5
            have g6 := (hbw.cell hbl).trans d6
            have g7 := (hbw.cell hbl).trans d7
            have g8 := (hbw.cell hbl).trans d8
            have g9 := (hbw.cell hbl).trans d9
            have g10 := (hbw.cell hbl).trans d10
            have g11 := (hbw.cell hbl).trans d11
            have g12 := (hbw.cell hbl).trans d12
            have g13 := (hbw.cell hbl).trans d13
            have g14 := (hbw.cell hbl).trans d14
            have HStep : Hid (Calls Tryz.prog 8 #[.pointer (some ⟨w.heap.size, 0, none⟩), .agg #[.int .i64 kd, .int .i64 a, .int .i64 bb, .int .i64 c, .int .i64 q1, .int .i64 q2, .int .i64 q3, .int .i64 q4, .slice la ln lc, .slice ua un uc, .string (strOf ss), .int .i64 t1, .int .i64 t2, .int .i64 t3, .slice va vn vcc]] wr fun en w' => en = .returned (.bool true) ∧ ∃ nk' nv' nb', nk' ≤ nk + 1 ∧ nv' ≤ nv + 1 ∧ nb' ≤ nb + 2 + L.length ∧ PkA w w' nk' nv' nb' (k + 1) tk1) := by
              have hb4 := Hb4.out
              have htt := Htot.out
              obtain ⟨s1, s2, s3, s4, s5, s6, s7, s8⟩ := HS.out
              rw [htt]
              exact pkA_step kd hkd nk nv nb k tk a bb c q1 q2 q3 q4 la ln lc ua un uc ss t1 t2 t3 va vn vcc L wr HP.out (by omega) (by omega) (by omega) (by omega) (by omega) s1 s2 s3 s4 s5 s6 s7 (s8.bl HP.out.bl)
            clear d1 d2 d3 d4 d5 d6 d7 d8 d9 d10 d11 d12 d13 d14 hkd he hbw HP
            go_wp2_with fail
            refine HStep.out.mono ?_
            rintro e w2 ⟨rfl, nk2, nv2, nb2, l1, l2, l3, hP2⟩
            have htt := Htot.out
            have hb4 := Hb4.out
            have HLk := hid (pkA_looks hP2 (by omega))
            clear g0 g1 g2 g3 g4 g5 g6 g7 g8 g9 g10 g11 g12 g13 g14 HStep hP2
            go_wp2_with fail
            refine HLk.out.mono ?_
            rintro e w3 ⟨rfl, hP3⟩
            have HP3 := hid hP3
            clear hP3 HLk
            go_wp2
            go_roundw
            case rel => exact ⟨k + 1, nk2, nv2, nb2, by omega, by go_num, rfl, by rw [Htk1.out]; exact HP3, by omega, by omega, by rw [Htk1.out]; omega⟩
            case measure => simp [intOf]; omega
    · have hbl' := HP.out.bl
      clear HP
      go_wp2
      go_ret
      exact ⟨rfl, hbl'⟩
end Go.Proofs.YtkgjpfamjedncaaGreat

namespace Go.Proofs.YtkgjpfamjedncaaGreat
open Go.RowKit Go.Maps
attribute [local go_sem ↓] Go.wp_at_zero Go.wp_at_succ

set_option maxRecDepth 100000 in
set_option maxHeartbeats 1000000 in
theorem playsA_zero (a : Option Addr) (cp : Nat) (kb : Nat) (w : World) (hkb : kb < w.heap.size) (hk0 : w.cell? ⟨kb, 0, none⟩ = some (.int .i64 3)) :
    Calls Tryz.prog 7 #[.slice a 0 cp, .slice (some ⟨kb, 0, none⟩) 14 14] w fun e w' => e = .returned (.bool true) ∧ Bl w w' := by
  have HN := hid (pkA_new 0 0 0 0 0 1 0 0 2 2 3 3 none 0 0 none 0 0 [] 0 0 0 none 0 0 _ (PkA.first w) (by omega) (by omega))
  rw [show strOf [] = ({ data := #[] } : ByteArray) from rfl] at HN
  go_enter Tryz.func7, Tryz.ntmps7
  go_wp2_with fail
  refine HN.out.mono ?_
  rintro e w1 ⟨rfl, nk1, nv1, nb1, l1, l2, l3, hP1⟩
  have hb1 := hid hP1.bl
  clear hP1 HN
  go_wp2
  refine wp_loop_rounds 1 ?_; rw [rounds_succ]; go_wp2
  go_ret
  exact ⟨rfl, hb1.out⟩

/-- The script as it is read. -/
def ScriptAtA (w : World) (v : Value) : Prop :=
  (∃ a c, v = .slice a 0 c) ∨ ∃ (N b o cp : Nat) (Ds : List Sd3), v = .slice (some ⟨b, o, none⟩) N cp ∧ Ds.length = N ∧ b < w.heap.size ∧ (∀ k (h : k < Ds.length), OpAtA w b (o + k * 15) Ds[k].1 Ds[k].2.1 Ds[k].2.2) ∧ 3 * N ≤ 1048576 ∧ totA Ds ≤ 1048576

set_option maxRecDepth 100000 in
set_option maxHeartbeats 1000000 in
theorem all_any (v : Value) (w : World) (hv : ScriptAtA w v) :
    Calls Tryz.prog 6 #[v] w fun e w' => e = .returned (.bool true) ∧ Bl w w' := by
  have bK := (Bl.refl w).alloc (.cells #[.int .i64 3, .int .i64 1, .int .i64 2, .int .i64 4, .int .i64 5, .int .i64 6, .int .i64 7, .int .i64 8, .int .i64 13, .int .i64 9, .int .i64 10, .int .i64 11, .int .i64 12, .int .i64 14] 3)
  have hK := heap_alloc_new w (.cells #[.int .i64 3, .int .i64 1, .int .i64 2, .int .i64 4, .int .i64 5, .int .i64 6, .int .i64 7, .int .i64 8, .int .i64 13, .int .i64 9, .int .i64 10, .int .i64 11, .int .i64 12, .int .i64 14] 3)
  have K0 : Hid (∀ n, n < 14 → (w.alloc (.cells #[.int .i64 3, .int .i64 1, .int .i64 2, .int .i64 4, .int .i64 5, .int .i64 6, .int .i64 7, .int .i64 8, .int .i64 13, .int .i64 9, .int .i64 10, .int .i64 11, .int .i64 12, .int .i64 14] 3)).cell? ⟨w.heap.size, n, none⟩ = some (.int .i64 (kkA n))) := fun n hn => by
    rw [cell_of_row _ w.heap.size n _ 3 (0, 0) hK]
    match n, hn with
    | 0, _ => rfl
    | 1, _ => rfl
    | 2, _ => rfl
    | 3, _ => rfl
    | 4, _ => rfl
    | 5, _ => rfl
    | 6, _ => rfl
    | 7, _ => rfl
    | 8, _ => rfl
    | 9, _ => rfl
    | 10, _ => rfl
    | 11, _ => rfl
    | 12, _ => rfl
    | 13, _ => rfl
  have lK : Hid (w.heap.size < (w.alloc (.cells #[.int .i64 3, .int .i64 1, .int .i64 2, .int .i64 4, .int .i64 5, .int .i64 6, .int .i64 7, .int .i64 8, .int .i64 13, .int .i64 9, .int .i64 10, .int .i64 11, .int .i64 12, .int .i64 14] 3)).heap.size) := by rw [Hid]; simp
  have BK := hid bK
  clear hK bK
  rcases hv with ⟨a, c, rfl⟩ | ⟨N, b, o, cp, Ds, rfl, h1, h3, h4, h5, h6⟩
  · go_enter Tryz.func6, Tryz.ntmps6
    go_wp2_with fail
    refine (playsA_zero a c w.heap.size _ lK.out (K0.out 0 (by omega))).mono ?_
    rintro e w1 ⟨rfl, b1⟩
    go_wp2
    go_ret
    exact ⟨rfl, BK.out.trans b1⟩
  · have H4 := hid h4
    have H6 := hid h6
    have H1 := hid h1
    clear h1 h4 h6
    go_enter Tryz.func6, Tryz.ntmps6
    go_wp2_with fail
    refine (playsA_any _ N b o cp w.heap.size Ds _ rfl H1.out (Nat.lt_of_lt_of_le h3 BK.out.lt) (fun k h => (H4.out k h).bl h3 BK.out) lK.out K0.out h5 H6.out).mono ?_
    rintro e w1 ⟨rfl, b1⟩
    go_wp2
    go_ret
    exact ⟨rfl, BK.out.trans b1⟩
end Go.Proofs.YtkgjpfamjedncaaGreat
