-- OpenCells.
import Derived.Test.YtbghhbpacijmmaaOpen
namespace Go.Proofs.Ytbghhbpacijmmaa
open Go.RowKit
attribute [local go_sem ↓] Go.wp_at_zero Go.wp_at_succ

/-- The bytes of an image, cut at n, lie in a slice. -/
structure Cut (w : World) (ad : Option Addr) (n c : Nat) (rs : List Rc) : Prop where
  n1 : n ≤ (flat rs).length
  nc : n ≤ c
  c1 : c ≤ 9223372036854775807
  lies : ∃ b o, (0 < n → ad = some ⟨b, o, none⟩ ∧ b < w.heap.size) ∧ ∀ j d, j < n → (flat rs)[j]? = some d → w.cell? ⟨b, o + j, none⟩ = some (B8 d)
theorem Cut.bl {w w' : World} {ad : Option Addr} {n c : Nat} {rs : List Rc} (h : Cut w ad n c rs) (hb : Bl w w') : Cut w' ad n c rs := by
  obtain ⟨h1, h2, h3, b, o, h4, h5⟩ := h
  refine ⟨h1, h2, h3, b, o, fun hn => ⟨(h4 hn).1, Nat.lt_of_lt_of_le (h4 hn).2 hb.lt⟩, fun j d hj hd => ?_⟩
  rw [hb.cell (h4 (by omega)).2]; exact h5 j d hj hd

theorem Bl.of_only {w w2 w' : World} {p : Nat} (h : Bl w w2) (ho : Only (fun b => b = p) w2 w') (hp : w.heap.size ≤ p) : Bl w w' := h.trans_only ho (fun n e => by omega)

set_option maxRecDepth 100000 in
set_option maxHeartbeats 4000000 in
theorem open_any (a b c d u ch : Int) (ad : Option Addr) (n cc : Nat) (rs : List Rc) (S : Nat → St) (w : World) (hch : cha a b c d u = (ch, 0)) (hw : Way a b c d ch rs S) (hl : (flat rs).length ≤ 30000000) (hd : Cut w ad n cc rs) :
    Calls Try.prog 31 #[.agg #[.int .i64 a, .int .i64 b, .int .i64 c, .int .i64 d], .int .i64 u, .slice ad n cc] w fun e w' => ∃ k p K, e = .returned (.tuple #[.pointer (some ⟨p, 0, none⟩), .int .i64 0]) ∧ k ≤ rs.length ∧ off rs k ≤ n ∧ (∀ h : k < rs.length, n < off rs k + rs[k].bytes.length) ∧ w.heap.size ≤ p ∧ Ks w.heap.size w' p a b c d ch (S k).ep (S k).mark (S k).ct (flat (rs.take k)) K ∧ (k = 0 → ∀ B, Ks B w' p a b c d ch (S k).ep (S k).mark (S k).ct (flat (rs.take k)) K) ∧ Bl w w' := by
  have bA := hid ((Bl.refl w).alloc (.cells #[.int .i64 a, .int .i64 b, .int .i64 c, .int .i64 d] 24))
  have Hch : Hid (∀ W, Calls Try.prog 48 #[.agg #[.int .i64 a, .int .i64 b, .int .i64 c, .int .i64 d], .int .i64 u] W fun e w' => e = .returned (.tuple #[.int .i64 ch, .int .i64 0]) ∧ Bl W w') := fun W => by
    have := chain_any a b c d u W
    rw [hch] at this
    exact this
  have Hw := hid hw
  have Hd := hid hd
  clear hch hw hd
  go_enter Try.func31, Try.ntmps31
  go_wp2_with fail
  refine (Hch.out _).mono ?_
  rintro e w1 ⟨rfl, hb1⟩
  have g0 := (hb1.cell (o := 0) (by simp)).trans (cell_of_row _ _ 0 _ 24 (0, 0) (heap_alloc_new w _))
  have g1 := (hb1.cell (o := 1) (by simp)).trans (cell_of_row _ _ 1 _ 24 (0, 0) (heap_alloc_new w _))
  have g2 := (hb1.cell (o := 2) (by simp)).trans (cell_of_row _ _ 2 _ 24 (0, 0) (heap_alloc_new w _))
  have g3 := (hb1.cell (o := 3) (by simp)).trans (cell_of_row _ _ 3 _ 24 (0, 0) (heap_alloc_new w _))
  simp at g0 g1 g2 g3
  have HB1 := hid (bA.out.trans hb1)
  clear hb1
  have HF := hid (heap_alloc_new w1 (.cells (((((Try.zeroCells68.setIfInBounds 0 (.int .i64 a)).setIfInBounds 1 (.int .i64 b)).setIfInBounds 2 (.int .i64 c)).setIfInBounds 3 (.int .i64 d)).setIfInBounds 4 (.int .i64 ch)) 68))
  have bB := hid ((Bl.refl w1).alloc (.cells (((((Try.zeroCells68.setIfInBounds 0 (.int .i64 a)).setIfInBounds 1 (.int .i64 b)).setIfInBounds 2 (.int .i64 c)).setIfInBounds 3 (.int .i64 d)).setIfInBounds 4 (.int .i64 ch)) 68))
  obtain ⟨K0, HK0⟩ := Ks.fresh a b c d ch
  have HK0 := hid HK0
  go_wp2
  have HO : Hid (∀ W bs, w1.heap.size < W.heap.size → Bl w W → W.heap[w1.heap.size]? = some (.cells (((((Try.zeroCells68.setIfInBounds 0 (.int .i64 a)).setIfInBounds 1 (.int .i64 b)).setIfInBounds 2 (.int .i64 c)).setIfInBounds 3 (.int .i64 d)).setIfInBounds 4 (.int .i64 ch)) 68 (0, 0)) → Shapes W bs 0 shs → Calls Try.prog 39 #[.pointer (some ⟨w1.heap.size, 71, none⟩), .slice ad n cc, .slice (some ⟨bs, 0, none⟩) 3 3, .func (.func 50) #[.pointer (some ⟨w1.heap.size, 0, none⟩)] #[]] W fun e w' => ∃ k K, e = .returned (.bool true) ∧ k ≤ rs.length ∧ off rs k ≤ n ∧ (∀ h : k < rs.length, n < off rs k + rs[k].bytes.length) ∧ Ks w.heap.size w' w1.heap.size a b c d ch (S k).ep (S k).mark (S k).ct (flat (rs.take k)) K ∧ (k = 0 → ∀ B, Ks B w' w1.heap.size a b c d ch (S k).ep (S k).mark (S k).ct (flat (rs.take k)) K) ∧ Bl w w') := by
    intro W bs hlt hW hh hsh
    obtain ⟨h1, h2, h3, b', o', h4, h5⟩ := Hd.out.bl hW
    refine (imgOpen_any (.pointer (some ⟨w1.heap.size, 0, none⟩)) w1.heap.size 71 ad b' o' cc n bs 0 3 rs shs W _ (doing (p := w1.heap.size) Hw.out hl W.heap.size) (fun w2 hb2 => ?_) h1 h2 (Nat.le_trans h1 hl) h3 h4 h5 hsh (by decide) Hw.out.ok).mono ?_
    · have hh2 := (hb2.heap hlt).trans hh
      have hk := HK0.out w2.heap.size w2 w1.heap.size hh2
      refine ⟨⟨K0, ?_, ?_⟩, Only.refl _ _, ⟨K0, hk.at'⟩⟩
      · rw [Hw.out.zero]
        exact hk
      · intro _ B
        rw [Hw.out.zero]
        exact HK0.out B w2 w1.heap.size hh2
    · rintro e w' ⟨k, w2, rfl, r1, r2, r3, hb2, ⟨K, hK, hz⟩, hO, _⟩
      exact ⟨k, K, rfl, r1, r2, r3, hK.base (Nat.le_trans hW.lt hb2.lt), hz, (hW.trans hb2).of_only hO HB1.out.lt⟩
  have HSh : Hid (∀ W, Bl (w1.alloc (.cells (((((Try.zeroCells68.setIfInBounds 0 (.int .i64 a)).setIfInBounds 1 (.int .i64 b)).setIfInBounds 2 (.int .i64 c)).setIfInBounds 3 (.int .i64 d)).setIfInBounds 4 (.int .i64 ch)) 68)) W → W.heap.size = w1.heap.size + 1 → Calls Try.prog 49 #[] W fun e w3 => e = .returned (.slice (some ⟨w1.heap.size + 1, 0, none⟩) 3 3) ∧ Calls Try.prog 39 #[.pointer (some ⟨w1.heap.size, 71, none⟩), .slice ad n cc, .slice (some ⟨w1.heap.size + 1, 0, none⟩) 3 3, .func (.func 50) #[.pointer (some ⟨w1.heap.size, 0, none⟩)] #[]] w3 fun e w' => ∃ k K, e = .returned (.bool true) ∧ k ≤ rs.length ∧ off rs k ≤ n ∧ (∀ h : k < rs.length, n < off rs k + rs[k].bytes.length) ∧ Ks w.heap.size w' w1.heap.size a b c d ch (S k).ep (S k).mark (S k).ct (flat (rs.take k)) K ∧ (k = 0 → ∀ B, Ks B w' w1.heap.size a b c d ch (S k).ep (S k).mark (S k).ct (flat (rs.take k)) K) ∧ Bl w w') := by
    intro W hW hsz
    refine (shapes_any W).mono ?_
    rw [hsz]
    rintro e w3 ⟨rfl, hs3, hb3⟩
    have hlt : w1.heap.size < W.heap.size := by omega
    exact ⟨rfl, HO.out _ _ (Nat.lt_of_lt_of_le hlt hb3.lt) (((HB1.out.trans bB.out).trans hW).trans hb3) ((hb3.heap hlt).trans ((hW.heap (by simp)).trans HF.out)) hs3⟩
  clear HO
  go_region_with (first
    | (go_at_call 49; refine (HSh.out _ (by exact (Bl.refl _).drewN _) (by simp)).mono ?_; rintro e w3 ⟨rfl, hs3⟩; have HS3 := hid hs3; clear hs3)
    | (go_at_call 39; refine HS3.out.mono ?_; rintro e w4 ⟨k, K, rfl, r1, r2, r3, r4, r6, r5⟩; have R6 := hid r6; have R1 := hid r1; have R2 := hid r2; have R3 := hid r3; have R4 := hid r4; have R5 := hid r5; clear r1 r2 r3 r4 r5 r6))
  all_goals
    go_wp2
    go_ret2
    exact ⟨k, _, K, rfl, R1.out, R2.out, R3.out, HB1.out.lt, R4.out, R6.out, R5.out⟩
end Go.Proofs.Ytbghhbpacijmmaa
