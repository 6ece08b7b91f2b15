/-
  The steps; what is in the book lies in the heap.
-/
import Derived.Test.YtkgjpfamjedncaaGreatFree
namespace Go.Proofs.YtkgjpfamjedncaaGreat
open Go.RowKit

set_option maxRecDepth 100000 in
set_option maxHeartbeats 1000000 in
theorem stepLocate_any (bw : Nat) (a b c q1 q2 q3 q4 : Int) (la : Option Addr) (ln lc : Nat) (ua : Option Addr) (un uc : Nat) (s : ByteArray) (t1 t2 t3 : Int) (va : Option Addr) (vn vc : Nat) (w : World) :
    Calls Tryz.prog 8 #[.pointer (some ⟨bw, 0, none⟩), .agg #[.int .i64 1, .int .i64 a, .int .i64 b, .int .i64 c, .int .i64 q1, .int .i64 q2, .int .i64 q3, .int .i64 q4, .slice la ln lc, .slice ua un uc, .string s, .int .i64 t1, .int .i64 t2, .int .i64 t3, .slice va vn vc]] w fun e w' => e = .returned (.bool true) ∧ Bl w w' := by
  go_enter Tryz.func8, Tryz.ntmps8
  go_wp2_with fail
  refine (freeLocate_any bw a b c q1 q2 q3 q4 la ln lc ua un uc s t1 t2 t3 va vn vc _).mono ?_
  rintro e w1 ⟨rfl, b1⟩
  go_wp2
  go_ret
  exact ⟨rfl, ((Bl.refl _).alloc _).trans b1⟩

set_option maxRecDepth 100000 in
set_option maxHeartbeats 1000000 in
theorem stepNext_any (B0 bw : Nat) (vi vcc : Value) (ni nc : Nat) (xi xc : List Value) (a b c q1 q2 q3 q4 : Int) (la : Option Addr) (ln lc : Nat) (ua : Option Addr) (un uc : Nat) (ls : List Value) (L : List (List Int)) (zs : List Int) (s : ByteArray) (t1 t2 t3 : Int) (va : Option Addr) (vn vc : Nat) (w : World)
    (hB : Book B0 w bw vi vcc ni nc xi xc) (hfree : ∀ u ∈ xi ++ xc, ∀ b, u.ownBlock = some b → b < w.heap.size)
    (hlay : Sl w (.slice la ln lc) ls) (hll : ls.length = L.length) (hrows : ∀ i (h : i < ls.length) (h' : i < L.length), Sl w ls[i] (L[i].map (Value.int .i64))) (hl : Sl w (.slice ua un uc) (zs.map (Value.int .i64)))
    (hL : L.length ≤ 2000000) (hLs : ∀ c ∈ L, c.length ≤ 4000000 ∧ wfAll c) (hz : zs.length ≤ 4000000) (hzw : wfAll zs) (hni : ni + L.length < 4000000) (hnc : nc < 4000000) :
    Calls Tryz.prog 8 #[.pointer (some ⟨bw, 0, none⟩), .agg #[.int .i64 2, .int .i64 a, .int .i64 b, .int .i64 c, .int .i64 q1, .int .i64 q2, .int .i64 q3, .int .i64 q4, .slice la ln lc, .slice ua un uc, .string s, .int .i64 t1, .int .i64 t2, .int .i64 t3, .slice va vn vc]] w fun e w' =>
      ∃ vi' vc' xi' xc', e = .returned (.bool true) ∧ Book B0 w' bw vi' vc' (ni + (nres L a zs).length) (nc + 1) xi' xc' ∧ Only (fun b => B0 ≤ b) w w' := by
  have HB := hid hB
  have Hfree := hid hfree
  have Hlay := hid hlay
  have Hrows := hid hrows
  have Hl := hid hl
  have HLs := hid hLs
  have Hll := hid hll
  have Hzw := hid hzw
  clear hB hfree hlay hrows hl hLs hll hzw
  go_enter Tryz.func8, Tryz.ntmps8
  go_wp2_with fail
  have bB := (Bl.refl w).alloc (.cells #[.int .i64 2, .int .i64 a, .int .i64 b, .int .i64 c, .int .i64 q1, .int .i64 q2, .int .i64 q3, .int .i64 q4, .slice la ln lc, .slice ua un uc, .string s, .int .i64 t1, .int .i64 t2, .int .i64 t3, .slice va vn vc] 44)
  refine (freeNext_any B0 bw vi vcc ni nc xi xc a b c q1 q2 q3 q4 _ ls L _ zs s t1 t2 t3 va vn vc _ (HB.out.bl bB) (fun u hu b hb => Nat.lt_of_lt_of_le (Hfree.out u hu b hb) bB.lt) (Hlay.out.bl bB) Hll.out (fun i h h' => (Hrows.out i h h').bl bB) (Hl.out.bl bB) hL HLs.out hz Hzw.out hni hnc).mono ?_
  rintro e w1 ⟨vi', vc', xi', xc', rfl, hB8, hO8⟩
  have HB8 := hid hB8
  have HO8 := hid ((Only.of_bl bB).trans hO8)
  clear hB8 hO8 bB
  go_wp2
  go_ret
  exact ⟨_, _, _, _, rfl, HB8.out, HO8.out⟩

/-- All that is in the book lies in the heap. -/
theorem Book.used {B0 : Nat} {w : World} {bw : Nat} {vi vc : Value} {ni nc : Nat} {xi xc : List Value} (h : Book B0 w bw vi vc ni nc xi xc) : ∀ u ∈ xi ++ xc, ∀ b, u.ownBlock = some b → b < w.heap.size := by
  intro u hu b hb
  rcases List.mem_append.1 hu with hu | hu
  · obtain ⟨i, hi, rfl⟩ := List.mem_iff_getElem.1 hu
    have hl : xi.length = ni * 5 := h.oi.1
    obtain ⟨n, v, o1, o2, o3, hn, e0, e1, e2, e3, e4, hm⟩ := h.ei (i / 5) (by omega)
    have hg := List.getElem?_eq_getElem hi
    have hcase : i = i / 5 * 5 ∨ i = i / 5 * 5 + 1 ∨ i = i / 5 * 5 + 2 ∨ i = i / 5 * 5 + 3 ∨ i = i / 5 * 5 + 4 := by omega
    rcases hcase with e | e | e | e | e
    · rw [← e, hg] at e0; simp at e0; rw [e0] at hb; exact (hm.h0.lt b hb).2
    · rw [← e, hg] at e1; simp at e1; rw [e1] at hb; exact (hm.h1.lt b hb).2
    · rw [← e, hg] at e2; simp at e2; rw [e2] at hb; exact (hm.h2.lt b hb).2
    · rw [← e, hg] at e3; simp at e3; rw [e3] at hb; exact (hm.h3.lt b hb).2
    · rw [← e, hg] at e4; simp at e4; rw [e4] at hb; simp [Value.ownBlock] at hb
  · obtain ⟨i, hi, rfl⟩ := List.mem_iff_getElem.1 hu
    have hl : xc.length = nc * 5 := h.oc.1
    obtain ⟨n, v, o1, o2, o3, M, hn, e0, e1, e2, e3, e4, hm, hM⟩ := h.ec (i / 5) (by omega)
    have hg := List.getElem?_eq_getElem hi
    have hcase : i = i / 5 * 5 ∨ i = i / 5 * 5 + 1 ∨ i = i / 5 * 5 + 2 ∨ i = i / 5 * 5 + 3 ∨ i = i / 5 * 5 + 4 := by omega
    rcases hcase with e | e | e | e | e
    · rw [← e, hg] at e0; simp at e0; rw [e0] at hb; exact (hm.h0.lt b hb).2
    · rw [← e, hg] at e1; simp at e1; rw [e1] at hb; exact (hm.h1.lt b hb).2
    · rw [← e, hg] at e2; simp at e2; rw [e2] at hb; exact (hm.h2.lt b hb).2
    · rw [← e, hg] at e3; simp at e3; rw [e3] at hb; exact (hm.h3.lt b hb).2
    · rw [← e, hg] at e4; simp at e4; rw [e4] at hb; simp [Value.ownBlock] at hb; subst hb; exact (Array.getElem?_eq_some_iff.1 hM).1
end Go.Proofs.YtkgjpfamjedncaaGreat
