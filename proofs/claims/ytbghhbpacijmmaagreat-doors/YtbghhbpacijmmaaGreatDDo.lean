-- What a client's doors let in: an append, and what is told of it.
import Derived.Test.YtbghhbpacijmmaaGreatDNo
import Derived.Deep.DeepCutAuto
namespace Go.Proofs.YtbghhbpacijmmaaGreat
open Go.RowKit
attribute [local go_sem ↓] Go.wp_at_zero Go.wp_at_succ

theorem Tryz.info43 : (Tryz.prog.info? 43).map (fun i => (i.zero, i.size, i.bytes)) = some (some (.agg #[.int .i64 0, .int .i64 0, .slice none 0 0]), 3, 40) := by kernel_rfl

theorem len98 (w : World) (bm : Nat) (ps : List Nat) (hb : w.heap[bm]? = some (.map (ents ps) ps.length)) : (Builtin.len_ #[98] 3 #[.map (some bm)]).run Tryz.prog w = .ok (.int .i64 ps.length) w := by
  have h := run_len_map (P := Tryz.prog) w 98 3 bm (ents ps) ps.length (by kernel_rfl) hb
  rw [ents_size] at h
  exact h

section
variable {p bm : Nat} {a b c d id : Int} {rs : Value} {ps : List Nat} {K : Nat → Value}
theorem Cs.shape {w : World} (h : Cs w p bm a b c d id rs ps K) : ∃ ad cc, rs = .slice ad ps.length cc := by
  rcases h.own.2 with ⟨rfl, h0⟩ | ⟨g, cap, cur, rfl, _⟩
  · exact ⟨_, _, by rw [h0]⟩
  · exact ⟨_, _, rfl⟩

set_option maxRecDepth 100000 in
set_option maxHeartbeats 1000000 in
theorem begin_full (w : World) (h : Cs w p bm a b c d id rs ps K) (k : Int) (hn : ps.length = 8) :
    Calls Tryz.prog 86 #[.pointer (some ⟨p, 0, none⟩), .int .i64 k] w fun e w' => e = .returned (.tuple #[.pointer none, .int .i64 7]) ∧ w' = w := by
  have h8 := h.c8
  have hl := len98 w bm ps h.mp
  rw [hn] at hl
  clear h
  go_enter Tryz.func86, Tryz.ntmps86
  go_wp2
  go_ret2
  exact ⟨rfl, rfl⟩

set_option maxRecDepth 100000 in
set_option maxHeartbeats 1000000 in
theorem append_full_in (w : World) (h : Cs w p bm a b c d id rs ps K) (ad : Option Addr) (cc : Nat) (hn : ps.length = 8) :
    Calls Tryz.prog 45 #[.pointer (some ⟨p, 0, none⟩), .slice ad 1 cc] w fun e w' => e = .returned (.tuple #[.int .i64 0, .int .i64 7]) ∧ w' = w := by
  have HB := hid (begin_full w h 1 hn)
  clear h
  go_enter Tryz.func45, Tryz.ntmps45
  go_wp2_with fail
  refine HB.out.mono ?_
  rintro e w' ⟨rfl, rfl⟩
  go_wp2
  go_ret2
  exact ⟨rfl, rfl⟩

set_option maxRecDepth 100000 in
set_option maxHeartbeats 1000000 in
theorem append_full (w : World) (h : Cs w p bm a b c d id rs ps K) (ad : Option Addr) (cc : Nat) (hn : ps.length = 8) :
    Calls Tryz.prog 18 #[.pointer (some ⟨p, 0, none⟩), .slice ad 1 cc] w fun e w' => e = .returned (.tuple #[.int .i64 0, .int .i64 7]) ∧ w' = w := by
  have HB := hid (append_full_in w h ad cc hn)
  clear h
  go_enter Tryz.func18, Tryz.ntmps18
  go_wp2_with fail
  refine HB.out.mono ?_
  rintro e w' ⟨rfl, rfl⟩
  go_wp2
  go_ret2
  exact ⟨rfl, rfl⟩

set_option maxRecDepth 100000 in
set_option maxHeartbeats 1000000 in
theorem read_full_in (w : World) (h : Cs w p bm a b c d id rs ps K) (hf : fit a b c d = true) (hn : ps.length = 8) :
    Calls Tryz.prog 46 #[.pointer (some ⟨p, 0, none⟩), .int .i64 0] w fun e w' => e = .returned (.tuple #[.int .i64 0, .int .i64 7]) ∧ Bl w w' := by
  have h0 := h.c0
  have h1 := h.c1
  have h2 := h.c2
  have h3 := h.c3
  obtain ⟨f1, f2, f3, f4⟩ := fit_bd hf
  have hm := mul_bd f1 f2 f3 f4
  have hl : loc a b c d 0 = (0, 0, 0) := by
    have : ¬ a * d ≤ 0 := by omega
    simp [loc, hf, this]
  have HL : Hid (∀ w, Calls Tryz.prog 88 #[.agg #[.int .i64 a, .int .i64 b, .int .i64 c, .int .i64 d], .int .i64 0] w fun e w' => e = .returned (.tuple #[.int .i64 0, .int .i64 0, .int .i64 0]) ∧ Bl w w') := fun w => (locate_any a b c d 0 w).mono (by rintro e w' ⟨rfl, hb⟩; exact ⟨by rw [hl]; rfl, hb⟩)
  have HB := hid (fun w' (hb : Bl w w') => begin_full w' (h.bl hb) 2 hn)
  clear hf h hl hm
  go_enter Tryz.func46, Tryz.ntmps46
  go_wp2_with fail
  refine (HL.out _).mono ?_
  rintro e w1 ⟨rfl, hb⟩
  go_wp2_with fail
  refine (HB.out _ hb).mono ?_
  rintro e w2 ⟨rfl, rfl⟩
  go_wp2
  go_ret2
  exact ⟨rfl, hb⟩

set_option maxRecDepth 100000 in
set_option maxHeartbeats 1000000 in
theorem read_full (w : World) (h : Cs w p bm a b c d id rs ps K) (hf : fit a b c d = true) (hn : ps.length = 8) :
    Calls Tryz.prog 19 #[.pointer (some ⟨p, 0, none⟩), .int .i64 0] w fun e w' => e = .returned (.tuple #[.int .i64 0, .int .i64 7]) ∧ Bl w w' := by
  have HB := hid (read_full_in w h hf hn)
  clear h
  go_enter Tryz.func19, Tryz.ntmps19
  go_wp2_with fail
  refine HB.out.mono ?_
  rintro e w' ⟨rfl, hb⟩
  go_wp2
  go_ret2
  exact ⟨rfl, hb⟩

theorem zs_flat (n i : Nat) (h : i < n) (g cap : Nat) {w : World} (ho : w.ownsRow 0 43 3 (.slice (some ⟨g, 0, none⟩) n cap) n (zs n)) : w.cell? ⟨g, i * 3, none⟩ = some (.int .i64 0) ∧ w.cell? ⟨g, i * 3 + 1, none⟩ = some (.int .i64 0) ∧ w.cell? ⟨g, i * 3 + 2, none⟩ = some (.slice none 0 0) := by
  obtain ⟨h1, h2, h3⟩ := zs_at n i h
  have hl := zs_len n
  rw [Nat.mul_comm i 3]
  exact ⟨by rw [ho.cellAt (3 * i) (by omega)]; exact h1, by rw [ho.cellAt (3 * i + 1) (by omega)]; exact h2, by rw [ho.cellAt (3 * i + 2) (by omega)]; exact h3⟩
end
end Go.Proofs.YtbghhbpacijmmaaGreat
