/-
  The document's own voter: Accept.
-/
import Derived.Test.YtkgjpfamjedncaaGreatRefP
namespace Go.Proofs.YtkgjpfamjedncaaGreat
open Go.RowKit
attribute [local go_sem ↓] Go.wp_at_zero Go.wp_at_succ

set_option maxRecDepth 100000 in
set_option maxHeartbeats 1000000 in
theorem refAccLow_any (y : Nat) (e b : Int) (va : Option Addr) (vn vc : Nat) (w : World) (he : e < 1) :
    Calls Tryz.prog 55 #[.pointer (some ⟨y, 0, none⟩), .int .i64 e, .int .i64 b, .slice va vn vc] w fun en w' => en = .returned (voteR 6 0 0 (.slice none 0 0)) ∧ Bl w w' := by
  go_enter Tryz.func55, Tryz.ntmps55
  go_wp2
  have bB := (Bl.refl w).alloc (.cells #[.int .i64 6, .int .i64 0, .int .i64 0, .slice none 0 0] 105)
  exact bodyPost_ret (v := voteR 6 0 0 (.slice none 0 0)) (by simp [results, Tryz.results55, go_sem, voteR]) rfl ⟨rfl, bB⟩

set_option maxRecDepth 100000 in
set_option maxHeartbeats 2000000 in
theorem refAccNo_any (B0 y : Nat) (lv : Value) (n : Nat) (F : Nat → Sq) (E : Int → Ep) (e b : Int) (va : Option Addr) (vn vc : Nat) (w : World) (h : Rw B0 w y lv n F) (hl : Rl n F E) (he : 1 ≤ e) (hn : n ≤ 4000000) (hB : B0 ≤ w.heap.size) (hvn : vn ≤ 40000000) (hno : b < 1 ∨ b < (E e).pr ∨ ¬ (1 ≤ vn ∧ vn ≤ 255)) :
    Calls Tryz.prog 55 #[.pointer (some ⟨y, 0, none⟩), .int .i64 e, .int .i64 b, .slice va vn vc] w fun en w' => ∃ lv' n' F', en = .returned (voteR 6 (E e).pr 0 (.slice none 0 0)) ∧ n' ≤ n + 1 ∧ Rn B0 w w' y lv lv' n F n' F' E := by
  have bA := (Bl.refl w).alloc (.cells blankV 105)
  have HS := hid (slot_any B0 y lv n F E e _ (h.bl bA) hl he hn (Nat.le_trans hB bA.lt))
  have ly := h.lt
  have ll : Hid (∀ b, lv.ownBlock = some b → b < w.heap.size) := fun b hb => (h.own.lt b hb).2
  unfold blankV at HS
  go_enter Tryz.func55, Tryz.ntmps55
  go_wp2_with fail
  refine HS.out.mono ?_
  rintro en w1 ⟨i, lv', n', F', rfl, hi, hn', hie, hR⟩
  have hN : w1.heap[w.heap.size]? = some (.cells blankV 105 (0, 0)) := (hR.only.block w.heap.size (by simp) (by
    rintro (e1 | e1)
    · omega
    · have := ll.out _ e1; omega)).trans (heap_alloc_new w _)
  have lN : w.heap.size < w1.heap.size := (Array.getElem?_eq_some_iff.1 hN).1
  obtain ⟨m0, m1, m2, m3, f0, f1, f2, f3⟩ := blankV_row hN
  obtain ⟨g, cap, hsh⟩ := own_shape4 hR.rw.own (by omega)
  subst hsh
  have c0 := cell_of_row w1 y 0 _ 88 (0, 0) hR.rw.blk
  simp at c0
  have ly1 := hR.rw.lt
  have hp : w1.cell? ⟨g, i * 4 + 1, none⟩ = some (.int .i64 (E e).pr) := by
    rw [hR.rw.own.cellAt (i * 4 + 1) (by omega), row4_get F' n' i 1 hi (by omega)]
    have := hR.rl.at' i hi
    rw [hie] at this
    simp [sq4, this]
  have HR := hid hR
  have HN := hid hN
  have hiI : (i : Int) < (n' : Int) := by omega
  clear HS hR hN h
  have F4 := hid (Only.set4 (w := w1) (S := fun b => b = w.heap.size) rfl (.int .i64 6) (.int .i64 (E e).pr) (.int .i64 0) (.slice none 0 0))
  by_cases hb1 : b < 1
  · clear hno
    go_wp2
    exact bodyPost_ret (v := voteR 6 (E e).pr 0 (.slice none 0 0)) (by simp [results, Tryz.results55, go_sem, voteR, m0, m1, m2, m3]) rfl ⟨_, n', F', rfl, hn', HR.out.fin HN.out F4.out⟩
  · by_cases hb2 : b < (E e).pr
    · clear hno
      go_wp2
      exact bodyPost_ret (v := voteR 6 (E e).pr 0 (.slice none 0 0)) (by simp [results, Tryz.results55, go_sem, voteR, m0, m1, m2, m3]) rfl ⟨_, n', F', rfl, hn', HR.out.fin HN.out F4.out⟩
    · by_cases hb3 : vn < 1
      · have hb3' : (vn : Int) < 1 := by omega
        clear hno
        go_wp2
        exact bodyPost_ret (v := voteR 6 (E e).pr 0 (.slice none 0 0)) (by simp [results, Tryz.results55, go_sem, voteR, m0, m1, m2, m3]) rfl ⟨_, n', F', rfl, hn', HR.out.fin HN.out F4.out⟩
      · have hb3' : ¬ (vn : Int) < 1 := by omega
        have hb4 : (255 : Int) < vn := by omega
        clear hno
        go_wp2
        exact bodyPost_ret (v := voteR 6 (E e).pr 0 (.slice none 0 0)) (by simp [results, Tryz.results55, go_sem, voteR, m0, m1, m2, m3]) rfl ⟨_, n', F', rfl, hn', HR.out.fin HN.out F4.out⟩

theorem upF_upF (F : Nat → Sq) (k : Nat) (x y : Sq) : upF (upF F k x) k y = upF F k y := by
  funext j; unfold upF; split <;> rfl

set_option maxRecDepth 100000 in
set_option maxHeartbeats 4000000 in
theorem refAccYes_any (B0 y : Nat) (lv : Value) (n : Nat) (F : Nat → Sq) (E : Int → Ep) (e b : Int) (v : Value) (ys : List Int) (w : World) (h : Rw B0 w y lv n F) (hl : Rl n F E) (he : 1 ≤ e) (hn : n ≤ 4000000) (hB : B0 ≤ w.heap.size)
    (hv : Bs w v (ys.map B8)) (hvb : ∀ g, v.ownBlock = some g → ¬ Rfoot y lv g) (h1 : 1 ≤ ys.length) (h5 : ys.length ≤ 255) (hb : 1 ≤ b) (hp : (E e).pr ≤ b) :
    Calls Tryz.prog 55 #[.pointer (some ⟨y, 0, none⟩), .int .i64 e, .int .i64 b, v] w fun en w' => ∃ lv' n' F', en = .returned (voteR 1 b 0 (.slice none 0 0)) ∧ n' ≤ n + 1 ∧ Rn B0 w w' y lv lv' n F n' F' (updE E e ⟨b, b, ys⟩) := by
  obtain ⟨i5, j5, k0, k1, k2⟩ := info_parts Tryz.info5
  have bA := (Bl.refl w).alloc (.cells blankV 105)
  have HS := hid (slot_any B0 y lv n F E e _ (h.bl bA) hl he hn (Nat.le_trans hB bA.lt))
  have ly := h.lt
  have ll : Hid (∀ b, lv.ownBlock = some b → b < w.heap.size) := fun b hb => (h.own.lt b hb).2
  obtain ⟨ua, uc, ev⟩ := hv.len
  subst ev
  rw [List.length_map] at hv hvb ⊢
  have HV := hid (hv.bl bA)
  have HVB := hid hvb
  unfold blankV at HS
  clear hv hvb
  go_enter Tryz.func55, Tryz.ntmps55
  go_wp2_with fail
  refine HS.out.mono ?_
  rintro en w1 ⟨i, lv', n', F', rfl, hi, hn', hie, hR⟩
  have hN : w1.heap[w.heap.size]? = some (.cells blankV 105 (0, 0)) := (hR.only.block w.heap.size (by simp) (by
    rintro (e1 | e1)
    · omega
    · have := ll.out _ e1; omega)).trans (heap_alloc_new w _)
  have hV1 := HV.out.only hR.only HVB.out
  obtain ⟨g, cap, hsh⟩ := own_shape4 hR.rw.own (by omega)
  subst hsh
  have hs := hR.rl.at' i hi
  rw [hie] at hs
  have c0 := cell_of_row w1 y 0 _ 88 (0, 0) hR.rw.blk
  simp at c0
  have ly1 := hR.rw.lt
  have lg1 := (hR.rw.own.lt g rfl).2
  have hp1 : w1.cell? ⟨g, i * 4 + 1, none⟩ = some (.int .i64 (E e).pr) := by
    rw [hR.rw.own.cellAt (i * 4 + 1) (by omega), row4_get F' n' i 1 hi (by omega)]
    simp [sq4, hs]
  have hiI : (i : Int) < (n' : Int) := by omega
  have hnlt : ¬ b < (E e).pr := by omega
  have hnb : ¬ b < 1 := by omega
  have hv1 : ¬ (ys.length : Int) < 1 := by omega
  have hv5 : ¬ (255 : Int) < ys.length := by omega
  have hml : Hid (0 + (ys.map B8).length ≤ maxLen) := by unfold Hid maxLen; simp; omega
  have hby : Hid ((0 + (ys.map B8).length) * 1 ≤ 140737488355328) := by unfold Hid; simp; omega
  have hone : Hid (∀ q ∈ ys.map B8, q.oneCell' = true) := fun q hq => by obtain ⟨z, _, rfl⟩ := List.mem_map.1 hq; rfl
  have HV1 := hid hV1
  have HR := hid hR
  have HN := hid hN
  clear HS hR hN h hV1
  go_wp2_with (at_builtin; refine wpList_append_bs _ rfl _ _ 40 rfl w1.heap.size 5 i5 _ 1 Tryz.underlying40 j5 k0 k1 k2 rfl _ 0 [] rfl (World.ownsRow_nil _ _ _ _) _ _ rfl HV1.out hone.out hml.out hby.out (Nat.le_refl _) ?_)
  intro v2 w2 hG
  have hb2 : Bl w1 w2 := hG.only.to_bl fun k _ e => by simp [Value.ownBlock] at e
  have ho2 : w2.ownsRow w1.heap.size 5 1 v2 ys.length (ys.map B8) := by simpa using hG.own
  obtain ⟨xa, xc, hx⟩ := owned_slice' ho2
  subst hx
  have R2 := HR.out.turn hb2
  have hs2 := R2.rl.at' i hi
  rw [hie] at hs2
  have hval := R2.rw.val i hi
  have hv2 : w2.ownsRow 0 5 1 (.slice xa ys.length xc) ys.length (ys.map B8) := ownsRow_base ho2 fun _ _ => Nat.zero_le _
  have A1 := R2.rw.set i 1 hi (by omega) (.int .i64 b) ⟨e, ⟨b, (E e).ba, (E e).val⟩, (F' i).v⟩ (by simp [sq4, hs2, hie]) (by rw [hs2] at hval; exact hval)
  have A2 := A1.1.set i 2 hi (by omega) (.int .i64 b) ⟨e, ⟨b, b, (E e).val⟩, (F' i).v⟩ (by rw [upF_same]; simp [sq4]) (by have := A1.1.val i hi; rw [upF_same] at this; exact this)
  rw [upF_upF] at A2
  have hv3 := A1.2.owns hv2 (fun b hb e => by
    rcases e with rfl | e
    · exact own_ne_block hv2 R2.rw.blk (by decide) hb
    · exact ownsRow_type hv2 R2.rw.own (by decide) b hb e)
  have hv4 := A2.2.owns hv3 (fun b hb e => by
    rcases e with rfl | e
    · exact own_ne_block hv3 A1.1.blk (by decide) hb
    · exact ownsRow_type hv3 A1.1.own (by decide) b hb e)
  have A3 := A2.1.set i 3 hi (by omega) (.slice xa ys.length xc) ⟨e, ⟨b, b, ys⟩, .slice xa ys.length xc⟩ (by rw [upF_same]; simp [sq4]) hv4
  rw [upF_upF] at A3
  have hl3 := R2.rl.upd i hi ⟨b, b, ys⟩ (.slice xa ys.length xc)
  rw [hie] at hl3
  have lwA : w.heap.size ≤ w1.heap.size := Nat.le_trans (by simp) HR.out.only.size
  have HRn := hid (R2.step A3.1 hl3 ((A1.2.trans A2.2).trans A3.2) (fun k hk b hb => by
    by_cases ek : k = i
    · subst ek
      rw [upF_same] at hb
      exact .inr (Nat.le_trans HR.out.only.size (ho2.lt b hb).1)
    · rw [upF_other _ _ _ _ ek] at hb; exact R2.vl k hk b hb))
  have hg1 : ¬ g = w.heap.size := fun e1 => own_ne_block HR.out.rw.own HN.out (by decide) (by rw [← e1]; rfl)
  have hgy : ¬ g = y := fun e1 => own_ne_block HR.out.rw.own HR.out.rw.blk (by decide) (by rw [← e1]; rfl)
  have hN2 := (hb2.heap (Array.getElem?_eq_some_iff.1 HN.out).1).trans HN.out
  have q0 := (hb2.cell ly1).trans c0
  have ly2 := Nat.lt_of_lt_of_le ly1 hb2.lt
  have lg2 := Nat.lt_of_lt_of_le lg1 hb2.lt
  have lN : w.heap.size < w2.heap.size := (Array.getElem?_eq_some_iff.1 hN2).1
  obtain ⟨m0, m1, m2, m3, f0, f1, f2, f3⟩ := blankV_row hN2
  have p1 := R2.rw.own.cellAt (i * 4 + 1) (by omega)
  have p2 := R2.rw.own.cellAt (i * 4 + 2) (by omega)
  have p3 := R2.rw.own.cellAt (i * 4 + 3) (by omega)
  rw [row4_get F' n' i 1 hi (by omega)] at p1
  rw [row4_get F' n' i 2 hi (by omega)] at p2
  rw [row4_get F' n' i 3 hi (by omega)] at p3
  simp [sq4] at p1 p2 p3
  have r1 := R2.rw.own.frozenAt (i * 4 + 1)
  have r2 := R2.rw.own.frozenAt (i * 4 + 2)
  have r3 := R2.rw.own.frozenAt (i * 4 + 3)
  have HN2 := hid hN2
  have hN3 : Hid ((((w2.setCell ⟨g, i * 4 + 1, none⟩ (.int .i64 b)).setCell ⟨g, i * 4 + 2, none⟩ (.int .i64 b)).setCell ⟨g, i * 4 + 3, none⟩ (.slice xa ys.length xc)).heap[w.heap.size]? = some (.cells blankV 105 (0, 0))) := by
    have hne : w.heap.size ≠ g := fun e => hg1 e.symm
    exact (Below.heap_setCell _ _ _ _ hne).trans ((Below.heap_setCell _ _ _ _ hne).trans ((Below.heap_setCell _ _ _ _ hne).trans hN2))
  have F4 := hid (Only.set4 (w := ((w2.setCell ⟨g, i * 4 + 1, none⟩ (.int .i64 b)).setCell ⟨g, i * 4 + 2, none⟩ (.int .i64 b)).setCell ⟨g, i * 4 + 3, none⟩ (.slice xa ys.length xc)) (S := fun b => b = w.heap.size) rfl (.int .i64 1) (.int .i64 b) (.int .i64 0) (.slice none 0 0))
  clear A1 A2 A3 hv2 hv3 hv4 hl3 R2 hval hs2 ho2 hG hb2 c0 hp1 HR HN HV1 hs hN2 lg1 ly1
  go_wp2
  exact bodyPost_ret (v := voteR 1 b 0 (.slice none 0 0)) (by simp [results, Tryz.results55, go_sem, voteR, m0, m1, m2, m3]) rfl ⟨_, n', _, rfl, hn', HRn.out.fin hN3.out F4.out⟩
end Go.Proofs.YtkgjpfamjedncaaGreat
