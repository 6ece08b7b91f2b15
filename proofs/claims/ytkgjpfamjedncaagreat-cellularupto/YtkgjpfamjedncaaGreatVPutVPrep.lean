-- A promise and a vote are kept.
-- Prepare.
import Derived.Test.YtkgjpfamjedncaaGreatImgOpenVMapVote
namespace Go.Proofs.YtkgjpfamjedncaaGreat
open Go.RowKit Go.Maps
attribute [local go_sem ↓] Go.wp_at_zero Go.wp_at_succ

set_option maxRecDepth 100000 in
set_option maxHeartbeats 2000000 in
theorem promise_any (base p bm n : Nat) (E : Int → Ep) (img : List Int) (M : Int → Value) (vi : Value) (t : TypeId) (e b : Int) (w : World) (h : Vs base w p bm n E img M vi t) (hb : base ≤ w.heap.size) (hl : img.length ≤ 30000000) (hn : n ≤ 30000000) (he : (Lit.int .i64 e).wf = true) :
    Calls Tryz.prog 102 #[.pointer (some ⟨p, 0, none⟩), .int .i64 e, .int .i64 b] w fun en w' => ∃ M' vi', en = .returned (.tuple #[]) ∧ Vs base w' p bm (n + 1) (updE E e ⟨b, (E e).ba, (E e).val⟩) (img ++ recB 1 [e, b] []) M' vi' t ∧ Gone p bm M vi M' vi' w w' := by
  obtain ⟨vv, hM, hvv, hap⟩ := h.ep e
  obtain ⟨va, vc, rfl⟩ : ∃ a c, vv = .slice a (E e).val.length c := by
    obtain ⟨a', c', e'⟩ := (ownsRow_sl hvv).len
    rw [ownsRow_len hvv] at e'
    exact ⟨a', c', e'⟩
  have hp := h.lt
  have c0 := h.c0
  have hlook := h.mp.look e he
  rw [hM] at hlook
  have bA := hid ((Bl.refl w).alloc (.cells #[.int .i64 b, .int .i64 (E e).ba, .slice va (E e).val.length vc] 155))
  obtain ⟨w2, hput, hmp2, hO2⟩ := (h.mp.bl (bA.out.drew)).put e he (.agg #[.int .i64 b, .int .i64 (E e).ba, .slice va (E e).val.length vc]) (by unfold maxLen; omega)
  have H := hid h
  have HM := hid hmp2
  have HO := hid hO2
  have HV := hid hvv
  have HA := hid hap
  have HFM := hid hM
  clear h hmp2 hO2 hvv hap hM
  generalize hs : (E e).ba = eb at *
  generalize hv : (E e).val = ev at *
  have Hs := hid hs
  have Hv := hid hv
  clear hs hv
  go_enter Tryz.func102, Tryz.ntmps102
  go_wp2
  go_region
  have bB := hid ((Bl.refl w2).alloc (.cells #[.int .i64 e, .int .i64 b] 3))
  have HVW := hid (H.out.bl (bA.out.drew))
  have OW : Hid (Only (fun x => x = bm) (w.alloc (.cells #[.int .i64 b, .int .i64 eb, .slice va ev.length vc] 155)).drew (w2.alloc (.cells #[.int .i64 e, .int .i64 b] 3))) := HO.out.trans (Only.of_bl bB.out)
  have hP3 := (OW.out.block p HVW.out.lt HVW.out.pm).trans HVW.out.at'
  have hI3 := OW.out.owns HVW.out.own fun b' e1 e2 => HVW.out.mp.ne_own HVW.out.own (by rw [e1, e2])
  have hN : Bs (w2.alloc (.cells #[.int .i64 e, .int .i64 b] 3)) (.slice (some ⟨w2.heap.size, 0, none⟩) 2 2) ([e, b].map (Value.int .i64)) := bs_new w2 3 #[.int .i64 e, .int .i64 b] 2 rfl
  have l2 : w.heap.size ≤ w2.heap.size := Nat.le_trans bA.out.lt HO.out.size
  have HK := hid (keep_raw base p 1 _ t vi img.length (img.map B8) 1 (.slice (some ⟨w2.heap.size, 0, none⟩) 2 2) (.slice none 0 0) [e, b] [] _ hP3 rfl (by rcases H.out.ty with e | e <;> rw [e] <;> decide) hI3 (by simp; omega) hl hN (.inl ⟨rfl, rfl⟩) (by decide) (by decide) (by simp) (by simp) (fun g e1 e2 => by
    simp [Value.ownBlock] at e2
    have := (H.out.own.lt g e1).2
    omega) (fun g e e' => by simp [Value.ownBlock] at e') (fun g e => by simp [Value.ownBlock] at e; subst e; simp) (fun g e => by simp [Value.ownBlock] at e))
  clear hP3 hI3 hN
  go_wp2_with fail
  refine HK.out.mono ?_
  rintro en w' ⟨vi', rfl, hk⟩
  have R := hid (H.out.turn e ⟨b, eb, ev⟩ (.slice va ev.length vc) (bA.out.drew) HO.out HM.out ((Only.of_bl (S := fun _ => False) bA.out.drew).owns HV.out fun _ _ e => e) HA.out (fun g e1 => .inl (.inr ⟨e, by rw [HFM.out]; exact e1⟩)) bB.out hk rfl rfl)
  clear hk HK
  go_wp2
  go_end0
  exact ⟨_, _, rfl, R.out.1, R.out.2⟩

set_option maxRecDepth 100000 in
set_option maxHeartbeats 2000000 in
theorem vote_any (base p bm n : Nat) (E : Int → Ep) (img : List Int) (M : Int → Value) (vi : Value) (t : TypeId) (e b : Int) (v : Value) (ys : List Int) (w : World) (h : Vs base w p bm n E img M vi t) (hb : base ≤ w.heap.size) (hl : img.length ≤ 30000000) (hn : n ≤ 30000000) (he : (Lit.int .i64 e).wf = true)
    (hv : Bs w v (ys.map B8)) (hy : ys.length ≤ 255) (hvb : ∀ g, v.ownBlock = some g → g < w.heap.size ∧ vi.ownBlock ≠ some g ∧ g ≠ bm) :
    Calls Tryz.prog 106 #[.pointer (some ⟨p, 0, none⟩), .int .i64 e, .int .i64 b, v] w fun en w' => ∃ M' vi', en = .returned (.tuple #[]) ∧ Vs base w' p bm (n + 1) (updE E e ⟨b, b, ys⟩) (img ++ recB 2 [e, b] ys) M' vi' t ∧ Gone p bm M vi M' vi' w w' := by
  obtain ⟨va, vc, ev⟩ := hv.len
  rw [List.length_map] at ev
  subst ev
  have hp := h.lt
  have c0 := h.c0
  have H := hid h
  have Hv := hid hv
  have Hvb := hid hvb
  clear h hv hvb
  have HC : Hid (∀ W, Bl w W → Calls Tryz.prog 103 #[.slice va ys.length vc] W fun en w1 => ∃ ua uc w2, en = .returned (.slice ua ys.length uc) ∧ Bl w w1 ∧ w1.cell? ⟨p, 0, none⟩ = some (.map (some bm)) ∧ w1.ownsRow w.heap.size 5 1 (.slice ua ys.length uc) ys.length (ys.map B8) ∧ (Instr.mapUpdate 128 (.map (some bm)) (.int .i64 e) (.agg #[.int .i64 b, .int .i64 b, .slice ua ys.length uc])).run Tryz.prog w1 = .ok () w2 ∧ Mp w2 bm (n + 1) (updM M e (.agg #[.int .i64 b, .int .i64 b, .slice ua ys.length uc])) ∧ Only (fun x => x = bm) w1 w2) := by
    intro W hW
    refine (clone_any (.slice va ys.length vc) ys W (Hv.out.bl hW) (by omega)).mono ?_
    rintro en w1 ⟨u, rfl, hb1, hu⟩
    obtain ⟨ua, uc, rfl⟩ : ∃ a c, u = .slice a ys.length c := by
      obtain ⟨a', c', e'⟩ := (ownsRow_sl hu).len
      rw [ownsRow_len hu] at e'
      exact ⟨a', c', e'⟩
    have hB := hW.trans hb1
    obtain ⟨w2, hput, hmp2, hO2⟩ := (H.out.mp.bl hB).put e he (.agg #[.int .i64 b, .int .i64 b, .slice ua ys.length uc]) (by unfold maxLen; omega)
    exact ⟨ua, uc, w2, rfl, hB, (H.out.bl hB).c0, ownsRow_base hu fun g e => Nat.le_trans hW.lt (hu.lt g e).1, hput, hmp2, hO2⟩
  go_enter Tryz.func106, Tryz.ntmps106
  go_wp2
  go_region_with (go_at_call 103; refine (HC.out _ (by exact (Bl.refl _).drewN _)).mono ?_; rintro en w1 ⟨ua, uc, w2, rfl, hB, c1, hu, hput, hmp2, hO2⟩; have HB := hid hB; have HU := hid hu; have HM := hid hmp2; have HO := hid hO2; clear hB hu hmp2 hO2)
  all_goals
    have bB := hid ((Bl.refl w2).alloc (.cells #[.int .i64 e, .int .i64 b] 3))
    have HVW := hid (H.out.bl HB.out)
    have OW : Hid (Only (fun x => x = bm) w1 (w2.alloc (.cells #[.int .i64 e, .int .i64 b] 3))) := HO.out.trans (Only.of_bl bB.out)
    have hP3 := (OW.out.block p HVW.out.lt HVW.out.pm).trans HVW.out.at'
    have hI3 := OW.out.owns HVW.out.own fun b' e1 e2 => HVW.out.mp.ne_own HVW.out.own (by rw [e1, e2])
    have hV3 := (Hv.out.bl HB.out).only OW.out fun g e e' => (Hvb.out g e).2.2 e'
    have hN : Bs (w2.alloc (.cells #[.int .i64 e, .int .i64 b] 3)) (.slice (some ⟨w2.heap.size, 0, none⟩) 2 2) ([e, b].map (Value.int .i64)) := bs_new w2 3 #[.int .i64 e, .int .i64 b] 2 rfl
    have l2 : w.heap.size ≤ w2.heap.size := Nat.le_trans HB.out.lt HO.out.size
    have HK := hid (keep_raw base p 1 _ t vi img.length (img.map B8) 2 (.slice (some ⟨w2.heap.size, 0, none⟩) 2 2) (.slice va ys.length vc) [e, b] ys _ hP3 rfl (by rcases H.out.ty with e | e <;> rw [e] <;> decide) hI3 (by simp; omega) hl hN hV3 (by decide) (by decide) (by simp) hy (fun g e1 e2 => by
      simp [Value.ownBlock] at e2
      have := (H.out.own.lt g e1).2
      omega) (fun g e e' => (Hvb.out g e').2.1 e) (fun g e => by simp [Value.ownBlock] at e; subst e; simp) (fun g e => by have := (Hvb.out g e).1; simp; omega))
    clear hP3 hI3 hN hV3
    go_wp2_with fail
    refine HK.out.mono ?_
    rintro en w' ⟨vi', rfl, hk⟩
    have R := hid (H.out.turn e ⟨b, b, ys⟩ (.slice ua ys.length uc) HB.out HO.out HM.out (ownsRow_base HU.out fun g e => Nat.le_trans hb (HU.out.lt g e).1) (fun g e e' => by have := (HU.out.lt g e).1; have := (H.out.own.lt g e').2; omega) (fun g e => .inr (HU.out.lt g e).1) bB.out hk rfl rfl)
    clear hk HK
    go_wp2
    go_end0
    exact ⟨_, _, rfl, R.out.1, R.out.2⟩

set_option maxRecDepth 100000 in
set_option maxHeartbeats 400000 in
theorem refused_any (pr ba : Int) (a : Option Addr) (n c : Nat) (w : World) :
    Calls Tryz.prog 101 #[.agg #[.int .i64 pr, .int .i64 ba, .slice a n c]] w fun e w' => e = .returned (.agg #[.int .i64 6, .int .i64 pr, .int .i64 0, .slice none 0 0]) ∧ Bl w w' := by
  go_enter Tryz.func101, Tryz.ntmps101
  go_wp2
  exact bodyPost_ret (v := .agg #[.int .i64 6, .int .i64 pr, .int .i64 0, .slice none 0 0]) (by simp [results, Tryz.results101, go_sem]) rfl ⟨rfl, ((Bl.refl _).alloc _).alloc _⟩

set_option maxRecDepth 100000 in
set_option maxHeartbeats 400000 in
theorem mayBeVoted_any (a : Option Addr) (n c : Nat) (w : World) (hn : (n : Int) ≤ 9223372036854775807) :
    Calls Tryz.prog 104 #[.slice a n c] w fun e w' => e = .returned (.bool (decide (1 ≤ n ∧ n ≤ 255))) ∧ Bl w w' := by
  by_cases h1 : 1 ≤ n
  · by_cases h2 : n ≤ 255
    · have h1' : (1 : Int) ≤ (n : Int) := by omega
      have h2' : (n : Int) ≤ 255 := by omega
      go_enter Tryz.func104, Tryz.ntmps104
      go_wp2
      go_ret
      exact ⟨by rw [show decide (1 ≤ n ∧ n ≤ 255) = true from by simp; omega]; rfl, Bl.refl _⟩
    · have h1' : (1 : Int) ≤ (n : Int) := by omega
      have h2' : ¬ (n : Int) ≤ 255 := by omega
      go_enter Tryz.func104, Tryz.ntmps104
      go_wp2
      go_ret
      exact ⟨rfl, Bl.refl _⟩
  · have h1' : ¬ (1 : Int) ≤ (n : Int) := by omega
    go_enter Tryz.func104, Tryz.ntmps104
    go_wp2
    go_ret
    exact ⟨rfl, Bl.refl _⟩
end Go.Proofs.YtkgjpfamjedncaaGreat

namespace Go.Proofs.YtkgjpfamjedncaaGreat
open Go.RowKit Go.Maps
attribute [local go_sem ↓] Go.wp_at_zero Go.wp_at_succ

theorem Gone.post_new {T : Nat → Prop} {p bm : Nat} {M M' : Int → Value} {vi vi' : Value} {w w1 w' : World} (h : Gone p bm M vi M' vi' w w1) (k : Only T w1 w') (hs : ∀ n, T n → w.heap.size ≤ n) : Gone p bm M vi M' vi' w w' :=
  ⟨h.only.trans_new k hs, h.lies⟩
def voteR (wh pr ba : Int) (v : Value) : Value := .agg #[.int .i64 wh, .int .i64 pr, .int .i64 ba, v]
def blankV : Array Value := #[.int .i64 0, .int .i64 0, .int .i64 0, .slice none 0 0]
theorem blankV_row {w : World} {g : Nat} (h : w.heap[g]? = some (.cells blankV 105 (0, 0))) :
    w.cell? ⟨g, 0, none⟩ = some (.int .i64 0) ∧ w.cell? ⟨g, 1, none⟩ = some (.int .i64 0) ∧ w.cell? ⟨g, 2, none⟩ = some (.int .i64 0) ∧ w.cell? ⟨g, 3, none⟩ = some (.slice none 0 0) ∧ w.frozen? ⟨g, 0, none⟩ = false ∧ w.frozen? ⟨g, 1, none⟩ = false ∧ w.frozen? ⟨g, 2, none⟩ = false ∧ w.frozen? ⟨g, 3, none⟩ = false :=
  ⟨cell_of_row w g 0 _ 105 (0, 0) h, cell_of_row w g 1 _ 105 (0, 0) h, cell_of_row w g 2 _ 105 (0, 0) h, cell_of_row w g 3 _ 105 (0, 0) h, frozen_of_row w g 0 _ 105 h, frozen_of_row w g 1 _ 105 h, frozen_of_row w g 2 _ 105 h, frozen_of_row w g 3 _ 105 h⟩
theorem Only.set4 {S : Nat → Prop} {w : World} {g : Nat} (hg : S g) (u0 u1 u2 u3 : Value) : Only S w ((((w.setCell ⟨g, 0, none⟩ u0).setCell ⟨g, 1, none⟩ u1).setCell ⟨g, 2, none⟩ u2).setCell ⟨g, 3, none⟩ u3) :=
  ((((Only.refl S w).setCell ⟨g, 0, none⟩ (.inl hg) u0).setCell ⟨g, 1, none⟩ (.inl hg) u1).setCell ⟨g, 2, none⟩ (.inl hg) u2).setCell ⟨g, 3, none⟩ (.inl hg) u3
/-- A block that is none of the voter's may turn. -/
theorem Vs.other {base : Nat} {w w' : World} {p bm n g : Nat} {E : Int → Ep} {img : List Int} {M : Int → Value} {vi : Value} {t : TypeId} (h : Vs base w p bm n E img M vi t) (ho : Only (fun x => x = g) w w') {cs : Array Value} {t' : TypeId} (hg : w.heap[g]? = some (.cells cs t' (0, 0))) (ht : t' ≠ 5) (hp : p ≠ g) : Vs base w' p bm n E img M vi t :=
  h.only ho fun b e => by
    subst e
    refine ⟨Ne.symm hp, h.mp.ne hg, fun cs f e => ?_⟩
    rw [hg] at e
    simp only [Option.some.injEq, Obj.cells.injEq] at e
    exact ht e.2.1

set_option maxRecDepth 100000 in
set_option maxHeartbeats 2000000 in
theorem prepareNo_any (base p bm n : Nat) (E : Int → Ep) (img : List Int) (M : Int → Value) (vi : Value) (t : TypeId) (e b : Int) (w : World) (h : Vs base w p bm n E img M vi t) (he : (Lit.int .i64 e).wf = true) (hno : e < 1 ∨ b < 1 ∨ b ≤ (E e).pr) :
    Calls Tryz.prog 80 #[.pointer (some ⟨p, 0, none⟩), .int .i64 e, .int .i64 b] w fun en w' => en = .returned (voteR 6 (E e).pr 0 (.slice none 0 0)) ∧ Vs base w' p bm n E img M vi t ∧ Bl w w' := by
  obtain ⟨vv, hM, hvv, hap⟩ := h.ep e
  obtain ⟨va, vc, rfl⟩ : ∃ a c, vv = .slice a (E e).val.length c := by
    obtain ⟨a', c', e'⟩ := (ownsRow_sl hvv).len
    rw [ownsRow_len hvv] at e'
    exact ⟨a', c', e'⟩
  have hp := h.lt
  have c0 := h.c0
  have bA := hid ((Bl.refl w).alloc (.cells blankV 105))
  have hlook := (h.mp.bl bA.out).look e he
  rw [hM] at hlook
  unfold blankV at hlook
  have H := hid h
  clear h hvv hap hM
  have Hno := hid hno
  generalize (E e).pr = pr at *
  generalize (E e).ba = ba at *
  generalize (E e).val.length = vl at *
  have HR : Hid (∀ W, _) := fun W => refused_any pr ba va vl vc W
  have bB := hid (bA.out.alloc (.cells #[.int .i64 pr, .int .i64 ba, .slice va vl vc] 155))
  have HN := hid (heap_alloc_new w (.cells blankV 105))
  have fin : Hid (∀ w2, Bl ((w.alloc (.cells blankV 105)).alloc (.cells #[.int .i64 pr, .int .i64 ba, .slice va vl vc] 155)) w2 → w2.heap[w.heap.size]? = some (.cells blankV 105 (0, 0))) := fun w2 h2 => (h2.heap (by simp; omega)).trans ((Below.heap_alloc (w.alloc (.cells blankV 105)) _ w.heap.size (by simp)).trans HN.out)
  by_cases h1 : e < 1
  · clear hno
    go_enter Tryz.func80, Tryz.ntmps80
    go_wp2_with fail
    refine (HR.out _).mono ?_
    rintro en w2 ⟨rfl, hb2⟩
    have hN2 := fin.out w2 hb2
    have lN : w.heap.size < w2.heap.size := (Array.getElem?_eq_some_iff.1 hN2).1
    obtain ⟨n0, n1, n2, n3, f0, f1, f2, f3⟩ := blankV_row hN2
    have HN2 := hid hN2
    have HB2 := hid (bB.out.trans hb2)
    clear hN2 hb2
    go_wp2
    have F := Only.set4 (w := w2) (S := fun b => b = w.heap.size) rfl (.int .i64 6) (.int .i64 pr) (.int .i64 0) (.slice none 0 0)
    exact bodyPost_ret (v := voteR 6 pr 0 (.slice none 0 0)) (by simp [results, Tryz.results80, go_sem, voteR, n0, n1, n2, n3]) rfl ⟨rfl, (H.out.bl HB2.out).other F HN2.out (by decide) (by omega), HB2.out.trans_only F (fun n e => by omega)⟩
  · by_cases h2 : b < 1
    · clear hno
      go_enter Tryz.func80, Tryz.ntmps80
      go_wp2_with fail
      refine (HR.out _).mono ?_
      rintro en w2 ⟨rfl, hb2⟩
      have hN2 := fin.out w2 hb2
      have lN : w.heap.size < w2.heap.size := (Array.getElem?_eq_some_iff.1 hN2).1
      obtain ⟨n0, n1, n2, n3, f0, f1, f2, f3⟩ := blankV_row hN2
      have HN2 := hid hN2
      have HB2 := hid (bB.out.trans hb2)
      clear hN2 hb2
      go_wp2
      have F := Only.set4 (w := w2) (S := fun b => b = w.heap.size) rfl (.int .i64 6) (.int .i64 pr) (.int .i64 0) (.slice none 0 0)
      exact bodyPost_ret (v := voteR 6 pr 0 (.slice none 0 0)) (by simp [results, Tryz.results80, go_sem, voteR, n0, n1, n2, n3]) rfl ⟨rfl, (H.out.bl HB2.out).other F HN2.out (by decide) (by omega), HB2.out.trans_only F (fun n e => by omega)⟩
    · have h3 : b ≤ pr := by omega
      clear hno
      go_enter Tryz.func80, Tryz.ntmps80
      go_wp2_with fail
      refine (HR.out _).mono ?_
      rintro en w2 ⟨rfl, hb2⟩
      have hN2 := fin.out w2 hb2
      have lN : w.heap.size < w2.heap.size := (Array.getElem?_eq_some_iff.1 hN2).1
      obtain ⟨n0, n1, n2, n3, f0, f1, f2, f3⟩ := blankV_row hN2
      have HN2 := hid hN2
      have HB2 := hid (bB.out.trans hb2)
      clear hN2 hb2
      go_wp2
      have F := Only.set4 (w := w2) (S := fun b => b = w.heap.size) rfl (.int .i64 6) (.int .i64 pr) (.int .i64 0) (.slice none 0 0)
      exact bodyPost_ret (v := voteR 6 pr 0 (.slice none 0 0)) (by simp [results, Tryz.results80, go_sem, voteR, n0, n1, n2, n3]) rfl ⟨rfl, (H.out.bl HB2.out).other F HN2.out (by decide) (by omega), HB2.out.trans_only F (fun n e => by omega)⟩

set_option maxRecDepth 100000 in
set_option maxHeartbeats 2000000 in
theorem prepareYes_any (base p bm n : Nat) (E : Int → Ep) (img : List Int) (M : Int → Value) (vi : Value) (t : TypeId) (e b : Int) (w : World) (h : Vs base w p bm n E img M vi t) (hb : base ≤ w.heap.size) (hl : img.length ≤ 30000000) (hn : n ≤ 30000000) (he : (Lit.int .i64 e).wf = true) (hel : (E e).val.length ≤ 255) (h1 : 1 ≤ e) (h2 : 1 ≤ b) (h3 : (E e).pr < b) :
    Calls Tryz.prog 80 #[.pointer (some ⟨p, 0, none⟩), .int .i64 e, .int .i64 b] w fun en w' => ∃ M' vi' v', en = .returned (voteR 1 b (E e).ba v') ∧ w'.ownsRow w.heap.size 5 1 v' (E e).val.length ((E e).val.map B8) ∧ Vs base w' p bm (n + 1) (updE E e ⟨b, (E e).ba, (E e).val⟩) (img ++ recB 1 [e, b] []) M' vi' t ∧ Gone p bm M vi M' vi' w w' ∧ ∀ g, v'.ownBlock = some g → ¬ Foot M' vi' g := by
  obtain ⟨vv, hM, hvv, hap⟩ := h.ep e
  obtain ⟨va, vc, rfl⟩ : ∃ a c, vv = .slice a (E e).val.length c := by
    obtain ⟨a', c', e'⟩ := (ownsRow_sl hvv).len
    rw [ownsRow_len hvv] at e'
    exact ⟨a', c', e'⟩
  have hp := h.lt
  have c0 := h.c0
  have bA := hid ((Bl.refl w).alloc (.cells blankV 105))
  have hlook := (h.mp.bl bA.out).look e he
  rw [hM] at hlook
  unfold blankV at hlook
  have HP : Hid (∀ W, Bl w W → _) := fun W hW => promise_any base p bm n E img M vi t e b W (h.bl hW) (Nat.le_trans hb hW.lt) hl hn he
  have H := hid h
  have HV := hid hvv
  have HA := hid hap
  clear h hvv hap hM
  generalize updE E e ⟨b, (E e).ba, (E e).val⟩ = E' at *
  generalize img ++ recB 1 [e, b] [] = img' at *
  generalize (E e).pr = pr at *
  generalize (E e).ba = ba at *
  generalize (E e).val = ev at *
  have bB := hid (bA.out.alloc (.cells #[.int .i64 pr, .int .i64 ba, .slice va ev.length vc] 155))
  have HN := hid (heap_alloc_new w (.cells blankV 105))
  have HN1 := hid ((Below.heap_alloc (w.alloc (.cells blankV 105)) (.cells #[.int .i64 pr, .int .i64 ba, .slice va ev.length vc] 155) w.heap.size (by simp)).trans HN.out)
  have HX := hid (heap_alloc_new (w.alloc (.cells blankV 105)) (.cells #[.int .i64 pr, .int .i64 ba, .slice va ev.length vc] 155))
  rw [show (w.alloc (.cells blankV 105)).heap.size = w.heap.size + 1 from by simp] at HX
  have HPP := hid (HP.out _ bB.out)
  have hne : Hid (∀ g, w.heap.size ≤ g → ¬ (g = p ∨ g = bm ∨ vi.ownBlock = some g)) := by
    rintro g hg (e | e | e)
    · omega
    · have := H.out.mp.lt; omega
    · have := (H.out.own.lt _ e).2; omega
  have h1' : ¬ e < 1 := by omega
  have h2' : ¬ b < 1 := by omega
  have h3' : ¬ b ≤ pr := by omega
  go_enter Tryz.func80, Tryz.ntmps80
  go_wp2_with fail
  refine HPP.out.mono ?_
  rintro en w2 ⟨M', vi', rfl, hv2, ho2⟩
  have hN2 := (ho2.only.block w.heap.size (by simp; omega) (hne.out _ (Nat.le_refl _))).trans HN1.out
  have hX2 := (ho2.only.block (w.heap.size + 1) (by simp) (hne.out _ (by omega))).trans HX.out
  have lN : w.heap.size < w2.heap.size := (Array.getElem?_eq_some_iff.1 hN2).1
  have lX : w.heap.size + 1 < w2.heap.size := (Array.getElem?_eq_some_iff.1 hX2).1
  have HN2 := hid hN2
  have x1 : w2.cell? ⟨w.heap.size + 1, 1, none⟩ = some (.int .i64 ba) := by rw [cell_of_row _ _ 1 _ 155 (0, 0) hX2]; rfl
  have x2 : w2.cell? ⟨w.heap.size + 1, 2, none⟩ = some (.slice va ev.length vc) := by rw [cell_of_row _ _ 2 _ 155 (0, 0) hX2]; rfl
  have HVW := hid (H.out.bl bB.out)
  have hvw := (Only.of_bl (S := fun _ => False) bB.out).owns HV.out fun _ _ e => e
  have HV2 := hid (ho2.only.owns hvw fun g e1 e2 => by
    rcases e2 with e2 | e2 | e2
    · exact HVW.out.own_ne hvw (by rw [e1, e2])
    · exact HVW.out.mp.ne_own hvw (by rw [e1, e2])
    · exact HA.out g e1 e2)
  have HVS := hid hv2
  have HO2 := hid (ho2.pre bB.out)
  obtain ⟨n0, n1, n2, n3, f0, f1, f2, f3⟩ := blankV_row hN2
  have HC : Hid (∀ W, Bl w2 W → Calls Tryz.prog 103 #[.slice va ev.length vc] W fun en w3 => ∃ ua uc, en = .returned (.slice ua ev.length uc) ∧ Bl w2 w3 ∧ w3.ownsRow w2.heap.size 5 1 (.slice ua ev.length uc) ev.length (ev.map B8)) := by
    intro W hW
    refine (clone_any (.slice va ev.length vc) ev W ((ownsRow_bs HV2.out).bl hW) (by omega)).mono ?_
    rintro en w3 ⟨u, rfl, hb1, hu⟩
    obtain ⟨ua, uc, rfl⟩ : ∃ a c, u = .slice a ev.length c := by
      obtain ⟨a', c', e'⟩ := (ownsRow_sl hu).len
      rw [ownsRow_len hu] at e'
      exact ⟨a', c', e'⟩
    exact ⟨ua, uc, rfl, hW.trans hb1, ownsRow_base hu fun g e => Nat.le_trans hW.lt (hu.lt g e).1⟩
  clear hN2 hX2 hvw hv2 ho2 HPP
  go_wp2_with fail
  go_region_held3 (fun W => W.cell? ⟨w.heap.size + 1, 1, none⟩ = some (.int .i64 ba) ∧ W.cell? ⟨w.heap.size + 1, 2, none⟩ = some (.slice va ev.length vc) ∧ w2.heap.size ≤ W.heap.size ∧ True) (first | go_keep | (simp only [true_and, and_true]; trivial))
    (first | (go_at_call 103; refine (HC.out _ (by exact (Bl.refl _).drewN _)).mono ?_; rintro en w3 ⟨ua, uc, rfl, hb3, hu3⟩; have y1 := (hb3.cell (o := 1) lX).trans x1; have y2 := (hb3.cell (o := 2) lX).trans x2; have l3 := hb3.lt; have m0 := (hb3.cell (o := 0) lN).trans n0; have m1 := (hb3.cell (o := 1) lN).trans n1; have m2 := (hb3.cell (o := 2) lN).trans n2; have m3 := (hb3.cell (o := 3) lN).trans n3; have k0 := (hb3.frozen (o := 0) lN).trans f0; have k1 := (hb3.frozen (o := 1) lN).trans f1; have k2 := (hb3.frozen (o := 2) lN).trans f2; have k3 := (hb3.frozen (o := 3) lN).trans f3; have HB3 := hid hb3; have HU3 := hid hu3; clear hb3 hu3))
  all_goals
    go_wp2
    have hN3 : w3.heap[w.heap.size]? = some (.cells blankV 105 (0, 0)) := (HB3.out.heap lN).trans HN2.out
    have F := Only.set4 (w := w3) (S := fun b => b = w.heap.size) rfl (.int .i64 1) (.int .i64 b) (.int .i64 ba) (.slice ua ev.length uc)
    have hu := ownsRow_base (base' := w.heap.size) HU3.out fun g e => Nat.le_trans (Nat.le_of_lt lN) (HU3.out.lt g e).1
    exact bodyPost_ret (v := voteR 1 b ba (.slice ua ev.length uc)) (by simp [results, Tryz.results80, go_sem, voteR, m0, m1, m2, m3]) rfl ⟨M', vi', _, rfl, F.owns hu fun g e e' => own_ne_block hu hN3 (by decide) (by rw [e, e']), (HVS.out.bl HB3.out).other F hN3 (by decide) (by omega), (HO2.out.post HB3.out).post_new F (fun g e => Nat.le_of_eq e.symm), fun g e hF => by have := (HU3.out.lt g e).1; have := (HVS.out.foot_lt hF).2; omega⟩
end Go.Proofs.YtkgjpfamjedncaaGreat
