-- Prepare.
import Derived.Test.YtbghhbpacijmmaaVPut
namespace Go.Proofs.Ytbghhbpacijmmaa
open Go.RowKit Go.Maps
attribute [local go_sem ↓] Go.wp_at_zero Go.wp_at_succ

theorem Gone.post_new {T : Nat → Prop} {p bm : Nat} {M M' : Int → Value} {vi vi' : Value} {w w1 w' : World} (h : Gone p bm M vi M' vi' w w1) (k : Only T w1 w') (hs : ∀ n, T n → w.heap.size ≤ n) : Gone p bm M vi M' vi' w w' :=
  ⟨h.only.trans_new k hs, h.lies⟩
def voteR (wh pr ba : Int) (v : Value) : Value := .agg #[.int .i64 wh, .int .i64 pr, .int .i64 ba, v]
def blankV : Array Value := #[.int .i64 0, .int .i64 0, .int .i64 0, .slice none 0 0]
theorem blankV_row {w : World} {g : Nat} (h : w.heap[g]? = some (.cells blankV 48 (0, 0))) :
    w.cell? ⟨g, 0, none⟩ = some (.int .i64 0) ∧ w.cell? ⟨g, 1, none⟩ = some (.int .i64 0) ∧ w.cell? ⟨g, 2, none⟩ = some (.int .i64 0) ∧ w.cell? ⟨g, 3, none⟩ = some (.slice none 0 0) ∧ w.frozen? ⟨g, 0, none⟩ = false ∧ w.frozen? ⟨g, 1, none⟩ = false ∧ w.frozen? ⟨g, 2, none⟩ = false ∧ w.frozen? ⟨g, 3, none⟩ = false :=
  ⟨cell_of_row w g 0 _ 48 (0, 0) h, cell_of_row w g 1 _ 48 (0, 0) h, cell_of_row w g 2 _ 48 (0, 0) h, cell_of_row w g 3 _ 48 (0, 0) h, frozen_of_row w g 0 _ 48 h, frozen_of_row w g 1 _ 48 h, frozen_of_row w g 2 _ 48 h, frozen_of_row w g 3 _ 48 h⟩
theorem Only.set4 {S : Nat → Prop} {w : World} {g : Nat} (hg : S g) (u0 u1 u2 u3 : Value) : Only S w ((((w.setCell ⟨g, 0, none⟩ u0).setCell ⟨g, 1, none⟩ u1).setCell ⟨g, 2, none⟩ u2).setCell ⟨g, 3, none⟩ u3) :=
  ((((Only.refl S w).setCell ⟨g, 0, none⟩ (.inl hg) u0).setCell ⟨g, 1, none⟩ (.inl hg) u1).setCell ⟨g, 2, none⟩ (.inl hg) u2).setCell ⟨g, 3, none⟩ (.inl hg) u3
/-- A block that is none of the voter's may turn. -/
theorem Vs.other {base : Nat} {w w' : World} {p bm n g : Nat} {E : Int → Ep} {img : List Int} {M : Int → Value} {vi : Value} {t : TypeId} (h : Vs base w p bm n E img M vi t) (ho : Only (fun x => x = g) w w') {cs : Array Value} {t' : TypeId} (hg : w.heap[g]? = some (.cells cs t' (0, 0))) (ht : t' ≠ 5) (hp : p ≠ g) : Vs base w' p bm n E img M vi t :=
  h.only ho fun b e => by
    subst e
    refine ⟨Ne.symm hp, h.mp.ne hg, fun cs f e => ?_⟩
    rw [hg] at e
    simp only [Option.some.injEq, Obj.cells.injEq] at e
    exact ht e.2.1

set_option maxRecDepth 100000 in
set_option maxHeartbeats 2000000 in
theorem prepareNo_any (base p bm n : Nat) (E : Int → Ep) (img : List Int) (M : Int → Value) (vi : Value) (t : TypeId) (e b : Int) (w : World) (h : Vs base w p bm n E img M vi t) (he : (Lit.int .i64 e).wf = true) (hno : e < 1 ∨ b < 1 ∨ b ≤ (E e).pr) :
    Calls Try.prog 28 #[.pointer (some ⟨p, 0, none⟩), .int .i64 e, .int .i64 b] w fun en w' => en = .returned (voteR 6 (E e).pr 0 (.slice none 0 0)) ∧ Vs base w' p bm n E img M vi t ∧ Bl w w' := by
  obtain ⟨vv, hM, hvv, hap⟩ := h.ep e
  obtain ⟨va, vc, rfl⟩ : ∃ a c, vv = .slice a (E e).val.length c := by
    obtain ⟨a', c', e'⟩ := (ownsRow_sl hvv).len
    rw [ownsRow_len hvv] at e'
    exact ⟨a', c', e'⟩
  have hp := h.lt
  have c0 := h.c0
  have bA := hid ((Bl.refl w).alloc (.cells blankV 48))
  have hlook := (h.mp.bl bA.out).look e he
  rw [hM] at hlook
  unfold blankV at hlook
  have H := hid h
  clear h hvv hap hM
  have Hno := hid hno
  generalize (E e).pr = pr at *
  generalize (E e).ba = ba at *
  generalize (E e).val.length = vl at *
  have HR : Hid (∀ W, _) := fun W => refused_any pr ba va vl vc W
  have bB := hid (bA.out.alloc (.cells #[.int .i64 pr, .int .i64 ba, .slice va vl vc] 92))
  have HN := hid (heap_alloc_new w (.cells blankV 48))
  have fin : Hid (∀ w2, Bl ((w.alloc (.cells blankV 48)).alloc (.cells #[.int .i64 pr, .int .i64 ba, .slice va vl vc] 92)) w2 → w2.heap[w.heap.size]? = some (.cells blankV 48 (0, 0))) := fun w2 h2 => (h2.heap (by simp; omega)).trans ((Below.heap_alloc (w.alloc (.cells blankV 48)) _ w.heap.size (by simp)).trans HN.out)
  by_cases h1 : e < 1
  · clear hno
    go_enter Try.func28, Try.ntmps28
    go_wp2_with fail
    refine (HR.out _).mono ?_
    rintro en w2 ⟨rfl, hb2⟩
    have hN2 := fin.out w2 hb2
    have lN : w.heap.size < w2.heap.size := (Array.getElem?_eq_some_iff.1 hN2).1
    obtain ⟨n0, n1, n2, n3, f0, f1, f2, f3⟩ := blankV_row hN2
    have HN2 := hid hN2
    have HB2 := hid (bB.out.trans hb2)
    clear hN2 hb2
    go_wp2
    have F := Only.set4 (w := w2) (S := fun b => b = w.heap.size) rfl (.int .i64 6) (.int .i64 pr) (.int .i64 0) (.slice none 0 0)
    exact bodyPost_ret (v := voteR 6 pr 0 (.slice none 0 0)) (by simp [results, Try.results28, go_sem, voteR, n0, n1, n2, n3]) rfl ⟨rfl, (H.out.bl HB2.out).other F HN2.out (by decide) (by omega), HB2.out.trans_only F (fun n e => by omega)⟩
  · by_cases h2 : b < 1
    · clear hno
      go_enter Try.func28, Try.ntmps28
      go_wp2_with fail
      refine (HR.out _).mono ?_
      rintro en w2 ⟨rfl, hb2⟩
      have hN2 := fin.out w2 hb2
      have lN : w.heap.size < w2.heap.size := (Array.getElem?_eq_some_iff.1 hN2).1
      obtain ⟨n0, n1, n2, n3, f0, f1, f2, f3⟩ := blankV_row hN2
      have HN2 := hid hN2
      have HB2 := hid (bB.out.trans hb2)
      clear hN2 hb2
      go_wp2
      have F := Only.set4 (w := w2) (S := fun b => b = w.heap.size) rfl (.int .i64 6) (.int .i64 pr) (.int .i64 0) (.slice none 0 0)
      exact bodyPost_ret (v := voteR 6 pr 0 (.slice none 0 0)) (by simp [results, Try.results28, go_sem, voteR, n0, n1, n2, n3]) rfl ⟨rfl, (H.out.bl HB2.out).other F HN2.out (by decide) (by omega), HB2.out.trans_only F (fun n e => by omega)⟩
    · have h3 : b ≤ pr := by omega
      clear hno
      go_enter Try.func28, Try.ntmps28
      go_wp2_with fail
      refine (HR.out _).mono ?_
      rintro en w2 ⟨rfl, hb2⟩
      have hN2 := fin.out w2 hb2
      have lN : w.heap.size < w2.heap.size := (Array.getElem?_eq_some_iff.1 hN2).1
      obtain ⟨n0, n1, n2, n3, f0, f1, f2, f3⟩ := blankV_row hN2
      have HN2 := hid hN2
      have HB2 := hid (bB.out.trans hb2)
      clear hN2 hb2
      go_wp2
      have F := Only.set4 (w := w2) (S := fun b => b = w.heap.size) rfl (.int .i64 6) (.int .i64 pr) (.int .i64 0) (.slice none 0 0)
      exact bodyPost_ret (v := voteR 6 pr 0 (.slice none 0 0)) (by simp [results, Try.results28, go_sem, voteR, n0, n1, n2, n3]) rfl ⟨rfl, (H.out.bl HB2.out).other F HN2.out (by decide) (by omega), HB2.out.trans_only F (fun n e => by omega)⟩

set_option maxRecDepth 100000 in
set_option maxHeartbeats 2000000 in
theorem prepareYes_any (base p bm n : Nat) (E : Int → Ep) (img : List Int) (M : Int → Value) (vi : Value) (t : TypeId) (e b : Int) (w : World) (h : Vs base w p bm n E img M vi t) (hb : base ≤ w.heap.size) (hl : img.length ≤ 30000000) (hn : n ≤ 30000000) (he : (Lit.int .i64 e).wf = true) (hel : (E e).val.length ≤ 255) (h1 : 1 ≤ e) (h2 : 1 ≤ b) (h3 : (E e).pr < b) :
    Calls Try.prog 28 #[.pointer (some ⟨p, 0, none⟩), .int .i64 e, .int .i64 b] w fun en w' => ∃ M' vi' v', en = .returned (voteR 1 b (E e).ba v') ∧ w'.ownsRow w.heap.size 5 1 v' (E e).val.length ((E e).val.map B8) ∧ Vs base w' p bm (n + 1) (updE E e ⟨b, (E e).ba, (E e).val⟩) (img ++ recB 1 [e, b] []) M' vi' t ∧ Gone p bm M vi M' vi' w w' := by
  obtain ⟨vv, hM, hvv, hap⟩ := h.ep e
  obtain ⟨va, vc, rfl⟩ : ∃ a c, vv = .slice a (E e).val.length c := by
    obtain ⟨a', c', e'⟩ := (ownsRow_sl hvv).len
    rw [ownsRow_len hvv] at e'
    exact ⟨a', c', e'⟩
  have hp := h.lt
  have c0 := h.c0
  have bA := hid ((Bl.refl w).alloc (.cells blankV 48))
  have hlook := (h.mp.bl bA.out).look e he
  rw [hM] at hlook
  unfold blankV at hlook
  have HP : Hid (∀ W, Bl w W → _) := fun W hW => promise_any base p bm n E img M vi t e b W (h.bl hW) (Nat.le_trans hb hW.lt) hl hn he
  have H := hid h
  have HV := hid hvv
  have HA := hid hap
  clear h hvv hap hM
  generalize updE E e ⟨b, (E e).ba, (E e).val⟩ = E' at *
  generalize img ++ recB 1 [e, b] [] = img' at *
  generalize (E e).pr = pr at *
  generalize (E e).ba = ba at *
  generalize (E e).val = ev at *
  have bB := hid (bA.out.alloc (.cells #[.int .i64 pr, .int .i64 ba, .slice va ev.length vc] 92))
  have HN := hid (heap_alloc_new w (.cells blankV 48))
  have HN1 := hid ((Below.heap_alloc (w.alloc (.cells blankV 48)) (.cells #[.int .i64 pr, .int .i64 ba, .slice va ev.length vc] 92) w.heap.size (by simp)).trans HN.out)
  have HX := hid (heap_alloc_new (w.alloc (.cells blankV 48)) (.cells #[.int .i64 pr, .int .i64 ba, .slice va ev.length vc] 92))
  rw [show (w.alloc (.cells blankV 48)).heap.size = w.heap.size + 1 from by simp] at HX
  have HPP := hid (HP.out _ bB.out)
  have hne : Hid (∀ g, w.heap.size ≤ g → ¬ (g = p ∨ g = bm ∨ vi.ownBlock = some g)) := by
    rintro g hg (e | e | e)
    · omega
    · have := H.out.mp.lt; omega
    · have := (H.out.own.lt _ e).2; omega
  have h1' : ¬ e < 1 := by omega
  have h2' : ¬ b < 1 := by omega
  have h3' : ¬ b ≤ pr := by omega
  go_enter Try.func28, Try.ntmps28
  go_wp2_with fail
  refine HPP.out.mono ?_
  rintro en w2 ⟨M', vi', rfl, hv2, ho2⟩
  have hN2 := (ho2.only.block w.heap.size (by simp; omega) (hne.out _ (Nat.le_refl _))).trans HN1.out
  have hX2 := (ho2.only.block (w.heap.size + 1) (by simp) (hne.out _ (by omega))).trans HX.out
  have lN : w.heap.size < w2.heap.size := (Array.getElem?_eq_some_iff.1 hN2).1
  have lX : w.heap.size + 1 < w2.heap.size := (Array.getElem?_eq_some_iff.1 hX2).1
  have HN2 := hid hN2
  have x1 : w2.cell? ⟨w.heap.size + 1, 1, none⟩ = some (.int .i64 ba) := by rw [cell_of_row _ _ 1 _ 92 (0, 0) hX2]; rfl
  have x2 : w2.cell? ⟨w.heap.size + 1, 2, none⟩ = some (.slice va ev.length vc) := by rw [cell_of_row _ _ 2 _ 92 (0, 0) hX2]; rfl
  have HVW := hid (H.out.bl bB.out)
  have hvw := (Only.of_bl (S := fun _ => False) bB.out).owns HV.out fun _ _ e => e
  have HV2 := hid (ho2.only.owns hvw fun g e1 e2 => by
    rcases e2 with e2 | e2 | e2
    · exact HVW.out.own_ne hvw (by rw [e1, e2])
    · exact HVW.out.mp.ne_own hvw (by rw [e1, e2])
    · exact HA.out g e1 e2)
  have HVS := hid hv2
  have HO2 := hid (ho2.pre bB.out)
  obtain ⟨n0, n1, n2, n3, f0, f1, f2, f3⟩ := blankV_row hN2
  have HC : Hid (∀ W, Bl w2 W → Calls Try.prog 44 #[.slice va ev.length vc] W fun en w3 => ∃ ua uc, en = .returned (.slice ua ev.length uc) ∧ Bl w2 w3 ∧ w3.ownsRow w2.heap.size 5 1 (.slice ua ev.length uc) ev.length (ev.map B8)) := by
    intro W hW
    refine (clone_any (.slice va ev.length vc) ev W ((ownsRow_bs HV2.out).bl hW) (by omega)).mono ?_
    rintro en w3 ⟨u, rfl, hb1, hu⟩
    obtain ⟨ua, uc, rfl⟩ : ∃ a c, u = .slice a ev.length c := by
      obtain ⟨a', c', e'⟩ := (ownsRow_sl hu).len
      rw [ownsRow_len hu] at e'
      exact ⟨a', c', e'⟩
    exact ⟨ua, uc, rfl, hW.trans hb1, ownsRow_base hu fun g e => Nat.le_trans hW.lt (hu.lt g e).1⟩
  clear hN2 hX2 hvw hv2 ho2 HPP
  go_wp2_with fail
  go_region_held3 (fun W => W.cell? ⟨w.heap.size + 1, 1, none⟩ = some (.int .i64 ba) ∧ W.cell? ⟨w.heap.size + 1, 2, none⟩ = some (.slice va ev.length vc) ∧ w2.heap.size ≤ W.heap.size ∧ True) (first | go_keep | (simp only [true_and, and_true]; trivial))
    (first | (go_at_call 44; refine (HC.out _ (by exact (Bl.refl _).drewN _)).mono ?_; rintro en w3 ⟨ua, uc, rfl, hb3, hu3⟩; have y1 := (hb3.cell (o := 1) lX).trans x1; have y2 := (hb3.cell (o := 2) lX).trans x2; have l3 := hb3.lt; have m0 := (hb3.cell (o := 0) lN).trans n0; have m1 := (hb3.cell (o := 1) lN).trans n1; have m2 := (hb3.cell (o := 2) lN).trans n2; have m3 := (hb3.cell (o := 3) lN).trans n3; have k0 := (hb3.frozen (o := 0) lN).trans f0; have k1 := (hb3.frozen (o := 1) lN).trans f1; have k2 := (hb3.frozen (o := 2) lN).trans f2; have k3 := (hb3.frozen (o := 3) lN).trans f3; have HB3 := hid hb3; have HU3 := hid hu3; clear hb3 hu3))
  all_goals
    go_wp2
    have hN3 : w3.heap[w.heap.size]? = some (.cells blankV 48 (0, 0)) := (HB3.out.heap lN).trans HN2.out
    have F := Only.set4 (w := w3) (S := fun b => b = w.heap.size) rfl (.int .i64 1) (.int .i64 b) (.int .i64 ba) (.slice ua ev.length uc)
    have hu := ownsRow_base (base' := w.heap.size) HU3.out fun g e => Nat.le_trans (Nat.le_of_lt lN) (HU3.out.lt g e).1
    exact bodyPost_ret (v := voteR 1 b ba (.slice ua ev.length uc)) (by simp [results, Try.results28, go_sem, voteR, m0, m1, m2, m3]) rfl ⟨M', vi', _, rfl, F.owns hu fun g e e' => own_ne_block hu hN3 (by decide) (by rw [e, e']), (HVS.out.bl HB3.out).other F hN3 (by decide) (by omega), (HO2.out.post HB3.out).post_new F (fun g e => Nat.le_of_eq e.symm)⟩
end Go.Proofs.Ytbghhbpacijmmaa
