-- bytes.Equal, of any two lists.
-- Accept.
import Derived.Test.YtkgjpfamjedncaaGreatBytesRead
import Derived.Test.YtkgjpfamjedncaaGreatVPrep
namespace Go.Proofs.YtkgjpfamjedncaaGreat
open Go.RowKit
attribute [local go_sem ↓] Go.wp_at_zero Go.wp_at_succ

theorem strOf_list (ys : List Int) : (strOf ys).data.toList = ys.map (fun n => UInt8.ofNat n.toNat) := by
  have key : ∀ (ys : List Int) (r : ByteArray), (ys.foldl (fun r n => r.push (UInt8.ofNat n.toNat)) r).data.toList = r.data.toList ++ ys.map (fun n => UInt8.ofNat n.toNat) := by
    intro ys
    induction ys with
    | nil => intro r; simp
    | cons y ys ih => intro r; rw [List.foldl_cons, ih]; simp [ByteArray.push]
  have := key ys ByteArray.empty
  unfold strOf
  rw [this]; rfl
theorem strOf_inj : ∀ {xs ys : List Int}, (∀ d ∈ xs, 0 ≤ d ∧ d ≤ 255) → (∀ d ∈ ys, 0 ≤ d ∧ d ≤ 255) → (strOf xs).toList = (strOf ys).toList → xs = ys := by
  intro xs ys hx hy h
  have h1 : xs.map (fun n : Int => UInt8.ofNat n.toNat) = ys.map (fun n => UInt8.ofNat n.toNat) := by rw [← strOf_list, ← strOf_list, ← Go.ByteArray.toList_eq, ← Go.ByteArray.toList_eq, h]
  clear h
  induction xs generalizing ys with
  | nil =>
    cases ys with
    | nil => rfl
    | cons y ys => simp at h1
  | cons x xs ih =>
    cases ys with
    | nil => simp at h1
    | cons y ys =>
      simp only [List.map_cons, List.cons.injEq] at h1
      have e := congrArg UInt8.toNat h1.1
      simp only [UInt8.toNat_ofNat'] at e
      have a1 := hx x (List.mem_cons_self ..)
      have a2 := hy y (List.mem_cons_self ..)
      rw [ih (fun d hd => hx d (List.mem_cons_of_mem _ hd)) (fun d hd => hy d (List.mem_cons_of_mem _ hd)) h1.2]
      congr 1
      omega

set_option maxRecDepth 100000 in
set_option maxHeartbeats 400000 in
theorem equalNo_any (u v : Value) (xs ys : List Int) (w : World) (hu : Sl w u (xs.map B8)) (hv : Sl w v (ys.map B8)) (hx : ∀ d ∈ xs, 0 ≤ d ∧ d ≤ 255) (hy : ∀ d ∈ ys, 0 ≤ d ∧ d ≤ 255) (hne : xs ≠ ys) :
    Calls Tryz.prog 105 #[u, v] w fun e w' => e = .returned (.bool false) ∧ w' = w := by
  obtain ⟨a, c, e⟩ := hu.len
  obtain ⟨a', c', e'⟩ := hv.len
  have k1 := conv_any u xs w hu
  have k2 := conv_any v ys w hv
  have hs : ¬ (strOf xs).toList = (strOf ys).toList := fun h => hne (strOf_inj hx hy h)
  subst e e'
  simp only [List.length_map] at k1 k2 ⊢
  generalize strOf xs = st at *
  generalize strOf ys = st2 at *
  clear hu hv hx hy hne
  go_enter Tryz.func105, Tryz.ntmps105
  go_wp2
  go_ret
  exact ⟨ret_bool (by simp [hs]), rfl⟩
end Go.Proofs.YtkgjpfamjedncaaGreat

namespace Go.Proofs.YtkgjpfamjedncaaGreat
open Go.RowKit Go.Maps
attribute [local go_sem ↓] Go.wp_at_zero Go.wp_at_succ

set_option maxRecDepth 100000 in
set_option maxHeartbeats 2000000 in
theorem acceptNo_any (base p bm n : Nat) (E : Int → Ep) (img : List Int) (M : Int → Value) (vi : Value) (t : TypeId) (e b : Int) (ua : Option Addr) (un uc : Nat) (w : World) (h : Vs base w p bm n E img M vi t) (he : (Lit.int .i64 e).wf = true) (hun : (un : Int) ≤ 9223372036854775807) (hno : e < 1 ∨ b < 1 ∨ b < (E e).pr ∨ ¬ (1 ≤ un ∧ un ≤ 255)) :
    Calls Tryz.prog 82 #[.pointer (some ⟨p, 0, none⟩), .int .i64 e, .int .i64 b, .slice ua un uc] w fun en w' => en = .returned (voteR 6 (E e).pr 0 (.slice none 0 0)) ∧ Vs base w' p bm n E img M vi t ∧ Bl w w' := by
  obtain ⟨vv, hM, hvv, hap⟩ := h.ep e
  obtain ⟨va, vc, rfl⟩ : ∃ a c, vv = .slice a (E e).val.length c := by
    obtain ⟨a', c', e'⟩ := (ownsRow_sl hvv).len
    rw [ownsRow_len hvv] at e'
    exact ⟨a', c', e'⟩
  have hp := h.lt
  have c0 := h.c0
  have bA := hid ((Bl.refl w).alloc (.cells blankV 105))
  have hlook := (h.mp.bl bA.out).look e he
  rw [hM] at hlook
  unfold blankV at hlook
  have H := hid h
  clear h hvv hap hM
  generalize (E e).pr = pr at *
  generalize (E e).ba = ba at *
  generalize (E e).val.length = vl at *
  have HR : Hid (∀ W, _) := fun W => refused_any pr ba va vl vc W
  have HMV : Hid (∀ W, _) := fun W => mayBeVoted_any ua un uc W hun
  have bB := hid (bA.out.alloc (.cells #[.int .i64 pr, .int .i64 ba, .slice va vl vc] 155))
  have HN := hid (heap_alloc_new w (.cells blankV 105))
  have fin : Hid (∀ w2, Bl ((w.alloc (.cells blankV 105)).alloc (.cells #[.int .i64 pr, .int .i64 ba, .slice va vl vc] 155)) w2 → w2.heap[w.heap.size]? = some (.cells blankV 105 (0, 0))) := fun w2 h2 => (h2.heap (by simp; omega)).trans ((Below.heap_alloc (w.alloc (.cells blankV 105)) _ w.heap.size (by simp)).trans HN.out)
  by_cases h1 : e < 1
  · clear hno
    go_enter Tryz.func82, Tryz.ntmps82
    go_wp2_with fail
    refine (HR.out _).mono ?_
    rintro en w2 ⟨rfl, hb2⟩
    have hN2 := fin.out w2 (hb2)
    have lN : w.heap.size < w2.heap.size := (Array.getElem?_eq_some_iff.1 hN2).1
    obtain ⟨n0, n1, n2, n3, f0, f1, f2, f3⟩ := blankV_row hN2
    have HN2 := hid hN2
    have HB2 := hid (bB.out.trans (hb2))
    clear hN2 hb2
    go_wp2
    have F := Only.set4 (w := w2) (S := fun b => b = w.heap.size) rfl (.int .i64 6) (.int .i64 pr) (.int .i64 0) (.slice none 0 0)
    exact bodyPost_ret (v := voteR 6 pr 0 (.slice none 0 0)) (by simp [results, Tryz.results82, go_sem, voteR, n0, n1, n2, n3]) rfl ⟨rfl, (H.out.bl HB2.out).other F HN2.out (by decide) (by omega), HB2.out.trans_only F (fun n e => by omega)⟩
  · by_cases h2 : b < 1
    · clear hno
      go_enter Tryz.func82, Tryz.ntmps82
      go_wp2_with fail
      refine (HR.out _).mono ?_
      rintro en w2 ⟨rfl, hb2⟩
      have hN2 := fin.out w2 (hb2)
      have lN : w.heap.size < w2.heap.size := (Array.getElem?_eq_some_iff.1 hN2).1
      obtain ⟨n0, n1, n2, n3, f0, f1, f2, f3⟩ := blankV_row hN2
      have HN2 := hid hN2
      have HB2 := hid (bB.out.trans (hb2))
      clear hN2 hb2
      go_wp2
      have F := Only.set4 (w := w2) (S := fun b => b = w.heap.size) rfl (.int .i64 6) (.int .i64 pr) (.int .i64 0) (.slice none 0 0)
      exact bodyPost_ret (v := voteR 6 pr 0 (.slice none 0 0)) (by simp [results, Tryz.results82, go_sem, voteR, n0, n1, n2, n3]) rfl ⟨rfl, (H.out.bl HB2.out).other F HN2.out (by decide) (by omega), HB2.out.trans_only F (fun n e => by omega)⟩
    · by_cases h3 : b < pr
      · clear hno
        go_enter Tryz.func82, Tryz.ntmps82
        go_wp2_with fail
        refine (HR.out _).mono ?_
        rintro en w2 ⟨rfl, hb2⟩
        have hN2 := fin.out w2 (hb2)
        have lN : w.heap.size < w2.heap.size := (Array.getElem?_eq_some_iff.1 hN2).1
        obtain ⟨n0, n1, n2, n3, f0, f1, f2, f3⟩ := blankV_row hN2
        have HN2 := hid hN2
        have HB2 := hid (bB.out.trans (hb2))
        clear hN2 hb2
        go_wp2
        have F := Only.set4 (w := w2) (S := fun b => b = w.heap.size) rfl (.int .i64 6) (.int .i64 pr) (.int .i64 0) (.slice none 0 0)
        exact bodyPost_ret (v := voteR 6 pr 0 (.slice none 0 0)) (by simp [results, Tryz.results82, go_sem, voteR, n0, n1, n2, n3]) rfl ⟨rfl, (H.out.bl HB2.out).other F HN2.out (by decide) (by omega), HB2.out.trans_only F (fun n e => by omega)⟩
      · have h4 : decide (1 ≤ un ∧ un ≤ 255) = false := by rcases hno with h | h | h | h; omega; omega; omega; simp; omega
        rw [h4] at HMV
        clear hno h4
        go_enter Tryz.func82, Tryz.ntmps82
        go_wp2_with fail
        refine (HMV.out _).mono ?_
        rintro en w1 ⟨rfl, hb1⟩
        have hX1 : w1.heap[w.heap.size + 1]? = some (.cells #[.int .i64 pr, .int .i64 ba, .slice va vl vc] 155 (0, 0)) := by
          have := heap_alloc_new (w.alloc (.cells blankV 105)) (.cells #[.int .i64 pr, .int .i64 ba, .slice va vl vc] 155)
          rw [show (w.alloc (.cells blankV 105)).heap.size = w.heap.size + 1 from by simp] at this
          exact (hb1.heap (by simp)).trans this
        have lX : w.heap.size + 1 < w1.heap.size := (Array.getElem?_eq_some_iff.1 hX1).1
        have x0 : w1.cell? ⟨w.heap.size + 1, 0, none⟩ = some (.int .i64 pr) := by rw [cell_of_row _ _ 0 _ 155 (0, 0) hX1]; rfl
        have x1 : w1.cell? ⟨w.heap.size + 1, 1, none⟩ = some (.int .i64 ba) := by rw [cell_of_row _ _ 1 _ 155 (0, 0) hX1]; rfl
        have x2 : w1.cell? ⟨w.heap.size + 1, 2, none⟩ = some (.slice va vl vc) := by rw [cell_of_row _ _ 2 _ 155 (0, 0) hX1]; rfl
        have HB1 := hid hb1
        clear hb1 hX1
        go_wp2_with fail
        refine (HR.out _).mono ?_
        rintro en w2 ⟨rfl, hb2⟩
        have hN2 := fin.out w2 (HB1.out.trans hb2)
        have lN : w.heap.size < w2.heap.size := (Array.getElem?_eq_some_iff.1 hN2).1
        obtain ⟨n0, n1, n2, n3, f0, f1, f2, f3⟩ := blankV_row hN2
        have HN2 := hid hN2
        have HB2 := hid (bB.out.trans (HB1.out.trans hb2))
        clear hN2 hb2
        go_wp2
        have F := Only.set4 (w := w2) (S := fun b => b = w.heap.size) rfl (.int .i64 6) (.int .i64 pr) (.int .i64 0) (.slice none 0 0)
        exact bodyPost_ret (v := voteR 6 pr 0 (.slice none 0 0)) (by simp [results, Tryz.results82, go_sem, voteR, n0, n1, n2, n3]) rfl ⟨rfl, (H.out.bl HB2.out).other F HN2.out (by decide) (by omega), HB2.out.trans_only F (fun n e => by omega)⟩

set_option maxRecDepth 100000 in
set_option maxHeartbeats 2000000 in
theorem acceptNew_any (base p bm n : Nat) (E : Int → Ep) (img : List Int) (M : Int → Value) (vi : Value) (t : TypeId) (e b : Int) (v : Value) (ys : List Int) (w : World) (h : Vs base w p bm n E img M vi t) (hb : base ≤ w.heap.size) (hl : img.length ≤ 30000000) (hn : n ≤ 30000000) (he : (Lit.int .i64 e).wf = true)
    (hv : Bs w v (ys.map B8)) (hy1 : 1 ≤ ys.length) (hy : ys.length ≤ 255) (hvb : ∀ g, v.ownBlock = some g → g < w.heap.size ∧ vi.ownBlock ≠ some g ∧ g ≠ bm) (_hys : ∀ d ∈ ys, 0 ≤ d ∧ d ≤ 255) (_hev : ∀ d ∈ (E e).val, 0 ≤ d ∧ d ≤ 255) (h1 : 1 ≤ e) (h2 : 1 ≤ b) (h3 : (E e).pr ≤ b) (hne : b ≠ (E e).ba) :
    Calls Tryz.prog 82 #[.pointer (some ⟨p, 0, none⟩), .int .i64 e, .int .i64 b, v] w fun en w' => ∃ M' vi', en = .returned (voteR 1 b 0 (.slice none 0 0)) ∧ Vs base w' p bm (n + 1) (updE E e ⟨b, b, ys⟩) (img ++ recB 2 [e, b] ys) M' vi' t ∧ Gone p bm M vi M' vi' w w' := by
  obtain ⟨vv, hM, hvv, hap⟩ := h.ep e
  obtain ⟨va, vc, rfl⟩ : ∃ a c, vv = .slice a (E e).val.length c := by
    obtain ⟨a', c', e'⟩ := (ownsRow_sl hvv).len
    rw [ownsRow_len hvv] at e'
    exact ⟨a', c', e'⟩
  have hp := h.lt
  have c0 := h.c0
  have bA := hid ((Bl.refl w).alloc (.cells blankV 105))
  have hlook := (h.mp.bl bA.out).look e he
  rw [hM] at hlook
  unfold blankV at hlook
  obtain ⟨ua, uc, ev⟩ := hv.len
  rw [List.length_map] at ev
  subst ev
  have H := hid h
  have HV := hid hvv
  have HU := hid hv
  have HVO : Hid (∀ W, Bl w W → _) := fun W hW => vote_any base p bm n E img M vi t e b (.slice ua ys.length uc) ys W (h.bl hW) (Nat.le_trans hb hW.lt) hl hn he (hv.bl hW) hy (fun g e => ⟨Nat.lt_of_lt_of_le (hvb g e).1 hW.lt, (hvb g e).2⟩)
  clear h hvv hap hM hvb hv
  generalize updE E e ⟨b, b, ys⟩ = E' at *
  generalize img ++ recB 2 [e, b] ys = img' at *
  clear _hys _hev
  generalize (E e).pr = pr at *
  generalize (E e).ba = ba at *
  generalize (E e).val = ev at *
  have HMV : Hid (∀ W, Calls Tryz.prog 104 #[.slice ua ys.length uc] W fun e w' => e = .returned (.bool true) ∧ Bl W w') := fun W => by
    have := mayBeVoted_any ua ys.length uc W (by omega)
    rw [show decide (1 ≤ ys.length ∧ ys.length ≤ 255) = true by simp; omega] at this
    exact this
  have bB := hid (bA.out.alloc (.cells #[.int .i64 pr, .int .i64 ba, .slice va ev.length vc] 155))
  have HN := hid (heap_alloc_new w (.cells blankV 105))
  have HN1 := hid ((Below.heap_alloc (w.alloc (.cells blankV 105)) (.cells #[.int .i64 pr, .int .i64 ba, .slice va ev.length vc] 155) w.heap.size (by simp)).trans HN.out)
  have HX := hid (heap_alloc_new (w.alloc (.cells blankV 105)) (.cells #[.int .i64 pr, .int .i64 ba, .slice va ev.length vc] 155))
  rw [show (w.alloc (.cells blankV 105)).heap.size = w.heap.size + 1 from by simp] at HX
  have hno : Hid (∀ g, w.heap.size ≤ g → ¬ (g = p ∨ g = bm ∨ vi.ownBlock = some g)) := by
    rintro g hg (e | e | e)
    · omega
    · have := H.out.mp.lt; omega
    · have := (H.out.own.lt _ e).2; omega
  have hnb : (b == ba) = false := by simpa using hne
  have hne := hno
  have h1' : ¬ e < 1 := by omega
  have h2' : ¬ b < 1 := by omega
  have h3' : ¬ b < pr := by omega
  go_enter Tryz.func82, Tryz.ntmps82
  go_wp2_with fail
  refine (HMV.out _).mono ?_
  rintro en w1 ⟨rfl, hb1⟩
  have hX1 := (hb1.heap (by simp)).trans HX.out
  have lX : w.heap.size + 1 < w1.heap.size := (Array.getElem?_eq_some_iff.1 hX1).1
  have x0 : w1.cell? ⟨w.heap.size + 1, 0, none⟩ = some (.int .i64 pr) := by rw [cell_of_row _ _ 0 _ 155 (0, 0) hX1]; rfl
  have x1 : w1.cell? ⟨w.heap.size + 1, 1, none⟩ = some (.int .i64 ba) := by rw [cell_of_row _ _ 1 _ 155 (0, 0) hX1]; rfl
  have x2 : w1.cell? ⟨w.heap.size + 1, 2, none⟩ = some (.slice va ev.length vc) := by rw [cell_of_row _ _ 2 _ 155 (0, 0) hX1]; rfl
  have HB1 := hid (bB.out.trans hb1)
  have HN2 := hid ((hb1.heap (by simp; omega)).trans HN1.out)
  have HS1 := hid ((ownsRow_sl HV.out).bl HB1.out)
  have HS2 := hid ((HU.out.sl).bl HB1.out)
  have HVB := hid (HVO.out w1 HB1.out)
  clear hb1 hX1 HVO HMV
  go_wp2_with fail
  refine HVB.out.mono ?_
  rintro en w2 ⟨M', vi', rfl, hv2, ho2⟩
  have hN3 := (ho2.only.block w.heap.size (by omega) (hne.out _ (Nat.le_refl _))).trans HN2.out
  have lN : w.heap.size < w2.heap.size := (Array.getElem?_eq_some_iff.1 hN3).1
  obtain ⟨n0, n1, n2, n3, f0, f1, f2, f3⟩ := blankV_row hN3
  have HN3 := hid hN3
  have HVS := hid hv2
  have HO2 := hid (ho2.pre HB1.out)
  clear hN3 hv2 ho2 HVB
  go_wp2
  have F := Only.set4 (w := w2) (S := fun b => b = w.heap.size) rfl (.int .i64 1) (.int .i64 b) (.int .i64 0) (.slice none 0 0)
  exact bodyPost_ret (v := voteR 1 b 0 (.slice none 0 0)) (by simp [results, Tryz.results82, go_sem, voteR, n0, n1, n2, n3]) rfl ⟨M', vi', rfl, HVS.out.other F HN3.out (by decide) (by omega), HO2.out.post_new F (fun g e => Nat.le_of_eq e.symm)⟩

set_option maxRecDepth 100000 in
set_option maxHeartbeats 2000000 in
theorem acceptNew2_any (base p bm n : Nat) (E : Int → Ep) (img : List Int) (M : Int → Value) (vi : Value) (t : TypeId) (e b : Int) (v : Value) (ys : List Int) (w : World) (h : Vs base w p bm n E img M vi t) (hb : base ≤ w.heap.size) (hl : img.length ≤ 30000000) (hn : n ≤ 30000000) (he : (Lit.int .i64 e).wf = true)
    (hv : Bs w v (ys.map B8)) (hy1 : 1 ≤ ys.length) (hy : ys.length ≤ 255) (hvb : ∀ g, v.ownBlock = some g → g < w.heap.size ∧ vi.ownBlock ≠ some g ∧ g ≠ bm) (hys : ∀ d ∈ ys, 0 ≤ d ∧ d ≤ 255) (hev : ∀ d ∈ (E e).val, 0 ≤ d ∧ d ≤ 255) (h1 : 1 ≤ e) (h2 : 1 ≤ b) (h3 : (E e).pr ≤ b) (hbb : b = (E e).ba) (hyv : ys ≠ (E e).val) :
    Calls Tryz.prog 82 #[.pointer (some ⟨p, 0, none⟩), .int .i64 e, .int .i64 b, v] w fun en w' => ∃ M' vi', en = .returned (voteR 1 b 0 (.slice none 0 0)) ∧ Vs base w' p bm (n + 1) (updE E e ⟨b, b, ys⟩) (img ++ recB 2 [e, b] ys) M' vi' t ∧ Gone p bm M vi M' vi' w w' := by
  obtain ⟨vv, hM, hvv, hap⟩ := h.ep e
  obtain ⟨va, vc, rfl⟩ : ∃ a c, vv = .slice a (E e).val.length c := by
    obtain ⟨a', c', e'⟩ := (ownsRow_sl hvv).len
    rw [ownsRow_len hvv] at e'
    exact ⟨a', c', e'⟩
  have hp := h.lt
  have c0 := h.c0
  have bA := hid ((Bl.refl w).alloc (.cells blankV 105))
  have hlook := (h.mp.bl bA.out).look e he
  rw [hM] at hlook
  unfold blankV at hlook
  obtain ⟨ua, uc, ev⟩ := hv.len
  rw [List.length_map] at ev
  subst ev
  have H := hid h
  have HV := hid hvv
  have HU := hid hv
  have HVO : Hid (∀ W, Bl w W → _) := fun W hW => vote_any base p bm n E img M vi t e b (.slice ua ys.length uc) ys W (h.bl hW) (Nat.le_trans hb hW.lt) hl hn he (hv.bl hW) hy (fun g e => ⟨Nat.lt_of_lt_of_le (hvb g e).1 hW.lt, (hvb g e).2⟩)
  clear h hvv hap hM hvb hv
  generalize updE E e ⟨b, b, ys⟩ = E' at *
  generalize img ++ recB 2 [e, b] ys = img' at *
  generalize (E e).pr = pr at *
  generalize (E e).ba = ba at *
  generalize (E e).val = ev at *
  have HMV : Hid (∀ W, Calls Tryz.prog 104 #[.slice ua ys.length uc] W fun e w' => e = .returned (.bool true) ∧ Bl W w') := fun W => by
    have := mayBeVoted_any ua ys.length uc W (by omega)
    rw [show decide (1 ≤ ys.length ∧ ys.length ≤ 255) = true by simp; omega] at this
    exact this
  have bB := hid (bA.out.alloc (.cells #[.int .i64 pr, .int .i64 ba, .slice va ev.length vc] 155))
  have HN := hid (heap_alloc_new w (.cells blankV 105))
  have HN1 := hid ((Below.heap_alloc (w.alloc (.cells blankV 105)) (.cells #[.int .i64 pr, .int .i64 ba, .slice va ev.length vc] 155) w.heap.size (by simp)).trans HN.out)
  have HX := hid (heap_alloc_new (w.alloc (.cells blankV 105)) (.cells #[.int .i64 pr, .int .i64 ba, .slice va ev.length vc] 155))
  rw [show (w.alloc (.cells blankV 105)).heap.size = w.heap.size + 1 from by simp] at HX
  have hne : Hid (∀ g, w.heap.size ≤ g → ¬ (g = p ∨ g = bm ∨ vi.ownBlock = some g)) := by
    rintro g hg (e | e | e)
    · omega
    · have := H.out.mp.lt; omega
    · have := (H.out.own.lt _ e).2; omega
  have Hyv := hid hyv
  have Hys := hid hys
  have Hev := hid hev
  subst hbb
  clear hyv hys hev
  have h1' : ¬ e < 1 := by omega
  have h2' : ¬ b < 1 := by omega
  have h3' : ¬ b < pr := by omega
  go_enter Tryz.func82, Tryz.ntmps82
  go_wp2_with fail
  refine (HMV.out _).mono ?_
  rintro en w1 ⟨rfl, hb1⟩
  have hX1 := (hb1.heap (by simp)).trans HX.out
  have lX : w.heap.size + 1 < w1.heap.size := (Array.getElem?_eq_some_iff.1 hX1).1
  have x0 : w1.cell? ⟨w.heap.size + 1, 0, none⟩ = some (.int .i64 pr) := by rw [cell_of_row _ _ 0 _ 155 (0, 0) hX1]; rfl
  have x1 : w1.cell? ⟨w.heap.size + 1, 1, none⟩ = some (.int .i64 b) := by rw [cell_of_row _ _ 1 _ 155 (0, 0) hX1]; rfl
  have x2 : w1.cell? ⟨w.heap.size + 1, 2, none⟩ = some (.slice va ev.length vc) := by rw [cell_of_row _ _ 2 _ 155 (0, 0) hX1]; rfl
  have HB1 := hid (bB.out.trans hb1)
  have HN2 := hid ((hb1.heap (by simp; omega)).trans HN1.out)
  have HS1 := hid ((ownsRow_sl HV.out).bl HB1.out)
  have HS2 := hid ((HU.out.sl).bl HB1.out)
  have HVB := hid (HVO.out w1 HB1.out)
  clear hb1 hX1 HVO HMV
  go_wp2_with fail
  refine (equalNo_any _ _ ys ev w1 HS2.out (by exact HS1.out) Hys.out Hev.out Hyv.out).mono ?_
  rintro en W ⟨rfl, rfl⟩
  go_wp2_with fail
  refine HVB.out.mono ?_
  rintro en w2 ⟨M', vi', rfl, hv2, ho2⟩
  have hN3 := (ho2.only.block w.heap.size (by omega) (hne.out _ (Nat.le_refl _))).trans HN2.out
  have lN : w.heap.size < w2.heap.size := (Array.getElem?_eq_some_iff.1 hN3).1
  obtain ⟨n0, n1, n2, n3, f0, f1, f2, f3⟩ := blankV_row hN3
  have HN3 := hid hN3
  have HVS := hid hv2
  have HO2 := hid (ho2.pre HB1.out)
  clear hN3 hv2 ho2 HVB
  go_wp2
  have F := Only.set4 (w := w2) (S := fun b => b = w.heap.size) rfl (.int .i64 1) (.int .i64 b) (.int .i64 0) (.slice none 0 0)
  exact bodyPost_ret (v := voteR 1 b 0 (.slice none 0 0)) (by simp [results, Tryz.results82, go_sem, voteR, n0, n1, n2, n3]) rfl ⟨M', vi', rfl, HVS.out.other F HN3.out (by decide) (by omega), HO2.out.post_new F (fun g e => Nat.le_of_eq e.symm)⟩

set_option maxRecDepth 100000 in
set_option maxHeartbeats 2000000 in
theorem acceptSame_any (base p bm n : Nat) (E : Int → Ep) (img : List Int) (M : Int → Value) (vi : Value) (t : TypeId) (e b : Int) (v : Value) (ys : List Int) (w : World) (h : Vs base w p bm n E img M vi t) (hb : base ≤ w.heap.size) (hl : img.length ≤ 30000000) (hn : n ≤ 30000000) (he : (Lit.int .i64 e).wf = true)
    (hv : Bs w v (ys.map B8)) (hy1 : 1 ≤ ys.length) (hy : ys.length ≤ 255) (hvb : ∀ g, v.ownBlock = some g → g < w.heap.size ∧ vi.ownBlock ≠ some g ∧ g ≠ bm) (_hys : ∀ d ∈ ys, 0 ≤ d ∧ d ≤ 255) (_hev : ∀ d ∈ (E e).val, 0 ≤ d ∧ d ≤ 255) (h1 : 1 ≤ e) (h2 : 1 ≤ b) (h3 : (E e).pr ≤ b) (hbb : b = (E e).ba) (hyv : ys = (E e).val) :
    Calls Tryz.prog 82 #[.pointer (some ⟨p, 0, none⟩), .int .i64 e, .int .i64 b, v] w fun en w' => en = .returned (voteR 1 b 0 (.slice none 0 0)) ∧ Vs base w' p bm n E img M vi t ∧ Bl w w' := by
  obtain ⟨vv, hM, hvv, hap⟩ := h.ep e
  obtain ⟨va, vc, rfl⟩ : ∃ a c, vv = .slice a (E e).val.length c := by
    obtain ⟨a', c', e'⟩ := (ownsRow_sl hvv).len
    rw [ownsRow_len hvv] at e'
    exact ⟨a', c', e'⟩
  have hp := h.lt
  have c0 := h.c0
  have bA := hid ((Bl.refl w).alloc (.cells blankV 105))
  have hlook := (h.mp.bl bA.out).look e he
  rw [hM] at hlook
  unfold blankV at hlook
  obtain ⟨ua, uc, ev⟩ := hv.len
  rw [List.length_map] at ev
  subst ev
  have H := hid h
  have HV := hid hvv
  have HU := hid hv
  have HVO : Hid (∀ W, Bl w W → _) := fun W hW => vote_any base p bm n E img M vi t e b (.slice ua ys.length uc) ys W (h.bl hW) (Nat.le_trans hb hW.lt) hl hn he (hv.bl hW) hy (fun g e => ⟨Nat.lt_of_lt_of_le (hvb g e).1 hW.lt, (hvb g e).2⟩)
  clear _hys _hev
  clear h hvv hap hM hvb hv
  generalize (E e).pr = pr at *
  generalize (E e).ba = ba at *
  generalize (E e).val = ev at *
  have HMV : Hid (∀ W, Calls Tryz.prog 104 #[.slice ua ys.length uc] W fun e w' => e = .returned (.bool true) ∧ Bl W w') := fun W => by
    have := mayBeVoted_any ua ys.length uc W (by omega)
    rw [show decide (1 ≤ ys.length ∧ ys.length ≤ 255) = true by simp; omega] at this
    exact this
  have bB := hid (bA.out.alloc (.cells #[.int .i64 pr, .int .i64 ba, .slice va ev.length vc] 155))
  have HN := hid (heap_alloc_new w (.cells blankV 105))
  have HN1 := hid ((Below.heap_alloc (w.alloc (.cells blankV 105)) (.cells #[.int .i64 pr, .int .i64 ba, .slice va ev.length vc] 155) w.heap.size (by simp)).trans HN.out)
  have HX := hid (heap_alloc_new (w.alloc (.cells blankV 105)) (.cells #[.int .i64 pr, .int .i64 ba, .slice va ev.length vc] 155))
  rw [show (w.alloc (.cells blankV 105)).heap.size = w.heap.size + 1 from by simp] at HX
  have hne : Hid (∀ g, w.heap.size ≤ g → ¬ (g = p ∨ g = bm ∨ vi.ownBlock = some g)) := by
    rintro g hg (e | e | e)
    · omega
    · have := H.out.mp.lt; omega
    · have := (H.out.own.lt _ e).2; omega
  subst hbb
  subst hyv
  have h1' : ¬ e < 1 := by omega
  have h2' : ¬ b < 1 := by omega
  have h3' : ¬ b < pr := by omega
  go_enter Tryz.func82, Tryz.ntmps82
  go_wp2_with fail
  refine (HMV.out _).mono ?_
  rintro en w1 ⟨rfl, hb1⟩
  have hX1 := (hb1.heap (by simp)).trans HX.out
  have lX : w.heap.size + 1 < w1.heap.size := (Array.getElem?_eq_some_iff.1 hX1).1
  have x0 : w1.cell? ⟨w.heap.size + 1, 0, none⟩ = some (.int .i64 pr) := by rw [cell_of_row _ _ 0 _ 155 (0, 0) hX1]; rfl
  have x1 : w1.cell? ⟨w.heap.size + 1, 1, none⟩ = some (.int .i64 b) := by rw [cell_of_row _ _ 1 _ 155 (0, 0) hX1]; rfl
  have x2 : w1.cell? ⟨w.heap.size + 1, 2, none⟩ = some (.slice va ys.length vc) := by rw [cell_of_row _ _ 2 _ 155 (0, 0) hX1]; rfl
  have HB1 := hid (bB.out.trans hb1)
  have HN2 := hid ((hb1.heap (by simp; omega)).trans HN1.out)
  have HS1 := hid ((ownsRow_sl HV.out).bl HB1.out)
  have HS2 := hid ((HU.out.sl).bl HB1.out)
  have HVB := hid (HVO.out w1 HB1.out)
  clear hb1 hX1 HVO HMV
  go_wp2_with fail
  refine (equal_any _ _ ys w1 HS2.out (by exact HS1.out)).mono ?_
  rintro en W ⟨rfl, rfl⟩
  have lN : w.heap.size < W.heap.size := by omega
  obtain ⟨n0, n1, n2, n3, f0, f1, f2, f3⟩ := blankV_row HN2.out
  go_wp2
  have F := Only.set4 (w := W) (S := fun b => b = w.heap.size) rfl (.int .i64 1) (.int .i64 b) (.int .i64 0) (.slice none 0 0)
  exact bodyPost_ret (v := voteR 1 b 0 (.slice none 0 0)) (by simp [results, Tryz.results82, go_sem, voteR, n0, n1, n2, n3]) rfl ⟨rfl, (H.out.bl HB1.out).other F HN2.out (by decide) (by omega), HB1.out.trans_only F (fun n e => by omega)⟩
end Go.Proofs.YtkgjpfamjedncaaGreat
