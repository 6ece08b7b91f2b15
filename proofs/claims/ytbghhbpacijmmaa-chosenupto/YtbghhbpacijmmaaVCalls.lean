-- What the calls of package furrow on a voter do.
import Derived.Test.YtbghhbpacijmmaaVFur
namespace Go.Proofs.Ytbghhbpacijmmaa
open Go.RowKit Go.Maps

abbrev nilV : Value := .slice none 0 0
theorem Vs.ne {base : Nat} {w : World} {p bm n : Nat} {E : Int → Ep} {img : List Int} {M : Int → Value} {vi : Value} {t : TypeId} (h : Vs base w p bm n E img M vi t) {g : Nat} (hg : w.heap.size ≤ g) : ¬ (g = p ∨ g = bm ∨ vi.ownBlock = some g) := by
  have := h.lt
  have := h.mp.lt
  rintro (e | e | e)
  · omega
  · omega
  · have := (h.own.lt _ e).2; omega

theorem fprepare_no (base p bm n : Nat) (E : Int → Ep) (img : List Int) (M : Int → Value) (vi : Value) (t : TypeId) (e b : Int) (w : World) (h : Vs base w p bm n E img M vi t) (he : (Lit.int .i64 e).wf = true) (hno : e < 1 ∨ b < 1 ∨ b ≤ (E e).pr) :
    Calls Try.prog 16 #[.pointer (some ⟨p, 0, none⟩), .int .i64 e, .int .i64 b] w fun en w' => en = .returned (voteR 6 (E e).pr 0 nilV) ∧ Vs base w' p bm n E img M vi t ∧ Bl w w' := by
  have bA := (Bl.refl w).alloc (.cells blankV 48)
  refine (wrap_prepare p e b w (fun wh pr ba v w1 => wh = 6 ∧ pr = (E e).pr ∧ ba = 0 ∧ v = nilV ∧ Vs base w1 p bm n E img M vi t ∧ Bl w w1) ?_).mono ?_
  · refine (prepareNo_any base p bm n E img M vi t e b _ (h.bl bA) he hno).mono ?_
    rintro en w1 ⟨rfl, hv, hb⟩
    exact ⟨_, _, _, _, _, _, rfl, ⟨rfl, rfl, rfl, rfl, hv, bA.trans hb⟩, (hb.heap (by simp)).trans (heap_alloc_new w _)⟩
  · rintro en w' ⟨_, _, _, _, w1, rfl, ⟨rfl, rfl, rfl, rfl, hv, hb⟩, hN, hO⟩
    have := h.lt
    exact ⟨rfl, hv.other hO hN (by decide) (by omega), hb.trans_only hO (fun n e => by omega)⟩

theorem fprepare_yes (base p bm n : Nat) (E : Int → Ep) (img : List Int) (M : Int → Value) (vi : Value) (t : TypeId) (e b : Int) (w : World) (h : Vs base w p bm n E img M vi t) (hb : base ≤ w.heap.size) (hl : img.length ≤ 30000000) (hn : n ≤ 30000000) (he : (Lit.int .i64 e).wf = true) (hel : (E e).val.length ≤ 255) (h1 : 1 ≤ e) (h2 : 1 ≤ b) (h3 : (E e).pr < b) :
    Calls Try.prog 16 #[.pointer (some ⟨p, 0, none⟩), .int .i64 e, .int .i64 b] w fun en w' => ∃ M' vi' v', en = .returned (voteR 1 b (E e).ba v') ∧ w'.ownsRow w.heap.size 5 1 v' (E e).val.length ((E e).val.map B8) ∧ Vs base w' p bm (n + 1) (updE E e ⟨b, (E e).ba, (E e).val⟩) (img ++ recB 1 [e, b] []) M' vi' t ∧ Gone p bm M vi M' vi' w w' := by
  have bA := (Bl.refl w).alloc (.cells blankV 48)
  refine (wrap_prepare p e b w (fun wh pr ba v w1 => wh = 1 ∧ pr = b ∧ ba = (E e).ba ∧ w1.ownsRow w.heap.size 5 1 v (E e).val.length ((E e).val.map B8) ∧ ∃ M' vi', Vs base w1 p bm (n + 1) (updE E e ⟨b, (E e).ba, (E e).val⟩) (img ++ recB 1 [e, b] []) M' vi' t ∧ Gone p bm M vi M' vi' w w1) ?_).mono ?_
  · refine (prepareYes_any base p bm n E img M vi t e b _ (h.bl bA) (Nat.le_trans hb bA.lt) hl hn he hel h1 h2 h3).mono ?_
    rintro en w1 ⟨M', vi', v', rfl, hv', hv, ho⟩
    obtain ⟨sa, sc, rfl⟩ := owned_slice' hv'
    exact ⟨_, _, _, _, _, _, rfl, ⟨rfl, rfl, rfl, ownsRow_base hv' fun g e => Nat.le_trans bA.lt (hv'.lt g e).1, M', vi', hv, ho.pre bA⟩, (ho.only.block _ (by simp) (h.ne (Nat.le_refl _))).trans (heap_alloc_new w _)⟩
  · rintro en w' ⟨_, _, _, v, w1, rfl, ⟨rfl, rfl, rfl, hv', M', vi', hv, ho⟩, hN, hO⟩
    have := h.lt
    exact ⟨M', vi', v, rfl, hO.owns hv' fun g e e' => own_ne_block hv' hN (by decide) (by rw [e, e']), hv.other hO hN (by decide) (by omega), ho.post_new hO (fun g e => Nat.le_of_eq e.symm)⟩

theorem faccept_no (base p bm n : Nat) (E : Int → Ep) (img : List Int) (M : Int → Value) (vi : Value) (t : TypeId) (e b : Int) (ua : Option Addr) (un uc : Nat) (w : World) (h : Vs base w p bm n E img M vi t) (he : (Lit.int .i64 e).wf = true) (hun : (un : Int) ≤ 9223372036854775807) (hno : e < 1 ∨ b < 1 ∨ b < (E e).pr ∨ ¬ (1 ≤ un ∧ un ≤ 255)) :
    Calls Try.prog 17 #[.pointer (some ⟨p, 0, none⟩), .int .i64 e, .int .i64 b, .slice ua un uc] w fun en w' => en = .returned (voteR 6 (E e).pr 0 nilV) ∧ Vs base w' p bm n E img M vi t ∧ Bl w w' := by
  have bA := (Bl.refl w).alloc (.cells blankV 48)
  refine (wrap_accept p e b ua un uc w (fun wh pr ba v w1 => wh = 6 ∧ pr = (E e).pr ∧ ba = 0 ∧ v = nilV ∧ Vs base w1 p bm n E img M vi t ∧ Bl w w1) ?_).mono ?_
  · refine (acceptNo_any base p bm n E img M vi t e b ua un uc _ (h.bl bA) he hun hno).mono ?_
    rintro en w1 ⟨rfl, hv, hb⟩
    exact ⟨_, _, _, _, _, _, rfl, ⟨rfl, rfl, rfl, rfl, hv, bA.trans hb⟩, (hb.heap (by simp)).trans (heap_alloc_new w _)⟩
  · rintro en w' ⟨_, _, _, _, w1, rfl, ⟨rfl, rfl, rfl, rfl, hv, hb⟩, hN, hO⟩
    have := h.lt
    exact ⟨rfl, hv.other hO hN (by decide) (by omega), hb.trans_only hO (fun n e => by omega)⟩

theorem faccept_same (base p bm n : Nat) (E : Int → Ep) (img : List Int) (M : Int → Value) (vi : Value) (t : TypeId) (e b : Int) (v : Value) (ys : List Int) (w : World) (h : Vs base w p bm n E img M vi t) (hb : base ≤ w.heap.size) (hl : img.length ≤ 30000000) (hn : n ≤ 30000000) (he : (Lit.int .i64 e).wf = true)
    (hv : Bs w v (ys.map B8)) (hy1 : 1 ≤ ys.length) (hy : ys.length ≤ 255) (hvb : ∀ g, v.ownBlock = some g → g < w.heap.size ∧ vi.ownBlock ≠ some g ∧ g ≠ bm) (hys : ∀ d ∈ ys, 0 ≤ d ∧ d ≤ 255) (hev : ∀ d ∈ (E e).val, 0 ≤ d ∧ d ≤ 255) (h1 : 1 ≤ e) (h2 : 1 ≤ b) (h3 : (E e).pr ≤ b) (hbb : b = (E e).ba) (hyv : ys = (E e).val) :
    Calls Try.prog 17 #[.pointer (some ⟨p, 0, none⟩), .int .i64 e, .int .i64 b, v] w fun en w' => en = .returned (voteR 1 b 0 nilV) ∧ Vs base w' p bm n E img M vi t ∧ Bl w w' := by
  have bA := (Bl.refl w).alloc (.cells blankV 48)
  obtain ⟨ua, uc, ev⟩ := hv.len
  subst ev
  refine (wrap_accept p e b ua _ uc w (fun wh pr ba v w1 => wh = 1 ∧ pr = b ∧ ba = 0 ∧ v = nilV ∧ Vs base w1 p bm n E img M vi t ∧ Bl w w1) ?_).mono ?_
  · refine (acceptSame_any base p bm n E img M vi t e b _ ys _ (h.bl bA) (Nat.le_trans hb bA.lt) hl hn he (hv.bl bA) hy1 hy (fun g e => ⟨Nat.lt_of_lt_of_le (hvb g e).1 bA.lt, (hvb g e).2⟩) hys hev h1 h2 h3 hbb hyv).mono ?_
    rintro en w1 ⟨rfl, hv, hb⟩
    exact ⟨_, _, _, _, _, _, rfl, ⟨rfl, rfl, rfl, rfl, hv, bA.trans hb⟩, (hb.heap (by simp)).trans (heap_alloc_new w _)⟩
  · rintro en w' ⟨_, _, _, _, w1, rfl, ⟨rfl, rfl, rfl, rfl, hv, hb⟩, hN, hO⟩
    have := h.lt
    exact ⟨rfl, hv.other hO hN (by decide) (by omega), hb.trans_only hO (fun n e => by omega)⟩

theorem faccept_new (base p bm n : Nat) (E : Int → Ep) (img : List Int) (M : Int → Value) (vi : Value) (t : TypeId) (e b : Int) (v : Value) (ys : List Int) (w : World) (h : Vs base w p bm n E img M vi t) (hb : base ≤ w.heap.size) (hl : img.length ≤ 30000000) (hn : n ≤ 30000000) (he : (Lit.int .i64 e).wf = true)
    (hv : Bs w v (ys.map B8)) (hy1 : 1 ≤ ys.length) (hy : ys.length ≤ 255) (hvb : ∀ g, v.ownBlock = some g → g < w.heap.size ∧ vi.ownBlock ≠ some g ∧ g ≠ bm) (hys : ∀ d ∈ ys, 0 ≤ d ∧ d ≤ 255) (hev : ∀ d ∈ (E e).val, 0 ≤ d ∧ d ≤ 255) (h1 : 1 ≤ e) (h2 : 1 ≤ b) (h3 : (E e).pr ≤ b) (hne : b ≠ (E e).ba ∨ ys ≠ (E e).val) :
    Calls Try.prog 17 #[.pointer (some ⟨p, 0, none⟩), .int .i64 e, .int .i64 b, v] w fun en w' => ∃ M' vi', en = .returned (voteR 1 b 0 nilV) ∧ Vs base w' p bm (n + 1) (updE E e ⟨b, b, ys⟩) (img ++ recB 2 [e, b] ys) M' vi' t ∧ Gone p bm M vi M' vi' w w' := by
  have bA := (Bl.refl w).alloc (.cells blankV 48)
  obtain ⟨ua, uc, ev⟩ := hv.len
  subst ev
  have key : Calls Try.prog 29 #[.pointer (some ⟨p, 0, none⟩), .int .i64 e, .int .i64 b, .slice ua (ys.map B8).length uc] (w.alloc (.cells blankV 48)) fun en w' => ∃ M' vi', en = .returned (voteR 1 b 0 nilV) ∧ Vs base w' p bm (n + 1) (updE E e ⟨b, b, ys⟩) (img ++ recB 2 [e, b] ys) M' vi' t ∧ Gone p bm M vi M' vi' (w.alloc (.cells blankV 48)) w' := by
    by_cases hbb : b = (E e).ba
    · exact acceptNew2_any base p bm n E img M vi t e b _ ys _ (h.bl bA) (Nat.le_trans hb bA.lt) hl hn he (hv.bl bA) hy1 hy (fun g e => ⟨Nat.lt_of_lt_of_le (hvb g e).1 bA.lt, (hvb g e).2⟩) hys hev h1 h2 h3 hbb (hne.resolve_left fun h => h hbb)
    · exact acceptNew_any base p bm n E img M vi t e b _ ys _ (h.bl bA) (Nat.le_trans hb bA.lt) hl hn he (hv.bl bA) hy1 hy (fun g e => ⟨Nat.lt_of_lt_of_le (hvb g e).1 bA.lt, (hvb g e).2⟩) hys hev h1 h2 h3 hbb
  refine (wrap_accept p e b ua _ uc w (fun wh pr ba v w1 => wh = 1 ∧ pr = b ∧ ba = 0 ∧ v = nilV ∧ ∃ M' vi', Vs base w1 p bm (n + 1) (updE E e ⟨b, b, ys⟩) (img ++ recB 2 [e, b] ys) M' vi' t ∧ Gone p bm M vi M' vi' w w1) ?_).mono ?_
  · refine key.mono ?_
    rintro en w1 ⟨M', vi', rfl, hv, ho⟩
    exact ⟨_, _, _, _, _, _, rfl, ⟨rfl, rfl, rfl, rfl, M', vi', hv, ho.pre bA⟩, (ho.only.block _ (by simp) (h.ne (Nat.le_refl _))).trans (heap_alloc_new w _)⟩
  · rintro en w' ⟨_, _, _, v, w1, rfl, ⟨rfl, rfl, rfl, rfl, M', vi', hv, ho⟩, hN, hO⟩
    have := h.lt
    exact ⟨M', vi', rfl, hv.other hO hN (by decide) (by omega), ho.post_new hO (fun g e => Nat.le_of_eq e.symm)⟩
end Go.Proofs.Ytbghhbpacijmmaa
