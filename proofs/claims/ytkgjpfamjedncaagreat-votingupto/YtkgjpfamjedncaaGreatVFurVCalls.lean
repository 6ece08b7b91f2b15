-- The calls of package furrow on a voter.
-- What the calls of package furrow on a voter do.
import Derived.Test.YtkgjpfamjedncaaGreatVOpen
namespace Go.Proofs.YtkgjpfamjedncaaGreat
open Go.RowKit Go.Maps
attribute [local go_sem ↓] Go.wp_at_zero Go.wp_at_succ

theorem owned_slice' {w : World} {B n : Nat} {v : Value} {xs : List Value} (h : w.ownsRow B 5 1 v n xs) : ∃ a c, v = .slice a n c := by
  obtain ⟨a', c', e'⟩ := (ownsRow_sl h).len
  rw [ownsRow_len h] at e'
  exact ⟨a', c', e'⟩

set_option maxRecDepth 100000 in
set_option maxHeartbeats 2000000 in
theorem openVoter_any (ad : Option Addr) (n cc : Nat) (rs : List Rc) (S : Nat → Int → Ep) (w : World) (hw : VWay rs S) (hl : (flat rs).length ≤ 30000000) (hd : Cut w ad n cc rs) :
    Calls Tryz.prog 33 #[.slice ad n cc] w fun e w' => ∃ k p bm M vi, e = .returned (.tuple #[.pointer (some ⟨p, 0, none⟩), .int .i64 0]) ∧ k ≤ rs.length ∧ off rs k ≤ n ∧ (∀ h : k < rs.length, n < off rs k + rs[k].bytes.length) ∧ w.heap.size ≤ p ∧ w.heap.size ≤ bm ∧ Vs w.heap.size w' p bm k (S k) (flat (rs.take k)) M vi 132 ∧ Bl w w' := by
  have HO := hid (vopen_any ad n cc rs S w hw hl hd)
  clear hw hd
  go_enter Tryz.func33, Tryz.ntmps33
  go_wp2_with fail
  refine HO.out.mono ?_
  rintro e w1 ⟨k, p, bm, M, vi, rfl, r1, r2, r3, r4, r5, r6, r7⟩
  obtain ⟨ia, ic, rfl⟩ := owned_slice' r6.own
  have c0 := r6.c0
  have c1 := r6.c1
  have hp := r6.lt
  have R1 := hid r1
  have R2 := hid r2
  have R3 := hid r3
  have R4 := hid r4
  have R5 := hid r5
  have R6 := hid r6
  have R7 := hid r7
  clear r1 r2 r3 r4 r5 r6 r7 HO
  go_wp2
  go_ret2
  have bC := (Bl.refl w1).alloc (.cells #[.map (some bm), .slice ia (flat (rs.take k)).length ic] 132)
  have hV := R6.out.bl bC
  exact ⟨k, w1.heap.size, bm, M, _, rfl, R1.out, R2.out, R3.out, R7.out.lt, R5.out, ⟨heap_alloc_new w1 _, .inr rfl, hV.mp, hV.ep, hV.own⟩, R7.out.alloc _⟩

set_option maxRecDepth 100000 in
set_option maxHeartbeats 1000000 in
theorem vimage_any (base p bm n : Nat) (E : Int → Ep) (img : List Int) (M : Int → Value) (vi : Value) (t : TypeId) (w : World) (h : Vs base w p bm n E img M vi t) (hl : img.length ≤ 30000000) :
    Calls Tryz.prog 79 #[.pointer (some ⟨p, 0, none⟩)] w fun e w' => ∃ v', e = .returned v' ∧ Bl w w' ∧ w'.ownsRow w.heap.size 5 1 v' img.length (img.map B8) := by
  have hp := h.lt
  have H := hid h
  clear h
  go_enter Tryz.func79, Tryz.ntmps79
  go_wp2_with fail
  refine (bytes_raw base p 1 _ img _ hp H.out.c1 H.out.own hl).mono ?_
  rintro e w' ⟨v', rfl, hb, hv⟩
  have HB := hid hb
  have HV := hid hv
  clear hb hv
  go_wp2
  go_ret
  exact ⟨_, rfl, HB.out, HV.out⟩

set_option maxRecDepth 100000 in
set_option maxHeartbeats 1000000 in
theorem fvimage_any (base p bm n : Nat) (E : Int → Ep) (img : List Int) (M : Int → Value) (vi : Value) (t : TypeId) (w : World) (h : Vs base w p bm n E img M vi t) (hl : img.length ≤ 30000000) :
    Calls Tryz.prog 50 #[.pointer (some ⟨p, 0, none⟩)] w fun e w' => ∃ v', e = .returned v' ∧ Bl w w' ∧ w'.ownsRow w.heap.size 5 1 v' img.length (img.map B8) := by
  have H := hid h
  clear h
  go_enter Tryz.func50, Tryz.ntmps50
  go_wp2_with fail
  refine (vimage_any base p bm n E img M vi t _ H.out hl).mono ?_
  rintro e w' ⟨v', rfl, hb, hv⟩
  have HB := hid hb
  have HV := hid hv
  clear hb hv
  go_wp2
  go_ret
  exact ⟨_, rfl, HB.out, HV.out⟩

/-- What a call of the voter answers, ahead of the answer's being laid into its own block. -/
def VInner (g : Nat) (Q : Int → Int → Int → Value → World → Prop) (e : Ending) (w1 : World) : Prop :=
  ∃ wh pr ba ra rn rc, e = .returned (voteR wh pr ba (.slice ra rn rc)) ∧ Q wh pr ba (.slice ra rn rc) w1 ∧ w1.heap[g]? = some (.cells blankV 105 (0, 0))
def VOuter (g : Nat) (Q : Int → Int → Int → Value → World → Prop) (e : Ending) (w' : World) : Prop :=
  ∃ wh pr ba v w1, e = .returned (voteR wh pr ba v) ∧ Q wh pr ba v w1 ∧ w1.heap[g]? = some (.cells blankV 105 (0, 0)) ∧ Only (fun b => b = g) w1 w'

set_option maxRecDepth 100000 in
set_option maxHeartbeats 2000000 in
theorem wrap_prepare (p : Nat) (x y : Int) (w : World) (Q : Int → Int → Int → Value → World → Prop)
    (h : Calls Tryz.prog 80 #[.pointer (some ⟨p, 0, none⟩), .int .i64 x, .int .i64 y] (w.alloc (.cells blankV 105)) (VInner w.heap.size Q)) :
    Calls Tryz.prog 52 #[.pointer (some ⟨p, 0, none⟩), .int .i64 x, .int .i64 y] w (VOuter w.heap.size Q) := by
  have H := hid h
  clear h
  go_enter Tryz.func52, Tryz.ntmps52
  go_wp2_with fail
  refine H.out.mono ?_
  rintro e w1 ⟨wh, pr, ba, ra, rn, rc, rfl, hQ, hN⟩
  have lN : w.heap.size < w1.heap.size := (Array.getElem?_eq_some_iff.1 hN).1
  obtain ⟨n0, n1, n2, n3, f0, f1, f2, f3⟩ := blankV_row hN
  have HN := hid hN
  have HQ := hid hQ
  clear hN hQ H
  unfold voteR
  go_wp2
  have F := Only.set4 (w := w1) (S := fun b => b = w.heap.size) rfl (.int .i64 wh) (.int .i64 pr) (.int .i64 ba) (.slice ra rn rc)
  exact bodyPost_ret (v := voteR wh pr ba (.slice ra rn rc)) (by simp [results, Tryz.results52, go_sem, voteR, n0, n1, n2, n3]) rfl ⟨wh, pr, ba, _, w1, rfl, HQ.out, HN.out, F⟩

set_option maxRecDepth 100000 in
set_option maxHeartbeats 2000000 in
theorem wrap_accept (p : Nat) (x y : Int) (va : Option Addr) (vn vc : Nat) (w : World) (Q : Int → Int → Int → Value → World → Prop)
    (h : Calls Tryz.prog 82 #[.pointer (some ⟨p, 0, none⟩), .int .i64 x, .int .i64 y, .slice va vn vc] (w.alloc (.cells blankV 105)) (VInner w.heap.size Q)) :
    Calls Tryz.prog 54 #[.pointer (some ⟨p, 0, none⟩), .int .i64 x, .int .i64 y, .slice va vn vc] w (VOuter w.heap.size Q) := by
  have H := hid h
  clear h
  go_enter Tryz.func54, Tryz.ntmps54
  go_wp2_with fail
  refine H.out.mono ?_
  rintro e w1 ⟨wh, pr, ba, ra, rn, rc, rfl, hQ, hN⟩
  have lN : w.heap.size < w1.heap.size := (Array.getElem?_eq_some_iff.1 hN).1
  obtain ⟨n0, n1, n2, n3, f0, f1, f2, f3⟩ := blankV_row hN
  have HN := hid hN
  have HQ := hid hQ
  clear hN hQ H
  unfold voteR
  go_wp2
  have F := Only.set4 (w := w1) (S := fun b => b = w.heap.size) rfl (.int .i64 wh) (.int .i64 pr) (.int .i64 ba) (.slice ra rn rc)
  exact bodyPost_ret (v := voteR wh pr ba (.slice ra rn rc)) (by simp [results, Tryz.results54, go_sem, voteR, n0, n1, n2, n3]) rfl ⟨wh, pr, ba, _, w1, rfl, HQ.out, HN.out, F⟩
end Go.Proofs.YtkgjpfamjedncaaGreat

namespace Go.Proofs.YtkgjpfamjedncaaGreat
open Go.RowKit Go.Maps

abbrev nilV : Value := .slice none 0 0
theorem Vs.ne {base : Nat} {w : World} {p bm n : Nat} {E : Int → Ep} {img : List Int} {M : Int → Value} {vi : Value} {t : TypeId} (h : Vs base w p bm n E img M vi t) {g : Nat} (hg : w.heap.size ≤ g) : ¬ (g = p ∨ g = bm ∨ vi.ownBlock = some g) := by
  have := h.lt
  have := h.mp.lt
  rintro (e | e | e)
  · omega
  · omega
  · have := (h.own.lt _ e).2; omega

theorem fprepare_no (base p bm n : Nat) (E : Int → Ep) (img : List Int) (M : Int → Value) (vi : Value) (t : TypeId) (e b : Int) (w : World) (h : Vs base w p bm n E img M vi t) (he : (Lit.int .i64 e).wf = true) (hno : e < 1 ∨ b < 1 ∨ b ≤ (E e).pr) :
    Calls Tryz.prog 52 #[.pointer (some ⟨p, 0, none⟩), .int .i64 e, .int .i64 b] w fun en w' => en = .returned (voteR 6 (E e).pr 0 nilV) ∧ Vs base w' p bm n E img M vi t ∧ Bl w w' := by
  have bA := (Bl.refl w).alloc (.cells blankV 105)
  refine (wrap_prepare p e b w (fun wh pr ba v w1 => wh = 6 ∧ pr = (E e).pr ∧ ba = 0 ∧ v = nilV ∧ Vs base w1 p bm n E img M vi t ∧ Bl w w1) ?_).mono ?_
  · refine (prepareNo_any base p bm n E img M vi t e b _ (h.bl bA) he hno).mono ?_
    rintro en w1 ⟨rfl, hv, hb⟩
    exact ⟨_, _, _, _, _, _, rfl, ⟨rfl, rfl, rfl, rfl, hv, bA.trans hb⟩, (hb.heap (by simp)).trans (heap_alloc_new w _)⟩
  · rintro en w' ⟨_, _, _, _, w1, rfl, ⟨rfl, rfl, rfl, rfl, hv, hb⟩, hN, hO⟩
    have := h.lt
    exact ⟨rfl, hv.other hO hN (by decide) (by omega), hb.trans_only hO (fun n e => by omega)⟩

theorem fprepare_yes (base p bm n : Nat) (E : Int → Ep) (img : List Int) (M : Int → Value) (vi : Value) (t : TypeId) (e b : Int) (w : World) (h : Vs base w p bm n E img M vi t) (hb : base ≤ w.heap.size) (hl : img.length ≤ 30000000) (hn : n ≤ 30000000) (he : (Lit.int .i64 e).wf = true) (hel : (E e).val.length ≤ 255) (h1 : 1 ≤ e) (h2 : 1 ≤ b) (h3 : (E e).pr < b) :
    Calls Tryz.prog 52 #[.pointer (some ⟨p, 0, none⟩), .int .i64 e, .int .i64 b] w fun en w' => ∃ M' vi' v', en = .returned (voteR 1 b (E e).ba v') ∧ w'.ownsRow w.heap.size 5 1 v' (E e).val.length ((E e).val.map B8) ∧ Vs base w' p bm (n + 1) (updE E e ⟨b, (E e).ba, (E e).val⟩) (img ++ recB 1 [e, b] []) M' vi' t ∧ Gone p bm M vi M' vi' w w' ∧ ∀ g, v'.ownBlock = some g → ¬ Foot M' vi' g := by
  have bA := (Bl.refl w).alloc (.cells blankV 105)
  refine (wrap_prepare p e b w (fun wh pr ba v w1 => wh = 1 ∧ pr = b ∧ ba = (E e).ba ∧ w1.ownsRow w.heap.size 5 1 v (E e).val.length ((E e).val.map B8) ∧ ∃ M' vi', Vs base w1 p bm (n + 1) (updE E e ⟨b, (E e).ba, (E e).val⟩) (img ++ recB 1 [e, b] []) M' vi' t ∧ Gone p bm M vi M' vi' w w1 ∧ ∀ g, v.ownBlock = some g → ¬ Foot M' vi' g) ?_).mono ?_
  · refine (prepareYes_any base p bm n E img M vi t e b _ (h.bl bA) (Nat.le_trans hb bA.lt) hl hn he hel h1 h2 h3).mono ?_
    rintro en w1 ⟨M', vi', v', rfl, hv', hv, ho, hd⟩
    obtain ⟨sa, sc, rfl⟩ := owned_slice' hv'
    exact ⟨_, _, _, _, _, _, rfl, ⟨rfl, rfl, rfl, ownsRow_base hv' fun g e => Nat.le_trans bA.lt (hv'.lt g e).1, M', vi', hv, ho.pre bA, hd⟩, (ho.only.block _ (by simp) (h.ne (Nat.le_refl _))).trans (heap_alloc_new w _)⟩
  · rintro en w' ⟨_, _, _, v, w1, rfl, ⟨rfl, rfl, rfl, hv', M', vi', hv, ho, hd⟩, hN, hO⟩
    have := h.lt
    exact ⟨M', vi', v, rfl, hO.owns hv' fun g e e' => own_ne_block hv' hN (by decide) (by rw [e, e']), hv.other hO hN (by decide) (by omega), ho.post_new hO (fun g e => Nat.le_of_eq e.symm), hd⟩

theorem faccept_no (base p bm n : Nat) (E : Int → Ep) (img : List Int) (M : Int → Value) (vi : Value) (t : TypeId) (e b : Int) (ua : Option Addr) (un uc : Nat) (w : World) (h : Vs base w p bm n E img M vi t) (he : (Lit.int .i64 e).wf = true) (hun : (un : Int) ≤ 9223372036854775807) (hno : e < 1 ∨ b < 1 ∨ b < (E e).pr ∨ ¬ (1 ≤ un ∧ un ≤ 255)) :
    Calls Tryz.prog 54 #[.pointer (some ⟨p, 0, none⟩), .int .i64 e, .int .i64 b, .slice ua un uc] w fun en w' => en = .returned (voteR 6 (E e).pr 0 nilV) ∧ Vs base w' p bm n E img M vi t ∧ Bl w w' := by
  have bA := (Bl.refl w).alloc (.cells blankV 105)
  refine (wrap_accept p e b ua un uc w (fun wh pr ba v w1 => wh = 6 ∧ pr = (E e).pr ∧ ba = 0 ∧ v = nilV ∧ Vs base w1 p bm n E img M vi t ∧ Bl w w1) ?_).mono ?_
  · refine (acceptNo_any base p bm n E img M vi t e b ua un uc _ (h.bl bA) he hun hno).mono ?_
    rintro en w1 ⟨rfl, hv, hb⟩
    exact ⟨_, _, _, _, _, _, rfl, ⟨rfl, rfl, rfl, rfl, hv, bA.trans hb⟩, (hb.heap (by simp)).trans (heap_alloc_new w _)⟩
  · rintro en w' ⟨_, _, _, _, w1, rfl, ⟨rfl, rfl, rfl, rfl, hv, hb⟩, hN, hO⟩
    have := h.lt
    exact ⟨rfl, hv.other hO hN (by decide) (by omega), hb.trans_only hO (fun n e => by omega)⟩

theorem faccept_same (base p bm n : Nat) (E : Int → Ep) (img : List Int) (M : Int → Value) (vi : Value) (t : TypeId) (e b : Int) (v : Value) (ys : List Int) (w : World) (h : Vs base w p bm n E img M vi t) (hb : base ≤ w.heap.size) (hl : img.length ≤ 30000000) (hn : n ≤ 30000000) (he : (Lit.int .i64 e).wf = true)
    (hv : Bs w v (ys.map B8)) (hy1 : 1 ≤ ys.length) (hy : ys.length ≤ 255) (hvb : ∀ g, v.ownBlock = some g → g < w.heap.size ∧ vi.ownBlock ≠ some g ∧ g ≠ bm) (hys : ∀ d ∈ ys, 0 ≤ d ∧ d ≤ 255) (hev : ∀ d ∈ (E e).val, 0 ≤ d ∧ d ≤ 255) (h1 : 1 ≤ e) (h2 : 1 ≤ b) (h3 : (E e).pr ≤ b) (hbb : b = (E e).ba) (hyv : ys = (E e).val) :
    Calls Tryz.prog 54 #[.pointer (some ⟨p, 0, none⟩), .int .i64 e, .int .i64 b, v] w fun en w' => en = .returned (voteR 1 b 0 nilV) ∧ Vs base w' p bm n E img M vi t ∧ Bl w w' := by
  have bA := (Bl.refl w).alloc (.cells blankV 105)
  obtain ⟨ua, uc, ev⟩ := hv.len
  subst ev
  refine (wrap_accept p e b ua _ uc w (fun wh pr ba v w1 => wh = 1 ∧ pr = b ∧ ba = 0 ∧ v = nilV ∧ Vs base w1 p bm n E img M vi t ∧ Bl w w1) ?_).mono ?_
  · refine (acceptSame_any base p bm n E img M vi t e b _ ys _ (h.bl bA) (Nat.le_trans hb bA.lt) hl hn he (hv.bl bA) hy1 hy (fun g e => ⟨Nat.lt_of_lt_of_le (hvb g e).1 bA.lt, (hvb g e).2⟩) hys hev h1 h2 h3 hbb hyv).mono ?_
    rintro en w1 ⟨rfl, hv, hb⟩
    exact ⟨_, _, _, _, _, _, rfl, ⟨rfl, rfl, rfl, rfl, hv, bA.trans hb⟩, (hb.heap (by simp)).trans (heap_alloc_new w _)⟩
  · rintro en w' ⟨_, _, _, _, w1, rfl, ⟨rfl, rfl, rfl, rfl, hv, hb⟩, hN, hO⟩
    have := h.lt
    exact ⟨rfl, hv.other hO hN (by decide) (by omega), hb.trans_only hO (fun n e => by omega)⟩

theorem faccept_new (base p bm n : Nat) (E : Int → Ep) (img : List Int) (M : Int → Value) (vi : Value) (t : TypeId) (e b : Int) (v : Value) (ys : List Int) (w : World) (h : Vs base w p bm n E img M vi t) (hb : base ≤ w.heap.size) (hl : img.length ≤ 30000000) (hn : n ≤ 30000000) (he : (Lit.int .i64 e).wf = true)
    (hv : Bs w v (ys.map B8)) (hy1 : 1 ≤ ys.length) (hy : ys.length ≤ 255) (hvb : ∀ g, v.ownBlock = some g → g < w.heap.size ∧ vi.ownBlock ≠ some g ∧ g ≠ bm) (hys : ∀ d ∈ ys, 0 ≤ d ∧ d ≤ 255) (hev : ∀ d ∈ (E e).val, 0 ≤ d ∧ d ≤ 255) (h1 : 1 ≤ e) (h2 : 1 ≤ b) (h3 : (E e).pr ≤ b) (hne : b ≠ (E e).ba ∨ ys ≠ (E e).val) :
    Calls Tryz.prog 54 #[.pointer (some ⟨p, 0, none⟩), .int .i64 e, .int .i64 b, v] w fun en w' => ∃ M' vi', en = .returned (voteR 1 b 0 nilV) ∧ Vs base w' p bm (n + 1) (updE E e ⟨b, b, ys⟩) (img ++ recB 2 [e, b] ys) M' vi' t ∧ Gone p bm M vi M' vi' w w' := by
  have bA := (Bl.refl w).alloc (.cells blankV 105)
  obtain ⟨ua, uc, ev⟩ := hv.len
  subst ev
  have key : Calls Tryz.prog 82 #[.pointer (some ⟨p, 0, none⟩), .int .i64 e, .int .i64 b, .slice ua (ys.map B8).length uc] (w.alloc (.cells blankV 105)) fun en w' => ∃ M' vi', en = .returned (voteR 1 b 0 nilV) ∧ Vs base w' p bm (n + 1) (updE E e ⟨b, b, ys⟩) (img ++ recB 2 [e, b] ys) M' vi' t ∧ Gone p bm M vi M' vi' (w.alloc (.cells blankV 105)) w' := by
    by_cases hbb : b = (E e).ba
    · exact acceptNew2_any base p bm n E img M vi t e b _ ys _ (h.bl bA) (Nat.le_trans hb bA.lt) hl hn he (hv.bl bA) hy1 hy (fun g e => ⟨Nat.lt_of_lt_of_le (hvb g e).1 bA.lt, (hvb g e).2⟩) hys hev h1 h2 h3 hbb (hne.resolve_left fun h => h hbb)
    · exact acceptNew_any base p bm n E img M vi t e b _ ys _ (h.bl bA) (Nat.le_trans hb bA.lt) hl hn he (hv.bl bA) hy1 hy (fun g e => ⟨Nat.lt_of_lt_of_le (hvb g e).1 bA.lt, (hvb g e).2⟩) hys hev h1 h2 h3 hbb
  refine (wrap_accept p e b ua _ uc w (fun wh pr ba v w1 => wh = 1 ∧ pr = b ∧ ba = 0 ∧ v = nilV ∧ ∃ M' vi', Vs base w1 p bm (n + 1) (updE E e ⟨b, b, ys⟩) (img ++ recB 2 [e, b] ys) M' vi' t ∧ Gone p bm M vi M' vi' w w1) ?_).mono ?_
  · refine key.mono ?_
    rintro en w1 ⟨M', vi', rfl, hv, ho⟩
    exact ⟨_, _, _, _, _, _, rfl, ⟨rfl, rfl, rfl, rfl, M', vi', hv, ho.pre bA⟩, (ho.only.block _ (by simp) (h.ne (Nat.le_refl _))).trans (heap_alloc_new w _)⟩
  · rintro en w' ⟨_, _, _, v, w1, rfl, ⟨rfl, rfl, rfl, rfl, M', vi', hv, ho⟩, hN, hO⟩
    have := h.lt
    exact ⟨M', vi', rfl, hv.other hO hN (by decide) (by omega), ho.post_new hO (fun g e => Nat.le_of_eq e.symm)⟩
end Go.Proofs.YtkgjpfamjedncaaGreat
