-- The calls of package furrow on a voter.
import Derived.Test.YtbghhbpacijmmaaVOpen
namespace Go.Proofs.Ytbghhbpacijmmaa
open Go.RowKit Go.Maps
attribute [local go_sem ↓] Go.wp_at_zero Go.wp_at_succ

theorem owned_slice' {w : World} {B n : Nat} {v : Value} {xs : List Value} (h : w.ownsRow B 5 1 v n xs) : ∃ a c, v = .slice a n c := by
  obtain ⟨a', c', e'⟩ := (ownsRow_sl h).len
  rw [ownsRow_len h] at e'
  exact ⟨a', c', e'⟩

set_option maxRecDepth 100000 in
set_option maxHeartbeats 2000000 in
theorem openVoter_any (ad : Option Addr) (n cc : Nat) (rs : List Rc) (S : Nat → Int → Ep) (w : World) (hw : VWay rs S) (hl : (flat rs).length ≤ 30000000) (hd : Cut w ad n cc rs) :
    Calls Try.prog 15 #[.slice ad n cc] w fun e w' => ∃ k p bm M vi, e = .returned (.tuple #[.pointer (some ⟨p, 0, none⟩), .int .i64 0]) ∧ k ≤ rs.length ∧ off rs k ≤ n ∧ (∀ h : k < rs.length, n < off rs k + rs[k].bytes.length) ∧ w.heap.size ≤ p ∧ w.heap.size ≤ bm ∧ Vs w.heap.size w' p bm k (S k) (flat (rs.take k)) M vi 78 ∧ Bl w w' := by
  have HO := hid (vopen_any ad n cc rs S w hw hl hd)
  clear hw hd
  go_enter Try.func15, Try.ntmps15
  go_wp2_with fail
  refine HO.out.mono ?_
  rintro e w1 ⟨k, p, bm, M, vi, rfl, r1, r2, r3, r4, r5, r6, r7⟩
  obtain ⟨ia, ic, rfl⟩ := owned_slice' r6.own
  have c0 := r6.c0
  have c1 := r6.c1
  have hp := r6.lt
  have R1 := hid r1
  have R2 := hid r2
  have R3 := hid r3
  have R4 := hid r4
  have R5 := hid r5
  have R6 := hid r6
  have R7 := hid r7
  clear r1 r2 r3 r4 r5 r6 r7 HO
  go_wp2
  go_ret2
  have bC := (Bl.refl w1).alloc (.cells #[.map (some bm), .slice ia (flat (rs.take k)).length ic] 78)
  have hV := R6.out.bl bC
  exact ⟨k, w1.heap.size, bm, M, _, rfl, R1.out, R2.out, R3.out, R7.out.lt, R5.out, ⟨heap_alloc_new w1 _, .inr rfl, hV.mp, hV.ep, hV.own⟩, R7.out.alloc _⟩

set_option maxRecDepth 100000 in
set_option maxHeartbeats 1000000 in
theorem vimage_any (base p bm n : Nat) (E : Int → Ep) (img : List Int) (M : Int → Value) (vi : Value) (t : TypeId) (w : World) (h : Vs base w p bm n E img M vi t) (hl : img.length ≤ 30000000) :
    Calls Try.prog 30 #[.pointer (some ⟨p, 0, none⟩)] w fun e w' => ∃ v', e = .returned v' ∧ Bl w w' ∧ w'.ownsRow w.heap.size 5 1 v' img.length (img.map B8) := by
  have hp := h.lt
  have H := hid h
  clear h
  go_enter Try.func30, Try.ntmps30
  go_wp2_with fail
  refine (bytes_raw base p 1 _ img _ hp H.out.c1 H.out.own hl).mono ?_
  rintro e w' ⟨v', rfl, hb, hv⟩
  have HB := hid hb
  have HV := hid hv
  clear hb hv
  go_wp2
  go_ret
  exact ⟨_, rfl, HB.out, HV.out⟩

set_option maxRecDepth 100000 in
set_option maxHeartbeats 1000000 in
theorem fvimage_any (base p bm n : Nat) (E : Int → Ep) (img : List Int) (M : Int → Value) (vi : Value) (t : TypeId) (w : World) (h : Vs base w p bm n E img M vi t) (hl : img.length ≤ 30000000) :
    Calls Try.prog 19 #[.pointer (some ⟨p, 0, none⟩)] w fun e w' => ∃ v', e = .returned v' ∧ Bl w w' ∧ w'.ownsRow w.heap.size 5 1 v' img.length (img.map B8) := by
  have H := hid h
  clear h
  go_enter Try.func19, Try.ntmps19
  go_wp2_with fail
  refine (vimage_any base p bm n E img M vi t _ H.out hl).mono ?_
  rintro e w' ⟨v', rfl, hb, hv⟩
  have HB := hid hb
  have HV := hid hv
  clear hb hv
  go_wp2
  go_ret
  exact ⟨_, rfl, HB.out, HV.out⟩

/-- What a call of the voter answers, ahead of the answer's being laid into its own block. -/
def VInner (g : Nat) (Q : Int → Int → Int → Value → World → Prop) (e : Ending) (w1 : World) : Prop :=
  ∃ wh pr ba ra rn rc, e = .returned (voteR wh pr ba (.slice ra rn rc)) ∧ Q wh pr ba (.slice ra rn rc) w1 ∧ w1.heap[g]? = some (.cells blankV 48 (0, 0))
def VOuter (g : Nat) (Q : Int → Int → Int → Value → World → Prop) (e : Ending) (w' : World) : Prop :=
  ∃ wh pr ba v w1, e = .returned (voteR wh pr ba v) ∧ Q wh pr ba v w1 ∧ w1.heap[g]? = some (.cells blankV 48 (0, 0)) ∧ Only (fun b => b = g) w1 w'

set_option maxRecDepth 100000 in
set_option maxHeartbeats 2000000 in
theorem wrap_prepare (p : Nat) (x y : Int) (w : World) (Q : Int → Int → Int → Value → World → Prop)
    (h : Calls Try.prog 28 #[.pointer (some ⟨p, 0, none⟩), .int .i64 x, .int .i64 y] (w.alloc (.cells blankV 48)) (VInner w.heap.size Q)) :
    Calls Try.prog 16 #[.pointer (some ⟨p, 0, none⟩), .int .i64 x, .int .i64 y] w (VOuter w.heap.size Q) := by
  have H := hid h
  clear h
  go_enter Try.func16, Try.ntmps16
  go_wp2_with fail
  refine H.out.mono ?_
  rintro e w1 ⟨wh, pr, ba, ra, rn, rc, rfl, hQ, hN⟩
  have lN : w.heap.size < w1.heap.size := (Array.getElem?_eq_some_iff.1 hN).1
  obtain ⟨n0, n1, n2, n3, f0, f1, f2, f3⟩ := blankV_row hN
  have HN := hid hN
  have HQ := hid hQ
  clear hN hQ H
  unfold voteR
  go_wp2
  have F := Only.set4 (w := w1) (S := fun b => b = w.heap.size) rfl (.int .i64 wh) (.int .i64 pr) (.int .i64 ba) (.slice ra rn rc)
  exact bodyPost_ret (v := voteR wh pr ba (.slice ra rn rc)) (by simp [results, Try.results16, go_sem, voteR, n0, n1, n2, n3]) rfl ⟨wh, pr, ba, _, w1, rfl, HQ.out, HN.out, F⟩

set_option maxRecDepth 100000 in
set_option maxHeartbeats 2000000 in
theorem wrap_accept (p : Nat) (x y : Int) (va : Option Addr) (vn vc : Nat) (w : World) (Q : Int → Int → Int → Value → World → Prop)
    (h : Calls Try.prog 29 #[.pointer (some ⟨p, 0, none⟩), .int .i64 x, .int .i64 y, .slice va vn vc] (w.alloc (.cells blankV 48)) (VInner w.heap.size Q)) :
    Calls Try.prog 17 #[.pointer (some ⟨p, 0, none⟩), .int .i64 x, .int .i64 y, .slice va vn vc] w (VOuter w.heap.size Q) := by
  have H := hid h
  clear h
  go_enter Try.func17, Try.ntmps17
  go_wp2_with fail
  refine H.out.mono ?_
  rintro e w1 ⟨wh, pr, ba, ra, rn, rc, rfl, hQ, hN⟩
  have lN : w.heap.size < w1.heap.size := (Array.getElem?_eq_some_iff.1 hN).1
  obtain ⟨n0, n1, n2, n3, f0, f1, f2, f3⟩ := blankV_row hN
  have HN := hid hN
  have HQ := hid hQ
  clear hN hQ H
  unfold voteR
  go_wp2
  have F := Only.set4 (w := w1) (S := fun b => b = w.heap.size) rfl (.int .i64 wh) (.int .i64 pr) (.int .i64 ba) (.slice ra rn rc)
  exact bodyPost_ret (v := voteR wh pr ba (.slice ra rn rc)) (by simp [results, Try.results17, go_sem, voteR, n0, n1, n2, n3]) rfl ⟨wh, pr, ba, _, w1, rfl, HQ.out, HN.out, F⟩
end Go.Proofs.Ytbghhbpacijmmaa
