-- The calls of package furrow on cells.
import Derived.Test.YtbghhbpacijmmaaOpenC
namespace Go.Proofs.Ytbghhbpacijmmaa
open Go.RowKit
attribute [local go_sem ↓] Go.wp_at_zero Go.wp_at_succ

/-- What a call of the cells answers, ahead of the answer's being laid into its own block. -/
def Inner (g : Nat) (Q : Int → Int → Int → Int → Int → Int → Value → World → Prop) (e : Ending) (w1 : World) : Prop :=
  ∃ wh ep mk kd cl ca ra rn rc, e = .returned (reply wh ep mk kd cl ca (.slice ra rn rc)) ∧ Q wh ep mk kd cl ca (.slice ra rn rc) w1 ∧ w1.heap[g]? = some (.cells blank 34 (0, 0))
def Outer (g : Nat) (Q : Int → Int → Int → Int → Int → Int → Value → World → Prop) (e : Ending) (w' : World) : Prop :=
  ∃ wh ep mk kd cl ca v w1, e = .returned (reply wh ep mk kd cl ca v) ∧ Q wh ep mk kd cl ca v w1 ∧ w1.heap[g]? = some (.cells blank 34 (0, 0)) ∧ Only (fun b => b = g) w1 w'

set_option maxRecDepth 100000 in
set_option maxHeartbeats 2000000 in
theorem wrap_read (p : Nat) (x y : Int) (w : World) (Q : Int → Int → Int → Int → Int → Int → Value → World → Prop)
    (h : Calls Try.prog 22 #[.pointer (some ⟨p, 0, none⟩), .int .i64 x, .int .i64 y] (w.alloc (.cells blank 34)) (Inner w.heap.size Q)) :
    Calls Try.prog 9 #[.pointer (some ⟨p, 0, none⟩), .int .i64 x, .int .i64 y] w (Outer w.heap.size Q) := by
  have H := hid h
  clear h
  go_enter Try.func9, Try.ntmps9
  go_wp2_with fail
  refine H.out.mono ?_
  rintro e w1 ⟨wh, ep, mk, kd, cl, ca, ra, rn, rc, rfl, hQ, hN⟩
  have lN : w.heap.size < w1.heap.size := (Array.getElem?_eq_some_iff.1 hN).1
  obtain ⟨n0, n1, n2, n3, n4, n5, n6, f0, f1, f2, f3, f4, f5, f6⟩ := blank_row hN
  have HN := hid hN
  have HQ := hid hQ
  clear hN hQ H
  unfold reply
  go_wp2
  have F := Only.set7 (w := w1) (S := fun b => b = w.heap.size) rfl (.int .i64 wh) (.int .i64 ep) (.int .i64 mk) (.int .i64 kd) (.int .i64 cl) (.int .i64 ca) (.slice ra rn rc)
  exact bodyPost_ret (v := reply wh ep mk kd cl ca (.slice ra rn rc)) (by simp [results, Try.results9, go_sem, reply, n0, n1, n2, n3, n4, n5, n6]) rfl ⟨wh, ep, mk, kd, cl, ca, _, w1, rfl, HQ.out, HN.out, F⟩

set_option maxRecDepth 100000 in
set_option maxHeartbeats 2000000 in
theorem wrap_trim (p : Nat) (x y : Int) (w : World) (Q : Int → Int → Int → Int → Int → Int → Value → World → Prop)
    (h : Calls Try.prog 26 #[.pointer (some ⟨p, 0, none⟩), .int .i64 x, .int .i64 y] (w.alloc (.cells blank 34)) (Inner w.heap.size Q)) :
    Calls Try.prog 14 #[.pointer (some ⟨p, 0, none⟩), .int .i64 x, .int .i64 y] w (Outer w.heap.size Q) := by
  have H := hid h
  clear h
  go_enter Try.func14, Try.ntmps14
  go_wp2_with fail
  refine H.out.mono ?_
  rintro e w1 ⟨wh, ep, mk, kd, cl, ca, ra, rn, rc, rfl, hQ, hN⟩
  have lN : w.heap.size < w1.heap.size := (Array.getElem?_eq_some_iff.1 hN).1
  obtain ⟨n0, n1, n2, n3, n4, n5, n6, f0, f1, f2, f3, f4, f5, f6⟩ := blank_row hN
  have HN := hid hN
  have HQ := hid hQ
  clear hN hQ H
  unfold reply
  go_wp2
  have F := Only.set7 (w := w1) (S := fun b => b = w.heap.size) rfl (.int .i64 wh) (.int .i64 ep) (.int .i64 mk) (.int .i64 kd) (.int .i64 cl) (.int .i64 ca) (.slice ra rn rc)
  exact bodyPost_ret (v := reply wh ep mk kd cl ca (.slice ra rn rc)) (by simp [results, Try.results14, go_sem, reply, n0, n1, n2, n3, n4, n5, n6]) rfl ⟨wh, ep, mk, kd, cl, ca, _, w1, rfl, HQ.out, HN.out, F⟩

set_option maxRecDepth 100000 in
set_option maxHeartbeats 2000000 in
theorem wrap_seal (p : Nat) (x : Int) (w : World) (Q : Int → Int → Int → Int → Int → Int → Value → World → Prop)
    (h : Calls Try.prog 25 #[.pointer (some ⟨p, 0, none⟩), .int .i64 x] (w.alloc (.cells blank 34)) (Inner w.heap.size Q)) :
    Calls Try.prog 13 #[.pointer (some ⟨p, 0, none⟩), .int .i64 x] w (Outer w.heap.size Q) := by
  have H := hid h
  clear h
  go_enter Try.func13, Try.ntmps13
  go_wp2_with fail
  refine H.out.mono ?_
  rintro e w1 ⟨wh, ep, mk, kd, cl, ca, ra, rn, rc, rfl, hQ, hN⟩
  have lN : w.heap.size < w1.heap.size := (Array.getElem?_eq_some_iff.1 hN).1
  obtain ⟨n0, n1, n2, n3, n4, n5, n6, f0, f1, f2, f3, f4, f5, f6⟩ := blank_row hN
  have HN := hid hN
  have HQ := hid hQ
  clear hN hQ H
  unfold reply
  go_wp2
  have F := Only.set7 (w := w1) (S := fun b => b = w.heap.size) rfl (.int .i64 wh) (.int .i64 ep) (.int .i64 mk) (.int .i64 kd) (.int .i64 cl) (.int .i64 ca) (.slice ra rn rc)
  exact bodyPost_ret (v := reply wh ep mk kd cl ca (.slice ra rn rc)) (by simp [results, Try.results13, go_sem, reply, n0, n1, n2, n3, n4, n5, n6]) rfl ⟨wh, ep, mk, kd, cl, ca, _, w1, rfl, HQ.out, HN.out, F⟩

set_option maxRecDepth 100000 in
set_option maxHeartbeats 2000000 in
theorem wrap_write (p : Nat) (x y kd' cl' ca' : Int) (va : Option Addr) (vn vc : Nat) (w : World) (Q : Int → Int → Int → Int → Int → Int → Value → World → Prop)
    (h : ∀ W, Bl w W → W.heap.size = w.heap.size + 2 → W.heap[w.heap.size + 1]? = some (.cells blank 34 (0, 0)) → Calls Try.prog 23 #[.pointer (some ⟨p, 0, none⟩), .int .i64 x, .int .i64 y, .agg #[.int .i64 kd', .int .i64 cl', .int .i64 ca', .slice va vn vc]] W (Inner (w.heap.size + 1) Q)) :
    Calls Try.prog 10 #[.pointer (some ⟨p, 0, none⟩), .int .i64 x, .int .i64 y, .agg #[.int .i64 kd', .int .i64 cl', .int .i64 ca', .slice va vn vc]] w (Outer (w.heap.size + 1) Q) := by
  have HW : Hid (∀ W, Bl ((w.alloc (.cells #[.int .i64 kd', .int .i64 cl', .int .i64 ca', .slice va vn vc] 31)).alloc (.cells blank 34)) W → W.heap.size = w.heap.size + 2 → _) := fun W hW hs => h W ((((Bl.refl w).alloc _).alloc _).trans hW) hs (by
    have := heap_alloc_new (w.alloc (.cells #[.int .i64 kd', .int .i64 cl', .int .i64 ca', .slice va vn vc] 31)) (.cells blank 34)
    rw [show (w.alloc (.cells #[.int .i64 kd', .int .i64 cl', .int .i64 ca', .slice va vn vc] 31)).heap.size = w.heap.size + 1 from by simp] at this
    rw [hW.heap (by simp)]; exact this)
  clear h
  go_enter Try.func10, Try.ntmps10
  go_wp2
  go_region_with (go_at_call 23; refine (HW.out _ (by exact (Bl.refl _).drewN _) (by simp)).mono ?_; rintro e w1 ⟨wh, ep, mk, kd, cl, ca, ra, rn, rc, rfl, hQ, hN⟩; have lN : w.heap.size + 1 < w1.heap.size := (Array.getElem?_eq_some_iff.1 hN).1; obtain ⟨n0, n1, n2, n3, n4, n5, n6, f0, f1, f2, f3, f4, f5, f6⟩ := blank_row hN; have HN := hid hN; have HQ := hid hQ; clear hN hQ; unfold reply)
  all_goals
    go_wp2
    have F := Only.set7 (w := w1) (S := fun b => b = w.heap.size + 1) rfl (.int .i64 wh) (.int .i64 ep) (.int .i64 mk) (.int .i64 kd) (.int .i64 cl) (.int .i64 ca) (.slice ra rn rc)
    exact bodyPost_ret (v := reply wh ep mk kd cl ca (.slice ra rn rc)) (by simp [results, Try.results10, go_sem, reply, n0, n1, n2, n3, n4, n5, n6]) rfl ⟨wh, ep, mk, kd, cl, ca, _, w1, rfl, HQ.out, HN.out, F⟩

set_option maxRecDepth 100000 in
set_option maxHeartbeats 1000000 in
theorem fimage_any (base p : Nat) (a b c d ch ep mk : Int) (ct : Nat → Ct) (img : List Int) (K : Nat → Value) (w : World) (h : Ks base w p a b c d ch ep mk ct img K) (hl : img.length ≤ 3000000) :
    Calls Try.prog 11 #[.pointer (some ⟨p, 0, none⟩)] w fun e w' => ∃ v', e = .returned v' ∧ Bl w w' ∧ w'.ownsRow w.heap.size 5 1 v' img.length (img.map B8) := by
  have H := hid h
  clear h
  go_enter Try.func11, Try.ntmps11
  go_wp2_with fail
  refine (image_any base p a b c d ch ep mk ct img K _ H.out hl).mono ?_
  rintro e w' ⟨v', rfl, hb, hv⟩
  have HB := hid hb
  have HV := hid hv
  clear hb hv
  go_wp2
  go_ret
  exact ⟨_, rfl, HB.out, HV.out⟩
end Go.Proofs.Ytbghhbpacijmmaa
