-- Image; Write of an old epoch.
import Derived.Test.YtbghhbpacijmmaaPut
namespace Go.Proofs.Ytbghhbpacijmmaa
open Go.RowKit
attribute [local go_sem ↓] Go.wp_at_zero Go.wp_at_succ

set_option maxRecDepth 100000 in
set_option maxHeartbeats 1000000 in
theorem bytes_raw (base p o : Nat) (v : Value) (img : List Int) (w : World) (_hp : p < w.heap.size) (c71 : w.cell? ⟨p, o, none⟩ = some v) (hv : w.ownsRow base 5 1 v img.length (img.map B8)) (hl : img.length ≤ 30000000) :
    Calls Try.prog 37 #[.pointer (some ⟨p, o, none⟩)] w fun e w' => ∃ v', e = .returned v' ∧ Bl w w' ∧ w'.ownsRow w.heap.size 5 1 v' img.length (img.map B8) := by
  have Hv := hid (ownsRow_bs hv)
  clear hv
  obtain ⟨va, vc, ev⟩ := Hv.out.len
  rw [List.length_map] at ev
  rw [ev] at c71 Hv
  clear ev
  go_enter Try.func37, Try.ntmps37
  go_wp2_with fail
  refine (clone_any _ img _ Hv.out (by omega)).mono ?_
  rintro e w' ⟨v', rfl, hb, hv⟩
  have HB := hid hb
  have HV := hid hv
  clear hb hv
  go_wp2
  go_ret
  exact ⟨_, rfl, HB.out, HV.out⟩

set_option maxRecDepth 100000 in
set_option maxHeartbeats 1000000 in
theorem image_any (base p : Nat) (a b c d ch ep mk : Int) (ct : Nat → Ct) (img : List Int) (K : Nat → Value) (w : World) (h : Ks base w p a b c d ch ep mk ct img K) (hl : img.length ≤ 30000000) :
    Calls Try.prog 24 #[.pointer (some ⟨p, 0, none⟩)] w fun e w' => ∃ v', e = .returned v' ∧ Bl w w' ∧ w'.ownsRow w.heap.size 5 1 v' img.length (img.map B8) := by
  have hp := h.at'.lt
  have H := hid h
  clear h
  go_enter Try.func24, Try.ntmps24
  go_wp2_with fail
  refine (bytes_raw base p 71 _ img _ hp (H.out.at'.cell 71 (by decide)) H.out.own hl).mono ?_
  rintro e w' ⟨v', rfl, hb, hv⟩
  have HB := hid hb
  have HV := hid hv
  clear hb hv
  go_wp2
  go_ret
  exact ⟨_, rfl, HB.out, HV.out⟩

set_option maxRecDepth 100000 in
set_option maxHeartbeats 2000000 in
theorem writeOld_any (base p : Nat) (a b c d ch ep mk : Int) (ct : Nat → Ct) (img : List Int) (K : Nat → Value) (ep' x kd cl ca : Int) (va : Option Addr) (vn vc : Nat) (w : World) (h : Ks base w p a b c d ch ep mk ct img K) (he : ep' < ep) :
    Calls Try.prog 23 #[.pointer (some ⟨p, 0, none⟩), .int .i64 ep', .int .i64 x, .agg #[.int .i64 kd, .int .i64 cl, .int .i64 ca, .slice va vn vc]] w fun e w' => e = .returned (reply 5 ep 0 0 0 0 (.slice none 0 0)) ∧ Ks base w' p a b c d ch ep mk ct img K ∧ Bl w w' := by
  have H := hid h
  have hp := h.at'.lt
  have c5 := h.at'.cell 5 (by decide)
  rw [h.k5] at c5
  clear h
  have bA := hid (((Bl.refl w).alloc (.cells #[.int .i64 kd, .int .i64 cl, .int .i64 ca, .slice va vn vc] 31)).alloc (.cells blank 34))
  have HN := hid (heap_alloc_new (w.alloc (.cells #[.int .i64 kd, .int .i64 cl, .int .i64 ca, .slice va vn vc] 31)) (.cells blank 34))
  rw [show (w.alloc (.cells #[.int .i64 kd, .int .i64 cl, .int .i64 ca, .slice va vn vc] 31)).heap.size = w.heap.size + 1 from by simp] at HN
  go_enter Try.func23, Try.ntmps23
  go_wp2_with fail
  refine (sealed_any p K ep _ (H.out.at'.bl bA.out) H.out.k5).mono ?_
  rintro e w' ⟨rfl, hb2⟩
  have HN2 := hid ((hb2.heap (by simp)).trans HN.out)
  have HK2 := hid ((H.out.bl bA.out).bl hb2)
  have HB2 := hid (bA.out.trans hb2)
  have lN : w.heap.size + 1 < w'.heap.size := (Array.getElem?_eq_some_iff.1 HN2.out).1
  obtain ⟨n0, n1, n2, n3, n4, n5, n6, f0, f1, f2, f3, f4, f5, f6⟩ := blank_row HN2.out
  unfold reply
  clear hb2
  go_wp2
  have F := Only.set7 (w := w') (S := fun b => b = w.heap.size + 1) rfl (.int .i64 5) (.int .i64 ep) (.int .i64 0) (.int .i64 0) (.int .i64 0) (.int .i64 0) (.slice none 0 0)
  exact bodyPost_ret (v := reply 5 ep 0 0 0 0 (.slice none 0 0)) (by simp [results, Try.results23, go_sem, reply, n0, n1, n2, n3, n4, n5, n6]) rfl ⟨rfl, HK2.out.other F HN2.out (by omega), HB2.out.trans_only F (fun n e => by omega)⟩
end Go.Proofs.Ytbghhbpacijmmaa
