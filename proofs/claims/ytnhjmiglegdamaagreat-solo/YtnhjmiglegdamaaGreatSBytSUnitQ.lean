-- Requests and replies as bytes.
-- A unit that is asked: its methods of one request.
import Derived.Test.YtnhjmiglegdamaaGreatSPackSReadSReqSRepQ
import Derived.Test.YtnhjmiglegdamaaGreatSKtSNodeQ
namespace Go.Proofs.YtnhjmiglegdamaaGreat
open Go.RowKit
attribute [local go_sem ↓] Go.wp_at_zero Go.wp_at_succ

theorem bs_ints (w : World) (xs : List Int) (f : Nat × Nat) (g : Nat) (h : w.heap[g]? = some (.cells (xs.map (Value.int .i64)).toArray 3 f)) : Bs w (.slice (some ⟨g, 0, none⟩) xs.length xs.length) (xs.map (Value.int .i64)) := by
  refine .inr ⟨⟨g, 0, none⟩, xs.length, by rw [List.length_map], fun j u hu => ?_⟩
  rw [add_eq, Nat.zero_add, cell_of_row w g j _ 3 f h]
  simpa using hu

set_option maxRecDepth 100000 in
set_option maxHeartbeats 2000000 in
theorem requestBytes_any (kd nr ep pl ck cl ca : Int) (va : Option Addr) (vc : Nat) (val : List Int) (w : World) (h0 : 0 ≤ kd) (h1 : kd ≤ 255) (hv : Bs w (.slice va val.length vc) (val.map B8)) (hl : ∀ b, (Value.slice va val.length vc).ownBlock = some b → b < w.heap.size) (hvl : val.length ≤ 255) :
    Calls Tryz.prog 241 #[.agg #[.int .i64 kd, .int .i64 nr, .int .i64 ep, .int .i64 pl, .int .i64 ck, .int .i64 cl, .int .i64 ca, .slice va val.length vc]] w fun e w' => ∃ ba bc, e = .returned (.slice ba (recB kd [nr, ep, pl, ck, cl, ca] val).length bc) ∧ Bl w w' ∧ w'.ownsRow w.heap.size 5 1 (.slice ba (recB kd [nr, ep, pl, ck, cl, ca] val).length bc) (recB kd [nr, ep, pl, ck, cl, ca] val).length ((recB kd [nr, ep, pl, ck, cl, ca] val).map B8) := by
  have B3 := (((Bl.refl w).alloc (.cells #[.int .i64 kd, .int .i64 nr, .int .i64 ep, .int .i64 pl, .int .i64 ck, .int .i64 cl, .int .i64 ca, .slice va val.length vc] 100)).alloc (.cells #[.int .i64 ck, .int .i64 cl, .int .i64 ca, .slice va val.length vc] 91)).alloc (.cells #[.int .i64 nr, .int .i64 ep, .int .i64 pl, .int .i64 ck, .int .i64 cl, .int .i64 ca] 3)
  have hX : (_ : World).heap[_]? = _ := heap_alloc_new ((w.alloc (.cells #[.int .i64 kd, .int .i64 nr, .int .i64 ep, .int .i64 pl, .int .i64 ck, .int .i64 cl, .int .i64 ca, .slice va val.length vc] 100)).alloc (.cells #[.int .i64 ck, .int .i64 cl, .int .i64 ca, .slice va val.length vc] 91)) (.cells #[.int .i64 nr, .int .i64 ep, .int .i64 pl, .int .i64 ck, .int .i64 cl, .int .i64 ca] 3)
  have hsz : ((w.alloc (.cells #[.int .i64 kd, .int .i64 nr, .int .i64 ep, .int .i64 pl, .int .i64 ck, .int .i64 cl, .int .i64 ca, .slice va val.length vc] 100)).alloc (.cells #[.int .i64 ck, .int .i64 cl, .int .i64 ca, .slice va val.length vc] 91)).heap.size = w.heap.size + 1 + 1 := by simp
  rw [hsz] at hX
  have HR := hid (recAppend_any w.heap.size (.slice none 0 0) 0 [] kd (.slice (some ⟨w.heap.size + 1 + 1, 0, none⟩) 6 6) (.slice va val.length vc) [nr, ep, pl, ck, cl, ca] val _ (World.ownsRow_nil _ _ _ _) B3.lt (by omega) (bs_ints _ [nr, ep, pl, ck, cl, ca] (0, 0) _ hX) (hv.bl B3) (by omega) (by omega) (by simp) hvl (fun g e => by simp [Value.ownBlock] at e) (fun g e => by simp [Value.ownBlock] at e) (fun g e => by simp [Value.ownBlock] at e; simp; omega) (fun g e => Nat.lt_of_lt_of_le (hl g e) B3.lt))
  have HB3 := hid B3
  clear hv hl B3 hX hsz
  go_enter Tryz.func241, Tryz.ntmps241
  go_wp2_with fail
  refine HR.out.mono ?_
  rintro e w1 ⟨v', rfl, hG⟩
  rw [Nat.zero_add, List.nil_append] at hG
  obtain ⟨ga, gc, rfl⟩ := hG.shape
  have HB := hid (HB3.out.trans (hG.only.to_bl fun k _ e => by simp [Value.ownBlock] at e))
  have HO := hid hG.own
  clear HR hG HB3
  go_wp2
  go_ret
  exact ⟨ga, gc, rfl, HB.out, HO.out⟩

set_option maxRecDepth 100000 in
set_option maxHeartbeats 2000000 in
theorem replyBytes_any (nr wh ep mk ck cl ca : Int) (va : Option Addr) (vc : Nat) (val : List Int) (w : World) (hv : Bs w (.slice va val.length vc) (val.map B8)) (hl : ∀ b, (Value.slice va val.length vc).ownBlock = some b → b < w.heap.size) (hvl : val.length ≤ 255) :
    Calls Tryz.prog 333 #[.int .i64 nr, .agg #[.int .i64 wh, .int .i64 ep, .int .i64 mk, .int .i64 ck, .int .i64 cl, .int .i64 ca, .slice va val.length vc]] w fun e w' => ∃ ba bc, e = .returned (.slice ba (recB 101 [nr, wh, ep, mk, ck, cl, ca] val).length bc) ∧ Bl w w' ∧ w'.ownsRow w.heap.size 5 1 (.slice ba (recB 101 [nr, wh, ep, mk, ck, cl, ca] val).length bc) (recB 101 [nr, wh, ep, mk, ck, cl, ca] val).length ((recB 101 [nr, wh, ep, mk, ck, cl, ca] val).map B8) := by
  have B3 := (((Bl.refl w).alloc (.cells #[.int .i64 wh, .int .i64 ep, .int .i64 mk, .int .i64 ck, .int .i64 cl, .int .i64 ca, .slice va val.length vc] 210)).alloc (.cells #[.int .i64 ck, .int .i64 cl, .int .i64 ca, .slice va val.length vc] 91)).alloc (.cells #[.int .i64 nr, .int .i64 wh, .int .i64 ep, .int .i64 mk, .int .i64 ck, .int .i64 cl, .int .i64 ca] 3)
  have hX : (_ : World).heap[_]? = _ := heap_alloc_new ((w.alloc (.cells #[.int .i64 wh, .int .i64 ep, .int .i64 mk, .int .i64 ck, .int .i64 cl, .int .i64 ca, .slice va val.length vc] 210)).alloc (.cells #[.int .i64 ck, .int .i64 cl, .int .i64 ca, .slice va val.length vc] 91)) (.cells #[.int .i64 nr, .int .i64 wh, .int .i64 ep, .int .i64 mk, .int .i64 ck, .int .i64 cl, .int .i64 ca] 3)
  have hsz : ((w.alloc (.cells #[.int .i64 wh, .int .i64 ep, .int .i64 mk, .int .i64 ck, .int .i64 cl, .int .i64 ca, .slice va val.length vc] 210)).alloc (.cells #[.int .i64 ck, .int .i64 cl, .int .i64 ca, .slice va val.length vc] 91)).heap.size = w.heap.size + 1 + 1 := by simp
  rw [hsz] at hX
  have HR := hid (recAppend_any w.heap.size (.slice none 0 0) 0 [] 101 (.slice (some ⟨w.heap.size + 1 + 1, 0, none⟩) 7 7) (.slice va val.length vc) [nr, wh, ep, mk, ck, cl, ca] val _ (World.ownsRow_nil _ _ _ _) B3.lt (by omega) (bs_ints _ [nr, wh, ep, mk, ck, cl, ca] (0, 0) _ hX) (hv.bl B3) (by omega) (by omega) (by simp) hvl (fun g e => by simp [Value.ownBlock] at e) (fun g e => by simp [Value.ownBlock] at e) (fun g e => by simp [Value.ownBlock] at e; simp; omega) (fun g e => Nat.lt_of_lt_of_le (hl g e) B3.lt))
  have HB3 := hid B3
  clear hv hl B3 hX hsz
  go_enter Tryz.func333, Tryz.ntmps333
  go_wp2_with fail
  refine HR.out.mono ?_
  rintro e w1 ⟨v', rfl, hG⟩
  rw [Nat.zero_add, List.nil_append] at hG
  obtain ⟨ga, gc, rfl⟩ := hG.shape
  have HB := hid (HB3.out.trans (hG.only.to_bl fun k _ e => by simp [Value.ownBlock] at e))
  have HO := hid hG.own
  clear HR hG HB3
  go_wp2
  go_ret
  exact ⟨ga, gc, rfl, HB.out, HO.out⟩
end Go.Proofs.YtnhjmiglegdamaaGreat

namespace Go.Proofs.YtnhjmiglegdamaaGreat
open Go.RowKit Go.Maps
attribute [local go_sem ↓] Go.wp_at_zero Go.wp_at_succ

/-- A call of a unit by a request. -/
def UCall (f : Nat) (args : Array Value) (w : World) (tag : Nat → Nat) (tg p : Nat) (a b c d ch : Int) (rs : List Rc) (S : Nat → St) (R : An × St) : Prop :=
  Calls Tryz.prog f args w fun en w' => ∃ va vc rs' S' tag', en = .returned (R.1.val (.slice va R.1.ct.val.length vc)) ∧ w'.ownsRow w.heap.size 5 1 (.slice va R.1.ct.val.length vc) R.1.ct.val.length (R.1.ct.val.map B8) ∧ (∀ g, (Value.slice va R.1.ct.val.length vc).ownBlock = some g → tag' g = 1) ∧ (∀ g, g < w.heap.size → tag' g = tag g) ∧ MoreK rs S rs' S' ∧ S' rs'.length = R.2 ∧ (flat rs').length ≤ (flat rs).length + 60 ∧ Kt w' tag' tg p a b c d ch rs' S' ∧ Only (fun g => tag g = tg) w w'
section
variable {w : World} {tag : Nat → Nat} {tg p : Nat} {a b c d ch : Int} {rs : List Rc} {S : Nat → St}
theorem ucall_end {W w2 w3 : World} {rs' : List Rc} {S' : Nat → St} {R : An × St} {xa : Option Addr} {xc : Nat} {cs : Array Value} (htg : tg ≠ 3) (b3 : Bl w W) (hs3 : W.heap.size = w.heap.size + 1 + 1 + 1) (hX : w2.heap[w.heap.size + 1 + 1]? = some (.cells cs 210 (0, 0))) (ho : w2.ownsRow W.heap.size 5 1 (.slice xa R.1.ct.val.length xc) R.1.ct.val.length (R.1.ct.val.map B8)) (hM : MoreK rs S rs' S') (hE : S' rs'.length = R.2) (hsz : (flat rs').length ≤ (flat rs).length + 60) (hkt : Kt w2 (tagV (tagTo tag w.heap.size 3) W.heap.size tg (.slice xa R.1.ct.val.length xc)) tg p a b c d ch rs' S') (O : Only (fun g => tagTo tag w.heap.size 3 g = tg) W w2) (Z : Only (fun b => b = w.heap.size + 1 + 1) w2 w3) :
    ∃ va vc rs' S' tag', (Ending.returned (R.1.val (.slice xa R.1.ct.val.length xc)) : Ending) = .returned (R.1.val (.slice va R.1.ct.val.length vc)) ∧ w3.ownsRow w.heap.size 5 1 (.slice va R.1.ct.val.length vc) R.1.ct.val.length (R.1.ct.val.map B8) ∧ (∀ g, (Value.slice va R.1.ct.val.length vc).ownBlock = some g → tag' g = 1) ∧ (∀ g, g < w.heap.size → tag' g = tag g) ∧ MoreK rs S rs' S' ∧ S' rs'.length = R.2 ∧ (flat rs').length ≤ (flat rs).length + 60 ∧ Kt w3 tag' tg p a b c d ch rs' S' ∧ Only (fun g => tag g = tg) w w3 := by
  have s2 := O.size
  refine ⟨xa, xc, rs', S', _, rfl, ownsRow_base (Z.owns ho fun b hb e => own_ne_block ho hX (by decide) (by rw [hb, e])) fun g hg => ?_, fun g hg => tagV_own _ _ _ _ _ (ho.lt g hg).1 hg, fun g hg => by rw [tagV_old _ _ _ _ _ (by omega)]; exact tagTo_old _ _ _ _ hg, hM, hE, hsz, hkt.only Z (fun g _ e => ?_) (fun _ _ => rfl), ?_⟩
  · have h1 := (ho.lt g hg).1
    omega
  · rw [e, tagV_old _ _ _ _ _ (by omega), tagTo_new _ _ _ _ (by omega)]
    exact Ne.symm htg
  · have s3 := Z.size
    refine ⟨Z.os.trans (O.os.trans b3.os), Z.tape.trans (O.tape.trans b3.tape), Z.output.trans (O.output.trans b3.output), by omega, fun i hi hn => ?_⟩
    rw [Z.block i (by omega) (by omega), O.block i (by omega) fun e => hn (by rw [tagTo_old _ _ _ _ hi] at e; exact e), b3.heap hi]

set_option maxRecDepth 100000 in
set_option maxHeartbeats 2000000 in
theorem unit_seal (h : Kt w tag tg p a b c d ch rs S) (htg : tg ≠ 3) (kd nr e x ck cl ca : Int) (va : Option Addr) (vc : Nat) (ys : List Int) (hwf : (Lit.int .i64 e).wf = true) (hl : (flat rs).length ≤ 30000000) :
    UCall 329 #[.agg #[.pointer (some ⟨p, 0, none⟩)], .agg #[.int .i64 kd, .int .i64 nr, .int .i64 e, .int .i64 x, .int .i64 ck, .int .i64 cl, .int .i64 ca, .slice va ys.length vc]] w tag tg p a b c d ch rs S (sealA (S rs.length) e) := by
  have b3 : Bl w (((w.alloc (.cells #[.pointer (some ⟨p, 0, none⟩)] 228)).alloc (.cells #[.int .i64 kd, .int .i64 nr, .int .i64 e, .int .i64 x, .int .i64 ck, .int .i64 cl, .int .i64 ca, .slice va ys.length vc] 100)).alloc (.cells blank 210)) := (((Bl.refl w).alloc _).alloc _).alloc _
  obtain ⟨W, hW⟩ : ∃ W, W = ((w.alloc (.cells #[.pointer (some ⟨p, 0, none⟩)] 228)).alloc (.cells #[.int .i64 kd, .int .i64 nr, .int .i64 e, .int .i64 x, .int .i64 ck, .int .i64 cl, .int .i64 ca, .slice va ys.length vc] 100)).alloc (.cells blank 210) := ⟨_, rfl⟩
  have hs3 : W.heap.size = w.heap.size + 1 + 1 + 1 := by rw [hW]; simp
  have hX : W.heap[w.heap.size + 1 + 1]? = some (.cells blank 210 (0, 0)) := by
    rw [hW]
    have := heap_alloc_new ((w.alloc (.cells #[.pointer (some ⟨p, 0, none⟩)] 228)).alloc (.cells #[.int .i64 kd, .int .i64 nr, .int .i64 e, .int .i64 x, .int .i64 ck, .int .i64 cl, .int .i64 ca, .slice va ys.length vc] 100)) (.cells blank 210)
    have hz : ((w.alloc (.cells #[.pointer (some ⟨p, 0, none⟩)] 228)).alloc (.cells #[.int .i64 kd, .int .i64 nr, .int .i64 e, .int .i64 x, .int .i64 ck, .int .i64 cl, .int .i64 ca, .slice va ys.length vc] 100)).heap.size = w.heap.size + 1 + 1 := by simp
    rwa [hz] at this
  rw [← hW] at b3
  obtain ⟨R, hR⟩ : ∃ R, R = sealA (S rs.length) e := ⟨_, rfl⟩
  have hk3 : Kt W (tagTo tag w.heap.size 3) tg p a b c d ch rs S := h.only (Only.of_bl (S := fun _ => False) b3) (fun _ _ e => e.elim) (fun g hg => tagTo_old _ _ _ _ hg)
  have HK : Hid (KCall 176 #[.pointer (some ⟨p, 0, none⟩), .int .i64 e] W (tagTo tag w.heap.size 3) tg p a b c d ch rs S R) := by rw [hR]; exact kc_seal hk3 e hwf hl
  rw [← hR]
  clear hR hk3
  unfold KCall at HK
  have HX := hid hX
  have HB := hid b3
  have HW := hid hW
  rw [hW] at HK
  clear hX b3 h hW
  unfold UCall
  unfold blank at HK
  go_enter Tryz.func329, Tryz.ntmps329
  go_wp2_with fail
  refine HK.out.mono ?_
  rintro en w2 ⟨v, rs', S', rfl, ho, hM, hE, hsz, hkt, O⟩
  have hWu := HW.out
  unfold blank at hWu
  rw [← hWu] at ho hkt O
  obtain ⟨xa, xc, rfl⟩ := owned_slice ho
  have hX2 : w2.heap[w.heap.size + 1 + 1]? = some (.cells #[.int .i64 0, .int .i64 0, .int .i64 0, .int .i64 0, .int .i64 0, .int .i64 0, .slice none 0 0] 210 (0, 0)) := (O.block _ (by omega) (by rw [tagTo_new _ _ _ _ (by omega)]; exact Ne.symm htg)).trans HX.out
  obtain ⟨⟨n0, n1, n2, n3, n4, n5, n6⟩, ⟨f0, f1, f2, f3, f4, f5, f6⟩, lN⟩ := row7 hX2
  have HP := hid (And.intro ho (And.intro hM (And.intro hE (And.intro hsz (And.intro hkt O)))))
  have HX2 := hid hX2
  clear HK ho hM hE hsz hkt O hX2 hWu
  unfold An.val reply
  go_wp2
  obtain ⟨ho, hM, hE, hsz, hkt, O⟩ := HP.out
  have Z := ((((((((Only.refl (fun b => b = w.heap.size + 1 + 1) w2).setCell ⟨w.heap.size + 1 + 1, 0, none⟩ (.inl rfl) (.int .i64 R.1.wh)).setCell ⟨w.heap.size + 1 + 1, 1, none⟩ (.inl rfl) (.int .i64 R.1.ep)).setCell ⟨w.heap.size + 1 + 1, 2, none⟩ (.inl rfl) (.int .i64 R.1.mark)).setCell ⟨w.heap.size + 1 + 1, 3, none⟩ (.inl rfl) (.int .i64 R.1.ct.kd)).setCell ⟨w.heap.size + 1 + 1, 4, none⟩ (.inl rfl) (.int .i64 R.1.ct.cl)).setCell ⟨w.heap.size + 1 + 1, 5, none⟩ (.inl rfl) (.int .i64 R.1.ct.ca)).setCell ⟨w.heap.size + 1 + 1, 6, none⟩ (.inl rfl) (.slice xa R.1.ct.val.length xc))
  have hfin := ucall_end (tg := tg) htg HB.out hs3 HX2.out ho hM hE hsz hkt O Z
  exact bodyPost_ret (v := .agg #[.int .i64 R.1.wh, .int .i64 R.1.ep, .int .i64 R.1.mark, .int .i64 R.1.ct.kd, .int .i64 R.1.ct.cl, .int .i64 R.1.ct.ca, .slice xa R.1.ct.val.length xc]) (by simp [results, Tryz.results329, go_sem, n0, n1, n2, n3, n4, n5, n6]) rfl hfin

set_option maxRecDepth 100000 in
set_option maxHeartbeats 2000000 in
theorem unit_read (h : Kt w tag tg p a b c d ch rs S) (htg : tg ≠ 3) (kd nr e x ck cl ca : Int) (va : Option Addr) (vc : Nat) (ys : List Int) (hwf : (Lit.int .i64 e).wf = true) (hl : (flat rs).length ≤ 30000000) :
    UCall 331 #[.agg #[.pointer (some ⟨p, 0, none⟩)], .agg #[.int .i64 kd, .int .i64 nr, .int .i64 e, .int .i64 x, .int .i64 ck, .int .i64 cl, .int .i64 ca, .slice va ys.length vc]] w tag tg p a b c d ch rs S (readA a b c d ch (S rs.length) e x) := by
  have b3 : Bl w (((w.alloc (.cells #[.pointer (some ⟨p, 0, none⟩)] 228)).alloc (.cells #[.int .i64 kd, .int .i64 nr, .int .i64 e, .int .i64 x, .int .i64 ck, .int .i64 cl, .int .i64 ca, .slice va ys.length vc] 100)).alloc (.cells blank 210)) := (((Bl.refl w).alloc _).alloc _).alloc _
  obtain ⟨W, hW⟩ : ∃ W, W = ((w.alloc (.cells #[.pointer (some ⟨p, 0, none⟩)] 228)).alloc (.cells #[.int .i64 kd, .int .i64 nr, .int .i64 e, .int .i64 x, .int .i64 ck, .int .i64 cl, .int .i64 ca, .slice va ys.length vc] 100)).alloc (.cells blank 210) := ⟨_, rfl⟩
  have hs3 : W.heap.size = w.heap.size + 1 + 1 + 1 := by rw [hW]; simp
  have hX : W.heap[w.heap.size + 1 + 1]? = some (.cells blank 210 (0, 0)) := by
    rw [hW]
    have := heap_alloc_new ((w.alloc (.cells #[.pointer (some ⟨p, 0, none⟩)] 228)).alloc (.cells #[.int .i64 kd, .int .i64 nr, .int .i64 e, .int .i64 x, .int .i64 ck, .int .i64 cl, .int .i64 ca, .slice va ys.length vc] 100)) (.cells blank 210)
    have hz : ((w.alloc (.cells #[.pointer (some ⟨p, 0, none⟩)] 228)).alloc (.cells #[.int .i64 kd, .int .i64 nr, .int .i64 e, .int .i64 x, .int .i64 ck, .int .i64 cl, .int .i64 ca, .slice va ys.length vc] 100)).heap.size = w.heap.size + 1 + 1 := by simp
    rwa [hz] at this
  rw [← hW] at b3
  obtain ⟨R, hR⟩ : ∃ R, R = readA a b c d ch (S rs.length) e x := ⟨_, rfl⟩
  have hk3 : Kt W (tagTo tag w.heap.size 3) tg p a b c d ch rs S := h.only (Only.of_bl (S := fun _ => False) b3) (fun _ _ e => e.elim) (fun g hg => tagTo_old _ _ _ _ hg)
  have HK : Hid (KCall 169 #[.pointer (some ⟨p, 0, none⟩), .int .i64 e, .int .i64 x] W (tagTo tag w.heap.size 3) tg p a b c d ch rs S R) := by rw [hR]; exact kc_read hk3 e x hwf hl
  rw [← hR]
  clear hR hk3
  unfold KCall at HK
  have HX := hid hX
  have HB := hid b3
  have HW := hid hW
  rw [hW] at HK
  clear hX b3 h hW
  unfold UCall
  unfold blank at HK
  go_enter Tryz.func331, Tryz.ntmps331
  go_wp2_with fail
  refine HK.out.mono ?_
  rintro en w2 ⟨v, rs', S', rfl, ho, hM, hE, hsz, hkt, O⟩
  have hWu := HW.out
  unfold blank at hWu
  rw [← hWu] at ho hkt O
  obtain ⟨xa, xc, rfl⟩ := owned_slice ho
  have hX2 : w2.heap[w.heap.size + 1 + 1]? = some (.cells #[.int .i64 0, .int .i64 0, .int .i64 0, .int .i64 0, .int .i64 0, .int .i64 0, .slice none 0 0] 210 (0, 0)) := (O.block _ (by omega) (by rw [tagTo_new _ _ _ _ (by omega)]; exact Ne.symm htg)).trans HX.out
  obtain ⟨⟨n0, n1, n2, n3, n4, n5, n6⟩, ⟨f0, f1, f2, f3, f4, f5, f6⟩, lN⟩ := row7 hX2
  have HP := hid (And.intro ho (And.intro hM (And.intro hE (And.intro hsz (And.intro hkt O)))))
  have HX2 := hid hX2
  clear HK ho hM hE hsz hkt O hX2 hWu
  unfold An.val reply
  go_wp2
  obtain ⟨ho, hM, hE, hsz, hkt, O⟩ := HP.out
  have Z := ((((((((Only.refl (fun b => b = w.heap.size + 1 + 1) w2).setCell ⟨w.heap.size + 1 + 1, 0, none⟩ (.inl rfl) (.int .i64 R.1.wh)).setCell ⟨w.heap.size + 1 + 1, 1, none⟩ (.inl rfl) (.int .i64 R.1.ep)).setCell ⟨w.heap.size + 1 + 1, 2, none⟩ (.inl rfl) (.int .i64 R.1.mark)).setCell ⟨w.heap.size + 1 + 1, 3, none⟩ (.inl rfl) (.int .i64 R.1.ct.kd)).setCell ⟨w.heap.size + 1 + 1, 4, none⟩ (.inl rfl) (.int .i64 R.1.ct.cl)).setCell ⟨w.heap.size + 1 + 1, 5, none⟩ (.inl rfl) (.int .i64 R.1.ct.ca)).setCell ⟨w.heap.size + 1 + 1, 6, none⟩ (.inl rfl) (.slice xa R.1.ct.val.length xc))
  have hfin := ucall_end (tg := tg) htg HB.out hs3 HX2.out ho hM hE hsz hkt O Z
  exact bodyPost_ret (v := .agg #[.int .i64 R.1.wh, .int .i64 R.1.ep, .int .i64 R.1.mark, .int .i64 R.1.ct.kd, .int .i64 R.1.ct.cl, .int .i64 R.1.ct.ca, .slice xa R.1.ct.val.length xc]) (by simp [results, Tryz.results331, go_sem, n0, n1, n2, n3, n4, n5, n6]) rfl hfin

set_option maxRecDepth 100000 in
set_option maxHeartbeats 2000000 in
theorem unit_trim (h : Kt w tag tg p a b c d ch rs S) (htg : tg ≠ 3) (kd nr e x ck cl ca : Int) (va : Option Addr) (vc : Nat) (ys : List Int) (hwf : (Lit.int .i64 e).wf = true) (hxf : (Lit.int .i64 x).wf = true) (hl : (flat rs).length ≤ 30000000) :
    UCall 332 #[.agg #[.pointer (some ⟨p, 0, none⟩)], .agg #[.int .i64 kd, .int .i64 nr, .int .i64 e, .int .i64 x, .int .i64 ck, .int .i64 cl, .int .i64 ca, .slice va ys.length vc]] w tag tg p a b c d ch rs S (trimA (S rs.length) e x) := by
  have b3 : Bl w (((w.alloc (.cells #[.pointer (some ⟨p, 0, none⟩)] 228)).alloc (.cells #[.int .i64 kd, .int .i64 nr, .int .i64 e, .int .i64 x, .int .i64 ck, .int .i64 cl, .int .i64 ca, .slice va ys.length vc] 100)).alloc (.cells blank 210)) := (((Bl.refl w).alloc _).alloc _).alloc _
  obtain ⟨W, hW⟩ : ∃ W, W = ((w.alloc (.cells #[.pointer (some ⟨p, 0, none⟩)] 228)).alloc (.cells #[.int .i64 kd, .int .i64 nr, .int .i64 e, .int .i64 x, .int .i64 ck, .int .i64 cl, .int .i64 ca, .slice va ys.length vc] 100)).alloc (.cells blank 210) := ⟨_, rfl⟩
  have hs3 : W.heap.size = w.heap.size + 1 + 1 + 1 := by rw [hW]; simp
  have hX : W.heap[w.heap.size + 1 + 1]? = some (.cells blank 210 (0, 0)) := by
    rw [hW]
    have := heap_alloc_new ((w.alloc (.cells #[.pointer (some ⟨p, 0, none⟩)] 228)).alloc (.cells #[.int .i64 kd, .int .i64 nr, .int .i64 e, .int .i64 x, .int .i64 ck, .int .i64 cl, .int .i64 ca, .slice va ys.length vc] 100)) (.cells blank 210)
    have hz : ((w.alloc (.cells #[.pointer (some ⟨p, 0, none⟩)] 228)).alloc (.cells #[.int .i64 kd, .int .i64 nr, .int .i64 e, .int .i64 x, .int .i64 ck, .int .i64 cl, .int .i64 ca, .slice va ys.length vc] 100)).heap.size = w.heap.size + 1 + 1 := by simp
    rwa [hz] at this
  rw [← hW] at b3
  obtain ⟨R, hR⟩ : ∃ R, R = trimA (S rs.length) e x := ⟨_, rfl⟩
  have hk3 : Kt W (tagTo tag w.heap.size 3) tg p a b c d ch rs S := h.only (Only.of_bl (S := fun _ => False) b3) (fun _ _ e => e.elim) (fun g hg => tagTo_old _ _ _ _ hg)
  have HK : Hid (KCall 175 #[.pointer (some ⟨p, 0, none⟩), .int .i64 e, .int .i64 x] W (tagTo tag w.heap.size 3) tg p a b c d ch rs S R) := by rw [hR]; exact kc_trim hk3 e x hwf hxf hl
  rw [← hR]
  clear hR hk3
  unfold KCall at HK
  have HX := hid hX
  have HB := hid b3
  have HW := hid hW
  rw [hW] at HK
  clear hX b3 h hW
  unfold UCall
  unfold blank at HK
  go_enter Tryz.func332, Tryz.ntmps332
  go_wp2_with fail
  refine HK.out.mono ?_
  rintro en w2 ⟨v, rs', S', rfl, ho, hM, hE, hsz, hkt, O⟩
  have hWu := HW.out
  unfold blank at hWu
  rw [← hWu] at ho hkt O
  obtain ⟨xa, xc, rfl⟩ := owned_slice ho
  have hX2 : w2.heap[w.heap.size + 1 + 1]? = some (.cells #[.int .i64 0, .int .i64 0, .int .i64 0, .int .i64 0, .int .i64 0, .int .i64 0, .slice none 0 0] 210 (0, 0)) := (O.block _ (by omega) (by rw [tagTo_new _ _ _ _ (by omega)]; exact Ne.symm htg)).trans HX.out
  obtain ⟨⟨n0, n1, n2, n3, n4, n5, n6⟩, ⟨f0, f1, f2, f3, f4, f5, f6⟩, lN⟩ := row7 hX2
  have HP := hid (And.intro ho (And.intro hM (And.intro hE (And.intro hsz (And.intro hkt O)))))
  have HX2 := hid hX2
  clear HK ho hM hE hsz hkt O hX2 hWu
  unfold An.val reply
  go_wp2
  obtain ⟨ho, hM, hE, hsz, hkt, O⟩ := HP.out
  have Z := ((((((((Only.refl (fun b => b = w.heap.size + 1 + 1) w2).setCell ⟨w.heap.size + 1 + 1, 0, none⟩ (.inl rfl) (.int .i64 R.1.wh)).setCell ⟨w.heap.size + 1 + 1, 1, none⟩ (.inl rfl) (.int .i64 R.1.ep)).setCell ⟨w.heap.size + 1 + 1, 2, none⟩ (.inl rfl) (.int .i64 R.1.mark)).setCell ⟨w.heap.size + 1 + 1, 3, none⟩ (.inl rfl) (.int .i64 R.1.ct.kd)).setCell ⟨w.heap.size + 1 + 1, 4, none⟩ (.inl rfl) (.int .i64 R.1.ct.cl)).setCell ⟨w.heap.size + 1 + 1, 5, none⟩ (.inl rfl) (.int .i64 R.1.ct.ca)).setCell ⟨w.heap.size + 1 + 1, 6, none⟩ (.inl rfl) (.slice xa R.1.ct.val.length xc))
  have hfin := ucall_end (tg := tg) htg HB.out hs3 HX2.out ho hM hE hsz hkt O Z
  exact bodyPost_ret (v := .agg #[.int .i64 R.1.wh, .int .i64 R.1.ep, .int .i64 R.1.mark, .int .i64 R.1.ct.kd, .int .i64 R.1.ct.cl, .int .i64 R.1.ct.ca, .slice xa R.1.ct.val.length xc]) (by simp [results, Tryz.results332, go_sem, n0, n1, n2, n3, n4, n5, n6]) rfl hfin

set_option maxRecDepth 100000 in
set_option maxHeartbeats 2000000 in
theorem unit_write (h : Kt w tag tg p a b c d ch rs S) (htg : tg ≠ 3) (kd nr e x ck cl ca : Int) (va : Option Addr) (vc : Nat) (ys : List Int) (hwf : (Lit.int .i64 e).wf = true) (hxf : (Lit.int .i64 x).wf = true) (hkf : (Lit.int .i64 ck).wf = true) (hcf : (Lit.int .i64 cl).wf = true) (haf : (Lit.int .i64 ca).wf = true) (hv : Bs w (.slice va ys.length vc) (ys.map B8)) (hvb : ∀ g, (Value.slice va ys.length vc).ownBlock = some g → g < w.heap.size ∧ tag g ≠ tg) (hys : Byt ys) (hc : isC ck ys.length = true) (hl : (flat rs).length ≤ 30000000) :
    UCall 330 #[.agg #[.pointer (some ⟨p, 0, none⟩)], .agg #[.int .i64 kd, .int .i64 nr, .int .i64 e, .int .i64 x, .int .i64 ck, .int .i64 cl, .int .i64 ca, .slice va ys.length vc]] w tag tg p a b c d ch rs S (writeA a b c d ch (S rs.length) e x ck cl ca ys) := by
  have b3 : Bl w (((w.alloc (.cells #[.pointer (some ⟨p, 0, none⟩)] 228)).alloc (.cells #[.int .i64 kd, .int .i64 nr, .int .i64 e, .int .i64 x, .int .i64 ck, .int .i64 cl, .int .i64 ca, .slice va ys.length vc] 100)).alloc (.cells blank 210)) := (((Bl.refl w).alloc _).alloc _).alloc _
  obtain ⟨W, hW⟩ : ∃ W, W = ((w.alloc (.cells #[.pointer (some ⟨p, 0, none⟩)] 228)).alloc (.cells #[.int .i64 kd, .int .i64 nr, .int .i64 e, .int .i64 x, .int .i64 ck, .int .i64 cl, .int .i64 ca, .slice va ys.length vc] 100)).alloc (.cells blank 210) := ⟨_, rfl⟩
  have hs3 : W.heap.size = w.heap.size + 1 + 1 + 1 := by rw [hW]; simp
  have hX : W.heap[w.heap.size + 1 + 1]? = some (.cells blank 210 (0, 0)) := by
    rw [hW]
    have := heap_alloc_new ((w.alloc (.cells #[.pointer (some ⟨p, 0, none⟩)] 228)).alloc (.cells #[.int .i64 kd, .int .i64 nr, .int .i64 e, .int .i64 x, .int .i64 ck, .int .i64 cl, .int .i64 ca, .slice va ys.length vc] 100)) (.cells blank 210)
    have hz : ((w.alloc (.cells #[.pointer (some ⟨p, 0, none⟩)] 228)).alloc (.cells #[.int .i64 kd, .int .i64 nr, .int .i64 e, .int .i64 x, .int .i64 ck, .int .i64 cl, .int .i64 ca, .slice va ys.length vc] 100)).heap.size = w.heap.size + 1 + 1 := by simp
    rwa [hz] at this
  rw [← hW] at b3
  obtain ⟨R, hR⟩ : ∃ R, R = writeA a b c d ch (S rs.length) e x ck cl ca ys := ⟨_, rfl⟩
  have hk3 : Kt W (tagTo tag w.heap.size 3) tg p a b c d ch rs S := h.only (Only.of_bl (S := fun _ => False) b3) (fun _ _ e => e.elim) (fun g hg => tagTo_old _ _ _ _ hg)
  have HK : Hid (KCall 173 #[.pointer (some ⟨p, 0, none⟩), .int .i64 e, .int .i64 x, .agg #[.int .i64 ck, .int .i64 cl, .int .i64 ca, .slice va ys.length vc]] W (tagTo tag w.heap.size 3) tg p a b c d ch rs S R) := by rw [hR]; exact kc_write hk3 e x ck cl ca va vc ys hwf hxf hkf hcf haf hl (hv.bl b3) (fun g hg => ⟨Nat.lt_of_lt_of_le (hvb g hg).1 b3.lt, by rw [tagTo_old _ _ _ _ (hvb g hg).1]; exact (hvb g hg).2⟩) hys hc
  rw [← hR]
  clear hR hk3
  unfold KCall at HK
  have HX := hid hX
  have HB := hid b3
  have HW := hid hW
  rw [hW] at HK
  clear hX b3 h hW
  unfold UCall
  unfold blank at HK
  go_enter Tryz.func330, Tryz.ntmps330
  go_wp2_with fail
  refine HK.out.mono ?_
  rintro en w2 ⟨v, rs', S', rfl, ho, hM, hE, hsz, hkt, O⟩
  have hWu := HW.out
  unfold blank at hWu
  rw [← hWu] at ho hkt O
  obtain ⟨xa, xc, rfl⟩ := owned_slice ho
  have hX2 : w2.heap[w.heap.size + 1 + 1]? = some (.cells #[.int .i64 0, .int .i64 0, .int .i64 0, .int .i64 0, .int .i64 0, .int .i64 0, .slice none 0 0] 210 (0, 0)) := (O.block _ (by omega) (by rw [tagTo_new _ _ _ _ (by omega)]; exact Ne.symm htg)).trans HX.out
  obtain ⟨⟨n0, n1, n2, n3, n4, n5, n6⟩, ⟨f0, f1, f2, f3, f4, f5, f6⟩, lN⟩ := row7 hX2
  have HP := hid (And.intro ho (And.intro hM (And.intro hE (And.intro hsz (And.intro hkt O)))))
  have HX2 := hid hX2
  clear HK ho hM hE hsz hkt O hX2 hWu
  unfold An.val reply
  go_wp2
  obtain ⟨ho, hM, hE, hsz, hkt, O⟩ := HP.out
  have Z := ((((((((Only.refl (fun b => b = w.heap.size + 1 + 1) w2).setCell ⟨w.heap.size + 1 + 1, 0, none⟩ (.inl rfl) (.int .i64 R.1.wh)).setCell ⟨w.heap.size + 1 + 1, 1, none⟩ (.inl rfl) (.int .i64 R.1.ep)).setCell ⟨w.heap.size + 1 + 1, 2, none⟩ (.inl rfl) (.int .i64 R.1.mark)).setCell ⟨w.heap.size + 1 + 1, 3, none⟩ (.inl rfl) (.int .i64 R.1.ct.kd)).setCell ⟨w.heap.size + 1 + 1, 4, none⟩ (.inl rfl) (.int .i64 R.1.ct.cl)).setCell ⟨w.heap.size + 1 + 1, 5, none⟩ (.inl rfl) (.int .i64 R.1.ct.ca)).setCell ⟨w.heap.size + 1 + 1, 6, none⟩ (.inl rfl) (.slice xa R.1.ct.val.length xc))
  have hfin := ucall_end (tg := tg) htg HB.out hs3 HX2.out ho hM hE hsz hkt O Z
  exact bodyPost_ret (v := .agg #[.int .i64 R.1.wh, .int .i64 R.1.ep, .int .i64 R.1.mark, .int .i64 R.1.ct.kd, .int .i64 R.1.ct.cl, .int .i64 R.1.ct.ca, .slice xa R.1.ct.val.length xc]) (by simp [results, Tryz.results330, go_sem, n0, n1, n2, n3, n4, n5, n6]) rfl hfin
end
end Go.Proofs.YtnhjmiglegdamaaGreat
