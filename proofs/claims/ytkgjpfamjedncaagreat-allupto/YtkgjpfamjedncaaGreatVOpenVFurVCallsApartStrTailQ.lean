-- A voter is opened from an image.
-- The calls of package furrow on a voter.
-- What the calls of package furrow on a voter do.
-- A voter apart from what else there is; its records go on; its image, opened anew.
-- Strings as bytes, and blocks that are told by a function.
/-
  Rows with a tail, rows that are written over, rows of one value again and again, which are appended to.
-/
import Derived.Test.YtkgjpfamjedncaaGreatVAgainVImgOpenOpensQ
import Derived.Test.YtkgjpfamjedncaaGreatVPrepVEqVAccQ
import Derived.Test.YtkgjpfamjedncaaGreatRecFits
import Derived.Laws.IdiomStrings
import Derived.ArgAppend
import Derived.OwnWalk
namespace Go.Proofs.YtkgjpfamjedncaaGreat
open Go.RowKit Go.Maps
attribute [local go_sem ↓] Go.wp_at_zero Go.wp_at_succ

def vshs : List (Int × Int × Int) := [(1, 2, 0), (2, 2, 255)]
set_option maxRecDepth 100000 in
set_option maxHeartbeats 400000 in
theorem vshapes_any (w : World) : Calls Tryz.prog 92 #[] w fun e w' => e = .returned (.slice (some ⟨w.heap.size, 0, none⟩) 2 2) ∧ Shapes w' w.heap.size 0 vshs ∧ Bl w w' := by
  go_enter Tryz.func92, Tryz.ntmps92
  go_wp2
  go_ret
  refine ⟨rfl, ⟨by simp, fun j h => ?_⟩, (Bl.refl _).alloc _⟩
  match j, h with
  | 0, _ => exact ⟨cell_of_row _ _ 0 _ 172 (0, 0) (heap_alloc_new w _), cell_of_row _ _ 1 _ 172 (0, 0) (heap_alloc_new w _), cell_of_row _ _ 2 _ 172 (0, 0) (heap_alloc_new w _)⟩
  | 1, _ => exact ⟨cell_of_row _ _ 3 _ 172 (0, 0) (heap_alloc_new w _), cell_of_row _ _ 4 _ 172 (0, 0) (heap_alloc_new w _), cell_of_row _ _ 5 _ 172 (0, 0) (heap_alloc_new w _)⟩
  | n + 2, h => simp [vshs] at h; omega

def nop : Ep := ⟨0, 0, []⟩
/-- The states that the calls of a voter's records go through. -/
structure VWay (rs : List Rc) (S : Nat → Int → Ep) : Prop where
  zero : S 0 = fun _ => nop
  step : ∀ j, (h : j < rs.length) → VPlays (S j) rs[j] (S (j + 1))
  ok : ∀ r ∈ rs, r.Ok vshs

theorem VWay.vals {rs : List Rc} {S : Nat → Int → Ep} (h : VWay rs S) : ∀ j, j ≤ rs.length → ∀ e, (S j e).val.length ≤ 255 ∧ ∀ d ∈ (S j e).val, 0 ≤ d ∧ d ≤ 255 := by
  intro j
  induction j with
  | zero => intro _ e; rw [h.zero]; simp [nop]
  | succ j ih =>
    intro hj e
    have hs := h.step j (by omega)
    have ih := ih (by omega)
    generalize S (j + 1) = s' at hs ⊢
    generalize rs[j] = r at hs
    cases hs with
    | prep e' b _ _ _ =>
      unfold updE
      split
      · exact ih e'
      · exact ih e
    | acc e' b ys _ _ _ _ hy hys _ =>
      unfold updE
      split
      · exact ⟨hy, hys⟩
      · exact ih e

/-- What a voter is while the records are done again. -/
structure Jv (p bm : Nat) (rs : List Rc) (S : Nat → Int → Ep) (w2 : World) (j : Nat) (W : World) : Prop where
  vs : ∃ M vi, Vs w2.heap.size W p bm j (S j) (flat (rs.take j)) M vi 130 ∧ (j = 0 → ∀ B, W.ownsRow B 5 1 vi 0 [] ∧ ∀ e, M e = ep0)
  only : Only (fun b => b = p ∨ b = bm) w2 W
  at2 : ∃ vi, w2.heap[p]? = some (.cells #[.map (some bm), vi] 130 (0, 0))
  mp2 : ∃ es cl, w2.heap[bm]? = some (.map es cl)

theorem vdoing {p bm : Nat} {rs : List Rc} {S : Nat → Int → Ep} (hw : VWay rs S) (hl : (flat rs).length ≤ 30000000) (base : Nat) : VDoing 93 (.pointer (some ⟨p, 0, none⟩)) p 1 bm base rs (Jv p bm rs S) where
  img := by
    rintro w2 W j ⟨⟨M, vi, hV, _⟩, _, _, _⟩ hj
    exact ⟨_, _, hV.c1, hV.own⟩
  plt := by
    rintro w2 W j ⟨_, _, ⟨vi, h⟩, _⟩
    exact (Array.getElem?_eq_some_iff.1 h).1
  safe := by
    rintro w2 W j ⟨_, _, ⟨vi, h⟩, ⟨es, cl, hm⟩⟩ b cs e f hb hx
    rcases hb with rfl | rfl
    · rw [h] at hx
      simp only [Option.some.injEq, Obj.cells.injEq] at hx
      rw [← hx.2.1]; decide
    · rw [hm] at hx; simp at hx
  only := fun h => h.only
  bl := fun ⟨⟨M, vi, hV, hz⟩, h2, h3, h4⟩ hb => ⟨⟨M, vi, hV.bl hb, fun e B => ⟨(Only.of_bl (S := fun _ => False) hb).owns (hz e B).1 fun _ _ e => e, (hz e B).2⟩⟩, h2.trans (Only.of_bl hb), h3, h4⟩
  step := by
    rintro w2 W j nv vv h ⟨⟨M, vi, hV, _⟩, hO, hA, hB⟩ hn hv hvb
    have hlj : (flat (rs.take j)).length ≤ 30000000 := by have := off_le rs j h; unfold off at this; omega
    have hj3 : j ≤ 30000000 := by have := off_ge rs j (by omega); unfold off at this; omega
    refine (vagain_any w2.heap.size p bm j base (S j) (S (j + 1)) rs[j] _ M vi 130 nv vv W hV hO.size hlj hj3 (hw.vals j (by omega)) (hw.step j h) (hw.ok _ (List.getElem_mem h)).wf hn hv (fun g e e' => ?_)).mono ?_
    · have := hvb g e; have := (hV.own.lt g e').1; omega
    rintro e W' ⟨M', vi', rfl, hV', hO'⟩
    refine ⟨rfl, ⟨⟨M', vi', ?_, fun e => absurd e (by omega)⟩, ?_, hA, hB⟩, _, hO', ?_⟩
    · rw [List.take_succ_eq_append_getElem h, flat_append]; simpa [flat] using hV'
    · refine ⟨hO'.os.trans hO.os, hO'.tape.trans hO.tape, hO'.output.trans hO.output, Nat.le_trans hO.size hO'.size, fun i hi hn' => ?_⟩
      rw [hO'.block i (Nat.lt_of_lt_of_le hi hO.size) (fun e => ?_), hO.block i hi hn']
      rcases e with e | e | e
      · exact hn' (.inl e)
      · exact hn' (.inr e)
      · have := (hV.own.lt i e).1; omega
    · rintro x cs f hx (e | e | e)
      · subst e
        rw [hV.at'] at hx
        simp only [Option.some.injEq, Obj.cells.injEq] at hx
        exact absurd hx.2.1 (by decide)
      · exact hV.mp.ne hx e
      · exact own_ne_block hV.own hx (by decide) e

set_option maxRecDepth 100000 in
set_option maxHeartbeats 4000000 in
theorem vopen_any (ad : Option Addr) (n cc : Nat) (rs : List Rc) (S : Nat → Int → Ep) (w : World) (hw : VWay rs S) (hl : (flat rs).length ≤ 30000000) (hd : Cut w ad n cc rs) :
    Calls Tryz.prog 68 #[.slice ad n cc] w fun e w' => ∃ k p bm M vi, e = .returned (.tuple #[.pointer (some ⟨p, 0, none⟩), .int .i64 0]) ∧ k ≤ rs.length ∧ off rs k ≤ n ∧ (∀ h : k < rs.length, n < off rs k + rs[k].bytes.length) ∧ w.heap.size ≤ p ∧ w.heap.size ≤ bm ∧ Vs w.heap.size w' p bm k (S k) (flat (rs.take k)) M vi 130 ∧ Bl w w' := by
  have Hw := hid hw
  have Hd := hid hd
  clear hw hd
  have hmk : (Instr.makeMap 128 none).run Tryz.prog w = .ok (.map (some w.heap.size)) (w.alloc (.map #[] 0)) := by
    rfl
  go_enter Tryz.func68, Tryz.ntmps68
  go_wp2
  have b0 := hid (((Bl.refl w).alloc (.map #[] 0)).alloc (.cells #[.map (some w.heap.size), .slice none 0 0] 130))
  have hP0 : Hid (((w.alloc (.map #[] 0)).alloc (.cells #[.map (some w.heap.size), .slice none 0 0] 130)).heap[w.heap.size + 1]? = some (.cells #[.map (some w.heap.size), .slice none 0 0] 130 (0, 0))) := by
    have := heap_alloc_new (w.alloc (.map #[] 0)) (.cells #[.map (some w.heap.size), .slice none 0 0] 130)
    rw [show (w.alloc (.map #[] 0)).heap.size = w.heap.size + 1 from by simp] at this
    exact this
  have hM0 : Hid (Mp ((w.alloc (.map #[] 0)).alloc (.cells #[.map (some w.heap.size), .slice none 0 0] 130)) w.heap.size 0 (fun _ => ep0)) := (Mp.made w).bl ((Bl.refl _).alloc _)
  have HO : Hid (∀ W, Bl ((w.alloc (.map #[] 0)).alloc (.cells #[.map (some w.heap.size), .slice none 0 0] 130)) W → W.heap.size = w.heap.size + 2 → Calls Tryz.prog 92 #[] W fun e w3 => e = .returned (.slice (some ⟨w.heap.size + 2, 0, none⟩) 2 2) ∧ Calls Tryz.prog 89 #[.pointer (some ⟨w.heap.size + 1, 1, none⟩), .slice ad n cc, .slice (some ⟨w.heap.size + 2, 0, none⟩) 2 2, .func (.func 93) #[.pointer (some ⟨w.heap.size + 1, 0, none⟩)] #[]] w3 fun e w' => ∃ k M vi, e = .returned (.bool true) ∧ k ≤ rs.length ∧ off rs k ≤ n ∧ (∀ h : k < rs.length, n < off rs k + rs[k].bytes.length) ∧ Vs w.heap.size w' (w.heap.size + 1) w.heap.size k (S k) (flat (rs.take k)) M vi 130 ∧ Bl w w') := by
    intro W hW hsz
    refine (vshapes_any W).mono ?_
    rw [hsz]
    rintro e w3 ⟨rfl, hs3, hb3⟩
    refine ⟨rfl, ?_⟩
    have hB3 := hW.trans hb3
    obtain ⟨g1, g2, g3, b', o', g4, g5⟩ := Hd.out.bl (b0.out.trans hB3)
    refine (vimgOpen_any (.pointer (some ⟨w.heap.size + 1, 0, none⟩)) (w.heap.size + 1) 1 w.heap.size ad b' o' cc n (w.heap.size + 2) 0 2 rs vshs w3 _ (vdoing (p := w.heap.size + 1) (bm := w.heap.size) Hw.out hl w3.heap.size) (fun w4 hb4 => ?_) g1 g2 (Nat.le_trans g1 hl) g3 g4 g5 hs3 (by decide) Hw.out.ok).mono ?_
    · have hB4 := hB3.trans hb4
      have hP4 := (hB4.heap (by simp)).trans hP0.out
      have hM4 := hM0.out.bl hB4
      refine ⟨⟨_, _, ⟨hP4, .inl rfl, hM4, fun e => ⟨.slice none 0 0, ?_, ?_, fun g e => by simp [Value.ownBlock] at e⟩, ?_⟩, fun _ B => ⟨World.ownsRow_nil _ _ _ _, fun _ => rfl⟩⟩, Only.refl _ _, ⟨_, hP4⟩, ?_⟩
      · rw [Hw.out.zero]; rfl
      · rw [Hw.out.zero]; exact World.ownsRow_nil _ _ _ _
      · exact World.ownsRow_nil _ _ _ _
      · obtain ⟨D, ⟨es, cl, hh, _⟩, _⟩ := hM4
        exact ⟨es, cl, hh⟩
    · rintro e w' ⟨k, w4, rfl, r1, r2, r3, hb4, ⟨M, vi, hV, _⟩, hO4, _, _⟩
      have hB4 := (b0.out.trans hB3).trans hb4
      refine ⟨k, M, vi, rfl, r1, r2, r3, ?_, hB4.trans_only hO4 (fun n e => by omega)⟩
      exact ⟨hV.at', hV.ty, hV.mp, fun e => by
        obtain ⟨vv, h1, h2, h3⟩ := hV.ep e
        exact ⟨vv, h1, ownsRow_base h2 fun g e => Nat.le_trans hB4.lt (h2.lt g e).1, h3⟩, ownsRow_base hV.own fun g e => Nat.le_trans hB4.lt (hV.own.lt g e).1⟩
  clear hmk
  go_region_with (first
    | (go_at_call 92; refine (HO.out _ (by exact (Bl.refl _).drewN _) (by simp)).mono ?_; rintro e w3 ⟨rfl, hs3⟩; have HS3 := hid hs3; clear hs3)
    | (go_at_call 89; refine HS3.out.mono ?_; rintro e w4 ⟨k, M, vi, rfl, r1, r2, r3, r4, r5⟩; have R1 := hid r1; have R2 := hid r2; have R3 := hid r3; have R4 := hid r4; have R5 := hid r5; clear r1 r2 r3 r4 r5))
  all_goals
    go_wp2
    go_ret2
    exact ⟨k, _, _, M, vi, rfl, R1.out, R2.out, R3.out, by omega, Nat.le_refl _, R4.out, R5.out⟩
end Go.Proofs.YtkgjpfamjedncaaGreat

namespace Go.Proofs.YtkgjpfamjedncaaGreat
open Go.RowKit Go.Maps
attribute [local go_sem ↓] Go.wp_at_zero Go.wp_at_succ

theorem owned_slice' {w : World} {B n : Nat} {v : Value} {xs : List Value} (h : w.ownsRow B 5 1 v n xs) : ∃ a c, v = .slice a n c := by
  obtain ⟨a', c', e'⟩ := (ownsRow_sl h).len
  rw [ownsRow_len h] at e'
  exact ⟨a', c', e'⟩

set_option maxRecDepth 100000 in
set_option maxHeartbeats 2000000 in
theorem openVoter_any (ad : Option Addr) (n cc : Nat) (rs : List Rc) (S : Nat → Int → Ep) (w : World) (hw : VWay rs S) (hl : (flat rs).length ≤ 30000000) (hd : Cut w ad n cc rs) :
    Calls Tryz.prog 33 #[.slice ad n cc] w fun e w' => ∃ k p bm M vi, e = .returned (.tuple #[.pointer (some ⟨p, 0, none⟩), .int .i64 0]) ∧ k ≤ rs.length ∧ off rs k ≤ n ∧ (∀ h : k < rs.length, n < off rs k + rs[k].bytes.length) ∧ w.heap.size ≤ p ∧ w.heap.size ≤ bm ∧ Vs w.heap.size w' p bm k (S k) (flat (rs.take k)) M vi 132 ∧ Bl w w' := by
  have HO := hid (vopen_any ad n cc rs S w hw hl hd)
  clear hw hd
  go_enter Tryz.func33, Tryz.ntmps33
  go_wp2_with fail
  refine HO.out.mono ?_
  rintro e w1 ⟨k, p, bm, M, vi, rfl, r1, r2, r3, r4, r5, r6, r7⟩
  obtain ⟨ia, ic, rfl⟩ := owned_slice' r6.own
  have c0 := r6.c0
  have c1 := r6.c1
  have hp := r6.lt
  have R1 := hid r1
  have R2 := hid r2
  have R3 := hid r3
  have R4 := hid r4
  have R5 := hid r5
  have R6 := hid r6
  have R7 := hid r7
  clear r1 r2 r3 r4 r5 r6 r7 HO
  go_wp2
  go_ret2
  have bC := (Bl.refl w1).alloc (.cells #[.map (some bm), .slice ia (flat (rs.take k)).length ic] 132)
  have hV := R6.out.bl bC
  exact ⟨k, w1.heap.size, bm, M, _, rfl, R1.out, R2.out, R3.out, R7.out.lt, R5.out, ⟨heap_alloc_new w1 _, .inr rfl, hV.mp, hV.ep, hV.own⟩, R7.out.alloc _⟩

set_option maxRecDepth 100000 in
set_option maxHeartbeats 1000000 in
theorem vimage_any (base p bm n : Nat) (E : Int → Ep) (img : List Int) (M : Int → Value) (vi : Value) (t : TypeId) (w : World) (h : Vs base w p bm n E img M vi t) (hl : img.length ≤ 30000000) :
    Calls Tryz.prog 79 #[.pointer (some ⟨p, 0, none⟩)] w fun e w' => ∃ v', e = .returned v' ∧ Bl w w' ∧ w'.ownsRow w.heap.size 5 1 v' img.length (img.map B8) := by
  have hp := h.lt
  have H := hid h
  clear h
  go_enter Tryz.func79, Tryz.ntmps79
  go_wp2_with fail
  refine (bytes_raw base p 1 _ img _ hp H.out.c1 H.out.own hl).mono ?_
  rintro e w' ⟨v', rfl, hb, hv⟩
  have HB := hid hb
  have HV := hid hv
  clear hb hv
  go_wp2
  go_ret
  exact ⟨_, rfl, HB.out, HV.out⟩

set_option maxRecDepth 100000 in
set_option maxHeartbeats 1000000 in
theorem fvimage_any (base p bm n : Nat) (E : Int → Ep) (img : List Int) (M : Int → Value) (vi : Value) (t : TypeId) (w : World) (h : Vs base w p bm n E img M vi t) (hl : img.length ≤ 30000000) :
    Calls Tryz.prog 50 #[.pointer (some ⟨p, 0, none⟩)] w fun e w' => ∃ v', e = .returned v' ∧ Bl w w' ∧ w'.ownsRow w.heap.size 5 1 v' img.length (img.map B8) := by
  have H := hid h
  clear h
  go_enter Tryz.func50, Tryz.ntmps50
  go_wp2_with fail
  refine (vimage_any base p bm n E img M vi t _ H.out hl).mono ?_
  rintro e w' ⟨v', rfl, hb, hv⟩
  have HB := hid hb
  have HV := hid hv
  clear hb hv
  go_wp2
  go_ret
  exact ⟨_, rfl, HB.out, HV.out⟩

/-- What a call of the voter answers, ahead of the answer's being laid into its own block. -/
def VInner (g : Nat) (Q : Int → Int → Int → Value → World → Prop) (e : Ending) (w1 : World) : Prop :=
  ∃ wh pr ba ra rn rc, e = .returned (voteR wh pr ba (.slice ra rn rc)) ∧ Q wh pr ba (.slice ra rn rc) w1 ∧ w1.heap[g]? = some (.cells blankV 105 (0, 0))
def VOuter (g : Nat) (Q : Int → Int → Int → Value → World → Prop) (e : Ending) (w' : World) : Prop :=
  ∃ wh pr ba v w1, e = .returned (voteR wh pr ba v) ∧ Q wh pr ba v w1 ∧ w1.heap[g]? = some (.cells blankV 105 (0, 0)) ∧ Only (fun b => b = g) w1 w'

set_option maxRecDepth 100000 in
set_option maxHeartbeats 2000000 in
theorem wrap_prepare (p : Nat) (x y : Int) (w : World) (Q : Int → Int → Int → Value → World → Prop)
    (h : Calls Tryz.prog 80 #[.pointer (some ⟨p, 0, none⟩), .int .i64 x, .int .i64 y] (w.alloc (.cells blankV 105)) (VInner w.heap.size Q)) :
    Calls Tryz.prog 52 #[.pointer (some ⟨p, 0, none⟩), .int .i64 x, .int .i64 y] w (VOuter w.heap.size Q) := by
  have H := hid h
  clear h
  go_enter Tryz.func52, Tryz.ntmps52
  go_wp2_with fail
  refine H.out.mono ?_
  rintro e w1 ⟨wh, pr, ba, ra, rn, rc, rfl, hQ, hN⟩
  have lN : w.heap.size < w1.heap.size := (Array.getElem?_eq_some_iff.1 hN).1
  obtain ⟨n0, n1, n2, n3, f0, f1, f2, f3⟩ := blankV_row hN
  have HN := hid hN
  have HQ := hid hQ
  clear hN hQ H
  unfold voteR
  go_wp2
  have F := Only.set4 (w := w1) (S := fun b => b = w.heap.size) rfl (.int .i64 wh) (.int .i64 pr) (.int .i64 ba) (.slice ra rn rc)
  exact bodyPost_ret (v := voteR wh pr ba (.slice ra rn rc)) (by simp [results, Tryz.results52, go_sem, voteR, n0, n1, n2, n3]) rfl ⟨wh, pr, ba, _, w1, rfl, HQ.out, HN.out, F⟩

set_option maxRecDepth 100000 in
set_option maxHeartbeats 2000000 in
theorem wrap_accept (p : Nat) (x y : Int) (va : Option Addr) (vn vc : Nat) (w : World) (Q : Int → Int → Int → Value → World → Prop)
    (h : Calls Tryz.prog 82 #[.pointer (some ⟨p, 0, none⟩), .int .i64 x, .int .i64 y, .slice va vn vc] (w.alloc (.cells blankV 105)) (VInner w.heap.size Q)) :
    Calls Tryz.prog 54 #[.pointer (some ⟨p, 0, none⟩), .int .i64 x, .int .i64 y, .slice va vn vc] w (VOuter w.heap.size Q) := by
  have H := hid h
  clear h
  go_enter Tryz.func54, Tryz.ntmps54
  go_wp2_with fail
  refine H.out.mono ?_
  rintro e w1 ⟨wh, pr, ba, ra, rn, rc, rfl, hQ, hN⟩
  have lN : w.heap.size < w1.heap.size := (Array.getElem?_eq_some_iff.1 hN).1
  obtain ⟨n0, n1, n2, n3, f0, f1, f2, f3⟩ := blankV_row hN
  have HN := hid hN
  have HQ := hid hQ
  clear hN hQ H
  unfold voteR
  go_wp2
  have F := Only.set4 (w := w1) (S := fun b => b = w.heap.size) rfl (.int .i64 wh) (.int .i64 pr) (.int .i64 ba) (.slice ra rn rc)
  exact bodyPost_ret (v := voteR wh pr ba (.slice ra rn rc)) (by simp [results, Tryz.results54, go_sem, voteR, n0, n1, n2, n3]) rfl ⟨wh, pr, ba, _, w1, rfl, HQ.out, HN.out, F⟩
end Go.Proofs.YtkgjpfamjedncaaGreat

namespace Go.Proofs.YtkgjpfamjedncaaGreat
open Go.RowKit Go.Maps

abbrev nilV : Value := .slice none 0 0
theorem Vs.ne {base : Nat} {w : World} {p bm n : Nat} {E : Int → Ep} {img : List Int} {M : Int → Value} {vi : Value} {t : TypeId} (h : Vs base w p bm n E img M vi t) {g : Nat} (hg : w.heap.size ≤ g) : ¬ (g = p ∨ g = bm ∨ vi.ownBlock = some g) := by
  have := h.lt
  have := h.mp.lt
  rintro (e | e | e)
  · omega
  · omega
  · have := (h.own.lt _ e).2; omega

theorem fprepare_no (base p bm n : Nat) (E : Int → Ep) (img : List Int) (M : Int → Value) (vi : Value) (t : TypeId) (e b : Int) (w : World) (h : Vs base w p bm n E img M vi t) (he : (Lit.int .i64 e).wf = true) (hno : e < 1 ∨ b < 1 ∨ b ≤ (E e).pr) :
    Calls Tryz.prog 52 #[.pointer (some ⟨p, 0, none⟩), .int .i64 e, .int .i64 b] w fun en w' => en = .returned (voteR 6 (E e).pr 0 nilV) ∧ Vs base w' p bm n E img M vi t ∧ Bl w w' := by
  have bA := (Bl.refl w).alloc (.cells blankV 105)
  refine (wrap_prepare p e b w (fun wh pr ba v w1 => wh = 6 ∧ pr = (E e).pr ∧ ba = 0 ∧ v = nilV ∧ Vs base w1 p bm n E img M vi t ∧ Bl w w1) ?_).mono ?_
  · refine (prepareNo_any base p bm n E img M vi t e b _ (h.bl bA) he hno).mono ?_
    rintro en w1 ⟨rfl, hv, hb⟩
    exact ⟨_, _, _, _, _, _, rfl, ⟨rfl, rfl, rfl, rfl, hv, bA.trans hb⟩, (hb.heap (by simp)).trans (heap_alloc_new w _)⟩
  · rintro en w' ⟨_, _, _, _, w1, rfl, ⟨rfl, rfl, rfl, rfl, hv, hb⟩, hN, hO⟩
    have := h.lt
    exact ⟨rfl, hv.other hO hN (by decide) (by omega), hb.trans_only hO (fun n e => by omega)⟩

theorem fprepare_yes (base p bm n : Nat) (E : Int → Ep) (img : List Int) (M : Int → Value) (vi : Value) (t : TypeId) (e b : Int) (w : World) (h : Vs base w p bm n E img M vi t) (hb : base ≤ w.heap.size) (hl : img.length ≤ 30000000) (hn : n ≤ 30000000) (he : (Lit.int .i64 e).wf = true) (hel : (E e).val.length ≤ 255) (h1 : 1 ≤ e) (h2 : 1 ≤ b) (h3 : (E e).pr < b) :
    Calls Tryz.prog 52 #[.pointer (some ⟨p, 0, none⟩), .int .i64 e, .int .i64 b] w fun en w' => ∃ M' vi' v', en = .returned (voteR 1 b (E e).ba v') ∧ w'.ownsRow w.heap.size 5 1 v' (E e).val.length ((E e).val.map B8) ∧ Vs base w' p bm (n + 1) (updE E e ⟨b, (E e).ba, (E e).val⟩) (img ++ recB 1 [e, b] []) M' vi' t ∧ Gone p bm M vi M' vi' w w' ∧ ∀ g, v'.ownBlock = some g → ¬ Foot M' vi' g := by
  have bA := (Bl.refl w).alloc (.cells blankV 105)
  refine (wrap_prepare p e b w (fun wh pr ba v w1 => wh = 1 ∧ pr = b ∧ ba = (E e).ba ∧ w1.ownsRow w.heap.size 5 1 v (E e).val.length ((E e).val.map B8) ∧ ∃ M' vi', Vs base w1 p bm (n + 1) (updE E e ⟨b, (E e).ba, (E e).val⟩) (img ++ recB 1 [e, b] []) M' vi' t ∧ Gone p bm M vi M' vi' w w1 ∧ ∀ g, v.ownBlock = some g → ¬ Foot M' vi' g) ?_).mono ?_
  · refine (prepareYes_any base p bm n E img M vi t e b _ (h.bl bA) (Nat.le_trans hb bA.lt) hl hn he hel h1 h2 h3).mono ?_
    rintro en w1 ⟨M', vi', v', rfl, hv', hv, ho, hd⟩
    obtain ⟨sa, sc, rfl⟩ := owned_slice' hv'
    exact ⟨_, _, _, _, _, _, rfl, ⟨rfl, rfl, rfl, ownsRow_base hv' fun g e => Nat.le_trans bA.lt (hv'.lt g e).1, M', vi', hv, ho.pre bA, hd⟩, (ho.only.block _ (by simp) (h.ne (Nat.le_refl _))).trans (heap_alloc_new w _)⟩
  · rintro en w' ⟨_, _, _, v, w1, rfl, ⟨rfl, rfl, rfl, hv', M', vi', hv, ho, hd⟩, hN, hO⟩
    have := h.lt
    exact ⟨M', vi', v, rfl, hO.owns hv' fun g e e' => own_ne_block hv' hN (by decide) (by rw [e, e']), hv.other hO hN (by decide) (by omega), ho.post_new hO (fun g e => Nat.le_of_eq e.symm), hd⟩

theorem faccept_no (base p bm n : Nat) (E : Int → Ep) (img : List Int) (M : Int → Value) (vi : Value) (t : TypeId) (e b : Int) (ua : Option Addr) (un uc : Nat) (w : World) (h : Vs base w p bm n E img M vi t) (he : (Lit.int .i64 e).wf = true) (hun : (un : Int) ≤ 9223372036854775807) (hno : e < 1 ∨ b < 1 ∨ b < (E e).pr ∨ ¬ (1 ≤ un ∧ un ≤ 255)) :
    Calls Tryz.prog 54 #[.pointer (some ⟨p, 0, none⟩), .int .i64 e, .int .i64 b, .slice ua un uc] w fun en w' => en = .returned (voteR 6 (E e).pr 0 nilV) ∧ Vs base w' p bm n E img M vi t ∧ Bl w w' := by
  have bA := (Bl.refl w).alloc (.cells blankV 105)
  refine (wrap_accept p e b ua un uc w (fun wh pr ba v w1 => wh = 6 ∧ pr = (E e).pr ∧ ba = 0 ∧ v = nilV ∧ Vs base w1 p bm n E img M vi t ∧ Bl w w1) ?_).mono ?_
  · refine (acceptNo_any base p bm n E img M vi t e b ua un uc _ (h.bl bA) he hun hno).mono ?_
    rintro en w1 ⟨rfl, hv, hb⟩
    exact ⟨_, _, _, _, _, _, rfl, ⟨rfl, rfl, rfl, rfl, hv, bA.trans hb⟩, (hb.heap (by simp)).trans (heap_alloc_new w _)⟩
  · rintro en w' ⟨_, _, _, _, w1, rfl, ⟨rfl, rfl, rfl, rfl, hv, hb⟩, hN, hO⟩
    have := h.lt
    exact ⟨rfl, hv.other hO hN (by decide) (by omega), hb.trans_only hO (fun n e => by omega)⟩

theorem faccept_same (base p bm n : Nat) (E : Int → Ep) (img : List Int) (M : Int → Value) (vi : Value) (t : TypeId) (e b : Int) (v : Value) (ys : List Int) (w : World) (h : Vs base w p bm n E img M vi t) (hb : base ≤ w.heap.size) (hl : img.length ≤ 30000000) (hn : n ≤ 30000000) (he : (Lit.int .i64 e).wf = true)
    (hv : Bs w v (ys.map B8)) (hy1 : 1 ≤ ys.length) (hy : ys.length ≤ 255) (hvb : ∀ g, v.ownBlock = some g → g < w.heap.size ∧ vi.ownBlock ≠ some g ∧ g ≠ bm) (hys : ∀ d ∈ ys, 0 ≤ d ∧ d ≤ 255) (hev : ∀ d ∈ (E e).val, 0 ≤ d ∧ d ≤ 255) (h1 : 1 ≤ e) (h2 : 1 ≤ b) (h3 : (E e).pr ≤ b) (hbb : b = (E e).ba) (hyv : ys = (E e).val) :
    Calls Tryz.prog 54 #[.pointer (some ⟨p, 0, none⟩), .int .i64 e, .int .i64 b, v] w fun en w' => en = .returned (voteR 1 b 0 nilV) ∧ Vs base w' p bm n E img M vi t ∧ Bl w w' := by
  have bA := (Bl.refl w).alloc (.cells blankV 105)
  obtain ⟨ua, uc, ev⟩ := hv.len
  subst ev
  refine (wrap_accept p e b ua _ uc w (fun wh pr ba v w1 => wh = 1 ∧ pr = b ∧ ba = 0 ∧ v = nilV ∧ Vs base w1 p bm n E img M vi t ∧ Bl w w1) ?_).mono ?_
  · refine (acceptSame_any base p bm n E img M vi t e b _ ys _ (h.bl bA) (Nat.le_trans hb bA.lt) hl hn he (hv.bl bA) hy1 hy (fun g e => ⟨Nat.lt_of_lt_of_le (hvb g e).1 bA.lt, (hvb g e).2⟩) hys hev h1 h2 h3 hbb hyv).mono ?_
    rintro en w1 ⟨rfl, hv, hb⟩
    exact ⟨_, _, _, _, _, _, rfl, ⟨rfl, rfl, rfl, rfl, hv, bA.trans hb⟩, (hb.heap (by simp)).trans (heap_alloc_new w _)⟩
  · rintro en w' ⟨_, _, _, _, w1, rfl, ⟨rfl, rfl, rfl, rfl, hv, hb⟩, hN, hO⟩
    have := h.lt
    exact ⟨rfl, hv.other hO hN (by decide) (by omega), hb.trans_only hO (fun n e => by omega)⟩

theorem faccept_new (base p bm n : Nat) (E : Int → Ep) (img : List Int) (M : Int → Value) (vi : Value) (t : TypeId) (e b : Int) (v : Value) (ys : List Int) (w : World) (h : Vs base w p bm n E img M vi t) (hb : base ≤ w.heap.size) (hl : img.length ≤ 30000000) (hn : n ≤ 30000000) (he : (Lit.int .i64 e).wf = true)
    (hv : Bs w v (ys.map B8)) (hy1 : 1 ≤ ys.length) (hy : ys.length ≤ 255) (hvb : ∀ g, v.ownBlock = some g → g < w.heap.size ∧ vi.ownBlock ≠ some g ∧ g ≠ bm) (hys : ∀ d ∈ ys, 0 ≤ d ∧ d ≤ 255) (hev : ∀ d ∈ (E e).val, 0 ≤ d ∧ d ≤ 255) (h1 : 1 ≤ e) (h2 : 1 ≤ b) (h3 : (E e).pr ≤ b) (hne : b ≠ (E e).ba ∨ ys ≠ (E e).val) :
    Calls Tryz.prog 54 #[.pointer (some ⟨p, 0, none⟩), .int .i64 e, .int .i64 b, v] w fun en w' => ∃ M' vi', en = .returned (voteR 1 b 0 nilV) ∧ Vs base w' p bm (n + 1) (updE E e ⟨b, b, ys⟩) (img ++ recB 2 [e, b] ys) M' vi' t ∧ Gone p bm M vi M' vi' w w' := by
  have bA := (Bl.refl w).alloc (.cells blankV 105)
  obtain ⟨ua, uc, ev⟩ := hv.len
  subst ev
  have key : Calls Tryz.prog 82 #[.pointer (some ⟨p, 0, none⟩), .int .i64 e, .int .i64 b, .slice ua (ys.map B8).length uc] (w.alloc (.cells blankV 105)) fun en w' => ∃ M' vi', en = .returned (voteR 1 b 0 nilV) ∧ Vs base w' p bm (n + 1) (updE E e ⟨b, b, ys⟩) (img ++ recB 2 [e, b] ys) M' vi' t ∧ Gone p bm M vi M' vi' (w.alloc (.cells blankV 105)) w' := by
    by_cases hbb : b = (E e).ba
    · exact acceptNew2_any base p bm n E img M vi t e b _ ys _ (h.bl bA) (Nat.le_trans hb bA.lt) hl hn he (hv.bl bA) hy1 hy (fun g e => ⟨Nat.lt_of_lt_of_le (hvb g e).1 bA.lt, (hvb g e).2⟩) hys hev h1 h2 h3 hbb (hne.resolve_left fun h => h hbb)
    · exact acceptNew_any base p bm n E img M vi t e b _ ys _ (h.bl bA) (Nat.le_trans hb bA.lt) hl hn he (hv.bl bA) hy1 hy (fun g e => ⟨Nat.lt_of_lt_of_le (hvb g e).1 bA.lt, (hvb g e).2⟩) hys hev h1 h2 h3 hbb
  refine (wrap_accept p e b ua _ uc w (fun wh pr ba v w1 => wh = 1 ∧ pr = b ∧ ba = 0 ∧ v = nilV ∧ ∃ M' vi', Vs base w1 p bm (n + 1) (updE E e ⟨b, b, ys⟩) (img ++ recB 2 [e, b] ys) M' vi' t ∧ Gone p bm M vi M' vi' w w1) ?_).mono ?_
  · refine key.mono ?_
    rintro en w1 ⟨M', vi', rfl, hv, ho⟩
    exact ⟨_, _, _, _, _, _, rfl, ⟨rfl, rfl, rfl, rfl, M', vi', hv, ho.pre bA⟩, (ho.only.block _ (by simp) (h.ne (Nat.le_refl _))).trans (heap_alloc_new w _)⟩
  · rintro en w' ⟨_, _, _, v, w1, rfl, ⟨rfl, rfl, rfl, rfl, M', vi', hv, ho⟩, hN, hO⟩
    have := h.lt
    exact ⟨M', vi', rfl, hv.other hO hN (by decide) (by omega), ho.post_new hO (fun g e => Nat.le_of_eq e.symm)⟩
end Go.Proofs.YtkgjpfamjedncaaGreat

namespace Go.Proofs.YtkgjpfamjedncaaGreat
open Go.RowKit Go.Maps

theorem Vs.apart {S : Nat → Prop} {base : Nat} {w w' : World} {p bm n : Nat} {E : Int → Ep} {img : List Int} {M : Int → Value} {vi : Value} {t : TypeId} (h : Vs base w p bm n E img M vi t) (ho : Only S w w') (h1 : ¬ S p) (h2 : ¬ S bm) (h3 : ∀ g, g < w.heap.size → Foot M vi g → ¬ S g) : Vs base w' p bm n E img M vi t := by
  refine ⟨(ho.block p h.lt h1).trans h.at', h.ty, h.mp.only ho h2, fun e => ?_, ho.owns h.own fun b e => h3 b (h.own.lt b e).2 (.inl e)⟩
  obtain ⟨vv, k1, k2, k3⟩ := h.ep e
  exact ⟨vv, k1, ho.owns k2 fun b e' => h3 b (k2.lt b e').2 (.inr ⟨e, by rw [k1]; exact e'⟩), k3⟩
theorem Vs.base0 {base : Nat} {w : World} {p bm n : Nat} {E : Int → Ep} {img : List Int} {M : Int → Value} {vi : Value} {t : TypeId} (h : Vs base w p bm n E img M vi t) : Vs 0 w p bm n E img M vi t := by
  refine ⟨h.at', h.ty, h.mp, fun e => ?_, ownsRow_base h.own fun _ _ => Nat.zero_le _⟩
  obtain ⟨vv, k1, k2, k3⟩ := h.ep e
  exact ⟨vv, k1, ownsRow_base k2 fun _ _ => Nat.zero_le _, k3⟩

/-- A record more. -/
theorem VWay.snoc {rs : List Rc} {S : Nat → Int → Ep} (h : VWay rs S) {r : Rc} {E' : Int → Ep} (hp : VPlays (S rs.length) r E') (ho : r.Ok vshs) : VWay (rs ++ [r]) (fun j => if j = rs.length + 1 then E' else S j) where
  zero := by simp [h.zero]
  step := fun j hj => by
    rw [List.length_append, List.length_singleton] at hj
    by_cases e : j < rs.length
    · rw [if_neg (by omega), if_neg (by omega), List.getElem_append_left e]
      exact h.step j e
    · obtain rfl : j = rs.length := by omega
      rw [if_neg (by omega), if_pos rfl]
      simpa using hp
  ok := fun x hx => by
    rcases List.mem_append.1 hx with hx | hx
    · exact h.ok x hx
    · simp at hx; subst hx; exact ho
theorem VWay.last {rs : List Rc} {S : Nat → Int → Ep} {r : Rc} {E' : Int → Ep} : (fun j => if j = rs.length + 1 then E' else S j) (rs ++ [r]).length = E' := by simp
theorem vok_prep (e b : Int) (he : (Lit.int .i64 e).wf = true) (hb : (Lit.int .i64 b).wf = true) : Rc.Ok vshs ⟨1, [e, b], []⟩ :=
  ⟨by simp, by simp, by simp, by simp, by simp, by simp; exact ⟨he, hb⟩, by simp, (1, 2, 0), by decide, rfl, rfl, by simp⟩
theorem vok_acc (e b : Int) (ys : List Int) (he : (Lit.int .i64 e).wf = true) (hb : (Lit.int .i64 b).wf = true) (hy : ys.length ≤ 255) (hys : ∀ d ∈ ys, 0 ≤ d ∧ d ≤ 255) : Rc.Ok vshs ⟨2, [e, b], ys⟩ :=
  ⟨by simp, by simp, by simp, by simp, hy, by simp; exact ⟨he, hb⟩, hys, (2, 2, 255), by decide, rfl, rfl, by simp; omega⟩
theorem cut_own {w : World} {base L c : Nat} {a : Option Addr} {rs : List Rc} (h : w.ownsRow base 5 1 (.slice a L c) L ((flat rs).map B8)) : Cut w a L c rs := by
  have hl := ownsRow_len h
  rw [List.length_map] at hl
  rcases h.2 with ⟨h', hz⟩ | ⟨g, cap, cur, h', hb, hg, hc, hm, hs, ht⟩
  · simp only [Value.slice.injEq] at h'
    obtain ⟨rfl, rfl, rfl⟩ := h'
    exact ⟨by omega, Nat.le_refl _, by decide, 0, 0, fun h => absurd h (by decide), fun j d h => absurd h (by omega)⟩
  · simp only [Value.slice.injEq] at h'
    obtain ⟨rfl, _, rfl⟩ := h'
    refine ⟨by omega, hc, by unfold maxLen at hm; omega, g, 0, fun _ => ⟨rfl, (h.lt g rfl).2⟩, fun j d hj hd => ?_⟩
    rw [Nat.zero_add, h.cellAt j (by omega), List.getElem?_map, hd]
    rfl

/-- Of epochs below one nothing is kept. -/
theorem VWay.low {rs : List Rc} {S : Nat → Int → Ep} (h : VWay rs S) : ∀ k, k ≤ rs.length → ∀ e, e < 1 → S k e = nop := by
  intro k
  induction k with
  | zero => intro _ e _; rw [h.zero]
  | succ k ih =>
    intro hk e he
    have h1 := ih (by omega) e he
    have h2 := h.step k (by omega)
    have key : ∀ E0 r E', VPlays E0 r E' → E0 e = nop → E' e = nop := by
      intro E0 r E' hp h0
      cases hp with
      | prep x b hx hb hlt => unfold updE; rw [if_neg (by omega)]; exact h0
      | acc x b ys hx => unfold updE; rw [if_neg (by omega)]; exact h0
    exact key _ _ _ h2 h1
end Go.Proofs.YtkgjpfamjedncaaGreat

namespace Go.Proofs.YtkgjpfamjedncaaGreat
open Go.RowKit

theorem strOf_size (ys : List Int) : (strOf ys).size = ys.length := by
  have := congrArg List.length (strOf_list ys)
  simpa using this
theorem strOf_dsize (ys : List Int) : (strOf ys).data.size = ys.length := strOf_size ys
theorem bytes_of (w : World) (ys : List Int) (hys : ∀ d ∈ ys, 0 ≤ d ∧ d ≤ 255) (cap : Nat) (f : Nat × Nat) : Bs (w.alloc (.cells (bytesRow (strOf ys) cap) 5 f)) (.slice (some ⟨w.heap.size, 0, none⟩) ys.length cap) (ys.map B8) := by
  refine .inr ⟨⟨w.heap.size, 0, none⟩, cap, by simp, fun j u hj => ?_⟩
  rw [add_eq, Nat.zero_add, cell_of_row _ _ j _ 5 f (heap_alloc_new w _)]
  obtain ⟨hl, rfl⟩ := List.getElem?_eq_some_iff.1 hj
  rw [List.length_map] at hl
  rw [bytesRow_at _ _ _ (by rw [strOf_dsize]; exact hl)]
  have h1 : (strOf ys).data[j]'(by rw [strOf_dsize]; exact hl) = UInt8.ofNat (ys[j]).toNat := by
    have := strOf_list ys
    have h2 : (strOf ys).data.toList[j]? = (ys.map (fun n => UInt8.ofNat n.toNat))[j]? := by rw [this]
    rw [List.getElem?_map, List.getElem?_eq_getElem hl, Array.getElem?_toList, Array.getElem?_eq_getElem (by rw [strOf_dsize]; exact hl)] at h2
    simpa using h2
  have h3 := hys ys[j] (List.getElem_mem hl)
  rw [h1, List.getElem_map]
  simp only [B8, UInt8.toNat_ofNat', Option.some.injEq, Value.int.injEq, true_and]
  omega
end Go.Proofs.YtkgjpfamjedncaaGreat

namespace Go.Proofs.YtkgjpfamjedncaaGreat
open Go.RowKit

/-- A row behind j places of its end: those are x, the others are z. -/
def tailed (A : List Value) (x z : Value) (j m : Nat) : List Value := A ++ (List.replicate j x ++ List.replicate (m - j) z)
theorem tailed_set (A : List Value) (x z : Value) (j m : Nat) (h : j < m) : (tailed A x z j m).set (A.length + j) x = tailed A x z (j + 1) m := by
  unfold tailed
  apply List.ext_getElem
  · simp; omega
  · intro i h1 h2
    rw [List.getElem_set]
    simp only [List.getElem_append, List.getElem_replicate, List.length_replicate]
    split
    · rename_i e
      subst e
      rw [dif_neg (by omega), dif_pos (by omega)]
    · rename_i e
      by_cases hA : i < A.length
      · rw [dif_pos hA, dif_pos hA]
      · rw [dif_neg hA, dif_neg hA]
        by_cases hj : i - A.length < j
        · rw [dif_pos hj, dif_pos (by omega)]
        · rw [dif_neg hj, dif_neg (by omega)]
theorem tailed_len (A : List Value) (x z : Value) (j m : Nat) (h : j ≤ m) : (tailed A x z j m).length = A.length + m := by simp [tailed]; omega

/-- A row of which the first k places have been written over. -/
def over (A : List Value) (y : Value) (k : Nat) : List Value := List.replicate k y ++ A.drop k
theorem over_len (A : List Value) (y : Value) (k : Nat) (h : k ≤ A.length) : (over A y k).length = A.length := by simp [over]; omega
theorem over_get (A : List Value) (y : Value) (k : Nat) : (over A y k)[k]? = A[k]? := by
  unfold over
  rw [List.getElem?_append_right (by simp)]
  simp
theorem over_set (A : List Value) (y : Value) (k : Nat) (h : k < A.length) : (over A y k).set k y = over A y (k + 1) := by
  unfold over
  apply List.ext_getElem?
  intro i
  by_cases e : i = k
  · subst e
    rw [List.getElem?_set_self (by simp; omega), List.getElem?_append_left (by simp)]
    simp
  · rw [List.getElem?_set_ne (by omega)]
    by_cases l : i < k
    · rw [List.getElem?_append_left (by simpa using l), List.getElem?_append_left (by simp; omega)]
      rw [List.getElem?_replicate, List.getElem?_replicate, if_pos l, if_pos (by omega)]
    · rw [List.getElem?_append_right (by simp; omega), List.getElem?_append_right (by simp; omega)]
      simp
      congr 1
      omega
theorem tailed_get (A : List Value) (x z : Value) (k : Nat) (h : A.length ≤ k) (h' : k < A.length + 8) : (tailed A x z 8 8)[k]? = some x := by
  unfold tailed
  rw [List.getElem?_append_right h, List.getElem?_append_left (by simp; omega), List.getElem?_replicate, if_pos (by omega)]

theorem own_prefix {w : World} {base : Nat} {e : TypeId} {g q cap k : Nat} {x : Value} (h : w.ownsRow base e 1 (.slice (some ⟨g, 0, none⟩) q cap) q (List.replicate q x)) (hk : k ≤ q) : w.ownsRow base e 1 (.slice (some ⟨g, 0, none⟩) k cap) k (List.replicate k x) := by
  rcases h.2 with ⟨h', _⟩ | ⟨g', cap', cur, h', hb, hg, hc, hm, hs, htake⟩
  · simp at h'
  · simp only [Value.slice.injEq, Option.some.injEq, Addr.mk.injEq, and_true, true_and] at h'
    obtain ⟨rfl, rfl⟩ := h'
    refine ⟨by simp, .inr ⟨g, cap, cur, rfl, hb, hg, by omega, hm, hs, ?_⟩⟩
    have : cur.toList.take (k * 1) = (cur.toList.take (q * 1)).take k := by rw [List.take_take]; congr 1; omega
    rw [this, htake, List.take_replicate]
    congr 1
    omega

theorem append_mark {w : World} {base : Nat} {e : TypeId} {x : Value} {v : Value} {n m : Nat} (hm : 0 < m) (hown : w.ownsRow base e 1 v n (List.replicate n x)) {w' : World} {v' : Value} (hb : base ≤ w.heap.size)
    (h : (w'.ownsRow w.heap.size e 1 v' (n + m) (List.replicate n x ++ List.replicate m x) ∧ w.grownBy w' none) ∨ (∃ g cap, v = .slice (some ⟨g, 0, none⟩) n cap ∧ v' = .slice (some ⟨g, 0, none⟩) (n + m) cap ∧ w'.ownsRow base e 1 v' (n + m) (List.replicate n x ++ List.replicate m x) ∧ w.grownBy w' (some g))) :
    ∃ g cap, v' = .slice (some ⟨g, 0, none⟩) (n + m) cap ∧ w'.ownsRow base e 1 v' (n + m) (List.replicate (n + m) x) ∧ (∀ s k, k ≤ n + m → w.ownsRow base e 1 s k (List.replicate k x) → w'.ownsRow base e 1 s k (List.replicate k x)) ∧
      Only (fun b => v.ownBlock = some b) w w' ∧ (v.ownBlock = some g ∨ w.heap.size ≤ g) := by
  rw [List.replicate_append_replicate] at h
  rcases h with ⟨h1, h2⟩ | ⟨g, cap, rfl, rfl, h1, h2⟩
  · obtain ⟨g, cap, rfl⟩ := own_shape h1 (by omega)
    refine ⟨g, cap, rfl, ownsRow_base h1 (fun b hb' => by have := (h1.lt b hb').1; omega), fun s k _ hs => (Only.of_grown h2).owns hs (fun b _ e => by simp at e), (Only.of_grown h2).mono (fun k _ e => by simp at e), .inr (h1.lt g rfl).1⟩
  · refine ⟨g, cap, rfl, h1, fun s k hk hs => ?_, (Only.of_grown h2).mono (fun k _ e => by simp [Value.ownBlock]; simpa using e.symm), .inl rfl⟩
    by_cases hsg : s.ownBlock = some g
    · rcases hs.2 with ⟨rfl, rfl⟩ | ⟨g', cap', cur, rfl, hb', hg', hc', hm', hs', _⟩
      · simp [Value.ownBlock] at hsg
      · simp [Value.ownBlock] at hsg
        subst hsg
        rcases hown.2 with ⟨h', _⟩ | ⟨g2, cap2, cur2, h', _, hg2, _, _, hs2, _⟩
        · simp at h'
        · simp only [Value.slice.injEq, Option.some.injEq, Addr.mk.injEq, and_true, true_and] at h'
          obtain ⟨rfl, rfl⟩ := h'
          rw [hg'] at hg2
          simp at hg2
          subst hg2
          have : cap' = cap := by omega
          subst this
          exact own_prefix h1 hk
    · exact (Only.of_grown h2).owns hs (fun b hb' e => hsg (by rw [hb']; simpa using e))

theorem wpList_append_mark {P : Program} (w : World) {ops : Array Oper} {rest : List Oper} {o : Oper} {a : Act} {Q : Exit → Act → World → Prop}
    (hg : o.guard = none) (s y : Operand) (t : TypeId) (hop : o.op = Op.call { callee := Callee.builtin Builtin.append, args := #[s, y], argTypes := #[t, t] })
    (base : Nat) (e : TypeId) (i : TypeInfo) (z : Value) (bytes : Nat) (h1 : P.underlying t = some (.slice e)) (h2 : P.info? e = some i) (h3 : i.zero = some z) (h4 : i.size = 1) (h5 : i.bytes = bytes) (h6 : z.cells.size = 1)
    (v : Value) (n : Nat) (x : Value) (hs : a.eval s = v) (hown : w.ownsRow base e 1 v n (List.replicate n x)) (ad : Addr) (m c : Nat) (hx : a.eval y = .slice (some ad) m c)
    (hc : ∀ j, j < m → w.cell? (ad.add j) = some x) (h1c : x.oneCell' = true) (hm : 0 < m) (b1 : n + m ≤ maxLen) (b2 : (n + m) * bytes ≤ 140737488355328) (hb : base ≤ w.heap.size)
    (hK : ∀ g cap w', w'.ownsRow base e 1 (.slice (some ⟨g, 0, none⟩) (n + m) cap) (n + m) (List.replicate (n + m) x) → (∀ s k, k ≤ n + m → w.ownsRow base e 1 s k (List.replicate k x) → w'.ownsRow base e 1 s k (List.replicate k x)) →
      Only (fun b => v.ownBlock = some b) w w' → (v.ownBlock = some g ∨ w.heap.size ≤ g) → wpList P ops Q rest (a.put o.dst (.slice (some ⟨g, 0, none⟩) (n + m) cap)) w') :
    wpList P ops Q (o :: rest) a w := by
  have hcs : ∀ j u, (List.replicate m x)[j]? = some u → w.cell? (ad.add j) = some u := by
    intro j u hj
    obtain ⟨hjl, rfl⟩ := List.getElem?_eq_some_iff.1 hj
    rw [List.getElem_replicate]
    exact hc j (by simpa using hjl)
  have hnews : ∀ u ∈ List.replicate m x, u.oneCell' = true := fun u hu => by rw [(List.mem_replicate.1 hu).2]; exact h1c
  have fin : ∀ v' w', ((w'.ownsRow w.heap.size e 1 v' (n + m) (List.replicate n x ++ List.replicate m x) ∧ w.grownBy w' none) ∨ (∃ g cap, v = .slice (some ⟨g, 0, none⟩) n cap ∧ v' = .slice (some ⟨g, 0, none⟩) (n + m) cap ∧ w'.ownsRow base e 1 v' (n + m) (List.replicate n x ++ List.replicate m x) ∧ w.grownBy w' (some g))) →
      wpList P ops Q rest (a.put o.dst v') w' := by
    intro v' w' h
    obtain ⟨g, cap, rfl, r1, r2, r3, r4⟩ := append_mark hm hown hb h
    exact hK g cap w' r1 r2 r3 r4
  rcases hown.2 with ⟨hv, rfl⟩ | ⟨g, cap, cur, hv, hbg, hgg, hnc, hcm, hcs', htake⟩
  · refine wpList_append_grows w hg s y t hop e i z 1 bytes h1 h2 h3 h4 h5 h6 (by omega) none 0 0 (List.replicate 0 x) (by rw [hs, hv]) (fun _ => ⟨rfl, rfl⟩) (by simp) (fun b hb => by simp at hb) ad m c (List.replicate m x) hx (by simp) hcs hnews (by omega) b1 b2 ?_
    intro v' w' r1 r2
    exact fin v' w' (.inl ⟨r1, r2⟩)
  · by_cases hroom : n + m ≤ cap
    · refine wpList_append_fits w hg s y t hop base e i 1 h1 h2 h4 g n cap (List.replicate n x) (by rw [hs, hv]) (by rw [← hv]; exact hown) ad m c (List.replicate m x) hx (by simp) hcs hnews hroom ?_
      intro w' r1 r2
      exact fin _ w' (.inr ⟨g, cap, hv, rfl, r1, r2⟩)
    · refine wpList_append_grows w hg s y t hop e i z 1 bytes h1 h2 h3 h4 h5 h6 (by omega) (some ⟨g, 0, none⟩) n cap (List.replicate n x) (by rw [hs, hv]) (fun h => by simp at h) (by simp) (fun b hb j u hj => ?_) ad m c (List.replicate m x) hx (by simp) hcs hnews (by omega) b1 b2 ?_
      · simp at hb
        subst hb
        rw [add_eq, Nat.zero_add]
        have hjl := (List.getElem?_eq_some_iff.1 hj).1
        simp at hjl
        subst hv
        rw [hown.cellAt j (by omega), hj]
      · intro v' w' r1 r2
        exact fin v' w' (.inl ⟨r1, r2⟩)

/-- The block that is laid for what is appended. -/
theorem cells_new (w : World) (e : TypeId) (x : Value) (m : Nat) (cs : Array Value) (hcs : cs = (List.replicate m x).toArray) : ∀ j, j < m → (w.alloc (.cells cs e)).cell? ((⟨w.heap.size, 0, none⟩ : Addr).add j) = some x := by
  intro j hj
  subst hcs
  rw [add_eq, Nat.zero_add]
  have h := heap_alloc_new w (.cells (List.replicate m x).toArray e)
  rw [cell_of_row _ _ j _ e (0, 0) h]
  simp [hj]

/-- Four lists of one number again and again. -/
structure MarkI (w : World) (base n : Nat) (e : TypeId) (x v o1 o2 o3 : Value) : Prop where
  h0 : w.ownsRow base e 1 v n (List.replicate n x)
  h1 : w.ownsRow base e 1 o1 (n + 1) (List.replicate (n + 1) x)
  h2 : w.ownsRow base e 1 o2 (n + 2) (List.replicate (n + 2) x)
  h3 : w.ownsRow base e 1 o3 (n + 3) (List.replicate (n + 3) x)

end Go.Proofs.YtkgjpfamjedncaaGreat
