-- A voter is opened from an image.
import Derived.Test.YtkgjpfamjedncaaGreatVAgain
import Derived.Test.YtkgjpfamjedncaaGreatVImg
import Derived.Test.YtkgjpfamjedncaaGreatOpenOpens
namespace Go.Proofs.YtkgjpfamjedncaaGreat
open Go.RowKit Go.Maps
attribute [local go_sem ↓] Go.wp_at_zero Go.wp_at_succ

def vshs : List (Int × Int × Int) := [(1, 2, 0), (2, 2, 255)]
set_option maxRecDepth 100000 in
set_option maxHeartbeats 400000 in
theorem vshapes_any (w : World) : Calls Tryz.prog 92 #[] w fun e w' => e = .returned (.slice (some ⟨w.heap.size, 0, none⟩) 2 2) ∧ Shapes w' w.heap.size 0 vshs ∧ Bl w w' := by
  go_enter Tryz.func92, Tryz.ntmps92
  go_wp2
  go_ret
  refine ⟨rfl, ⟨by simp, fun j h => ?_⟩, (Bl.refl _).alloc _⟩
  match j, h with
  | 0, _ => exact ⟨cell_of_row _ _ 0 _ 172 (0, 0) (heap_alloc_new w _), cell_of_row _ _ 1 _ 172 (0, 0) (heap_alloc_new w _), cell_of_row _ _ 2 _ 172 (0, 0) (heap_alloc_new w _)⟩
  | 1, _ => exact ⟨cell_of_row _ _ 3 _ 172 (0, 0) (heap_alloc_new w _), cell_of_row _ _ 4 _ 172 (0, 0) (heap_alloc_new w _), cell_of_row _ _ 5 _ 172 (0, 0) (heap_alloc_new w _)⟩
  | n + 2, h => simp [vshs] at h; omega

def nop : Ep := ⟨0, 0, []⟩
/-- The states that the calls of a voter's records go through. -/
structure VWay (rs : List Rc) (S : Nat → Int → Ep) : Prop where
  zero : S 0 = fun _ => nop
  step : ∀ j, (h : j < rs.length) → VPlays (S j) rs[j] (S (j + 1))
  ok : ∀ r ∈ rs, r.Ok vshs

theorem VWay.vals {rs : List Rc} {S : Nat → Int → Ep} (h : VWay rs S) : ∀ j, j ≤ rs.length → ∀ e, (S j e).val.length ≤ 255 ∧ ∀ d ∈ (S j e).val, 0 ≤ d ∧ d ≤ 255 := by
  intro j
  induction j with
  | zero => intro _ e; rw [h.zero]; simp [nop]
  | succ j ih =>
    intro hj e
    have hs := h.step j (by omega)
    have ih := ih (by omega)
    generalize S (j + 1) = s' at hs ⊢
    generalize rs[j] = r at hs
    cases hs with
    | prep e' b _ _ _ =>
      unfold updE
      split
      · exact ih e'
      · exact ih e
    | acc e' b ys _ _ _ _ hy hys _ =>
      unfold updE
      split
      · exact ⟨hy, hys⟩
      · exact ih e

/-- What a voter is while the records are done again. -/
structure Jv (p bm : Nat) (rs : List Rc) (S : Nat → Int → Ep) (w2 : World) (j : Nat) (W : World) : Prop where
  vs : ∃ M vi, Vs w2.heap.size W p bm j (S j) (flat (rs.take j)) M vi 130 ∧ (j = 0 → ∀ B, W.ownsRow B 5 1 vi 0 [] ∧ ∀ e, M e = ep0)
  only : Only (fun b => b = p ∨ b = bm) w2 W
  at2 : ∃ vi, w2.heap[p]? = some (.cells #[.map (some bm), vi] 130 (0, 0))
  mp2 : ∃ es cl, w2.heap[bm]? = some (.map es cl)

theorem vdoing {p bm : Nat} {rs : List Rc} {S : Nat → Int → Ep} (hw : VWay rs S) (hl : (flat rs).length ≤ 30000000) (base : Nat) : VDoing 93 (.pointer (some ⟨p, 0, none⟩)) p 1 bm base rs (Jv p bm rs S) where
  img := by
    rintro w2 W j ⟨⟨M, vi, hV, _⟩, _, _, _⟩ hj
    exact ⟨_, _, hV.c1, hV.own⟩
  plt := by
    rintro w2 W j ⟨_, _, ⟨vi, h⟩, _⟩
    exact (Array.getElem?_eq_some_iff.1 h).1
  safe := by
    rintro w2 W j ⟨_, _, ⟨vi, h⟩, ⟨es, cl, hm⟩⟩ b cs e f hb hx
    rcases hb with rfl | rfl
    · rw [h] at hx
      simp only [Option.some.injEq, Obj.cells.injEq] at hx
      rw [← hx.2.1]; decide
    · rw [hm] at hx; simp at hx
  only := fun h => h.only
  bl := fun ⟨⟨M, vi, hV, hz⟩, h2, h3, h4⟩ hb => ⟨⟨M, vi, hV.bl hb, fun e B => ⟨(Only.of_bl (S := fun _ => False) hb).owns (hz e B).1 fun _ _ e => e, (hz e B).2⟩⟩, h2.trans (Only.of_bl hb), h3, h4⟩
  step := by
    rintro w2 W j nv vv h ⟨⟨M, vi, hV, _⟩, hO, hA, hB⟩ hn hv hvb
    have hlj : (flat (rs.take j)).length ≤ 30000000 := by have := off_le rs j h; unfold off at this; omega
    have hj3 : j ≤ 30000000 := by have := off_ge rs j (by omega); unfold off at this; omega
    refine (vagain_any w2.heap.size p bm j base (S j) (S (j + 1)) rs[j] _ M vi 130 nv vv W hV hO.size hlj hj3 (hw.vals j (by omega)) (hw.step j h) (hw.ok _ (List.getElem_mem h)).wf hn hv (fun g e e' => ?_)).mono ?_
    · have := hvb g e; have := (hV.own.lt g e').1; omega
    rintro e W' ⟨M', vi', rfl, hV', hO'⟩
    refine ⟨rfl, ⟨⟨M', vi', ?_, fun e => absurd e (by omega)⟩, ?_, hA, hB⟩, _, hO', ?_⟩
    · rw [List.take_succ_eq_append_getElem h, flat_append]; simpa [flat] using hV'
    · refine ⟨hO'.os.trans hO.os, hO'.tape.trans hO.tape, hO'.output.trans hO.output, Nat.le_trans hO.size hO'.size, fun i hi hn' => ?_⟩
      rw [hO'.block i (Nat.lt_of_lt_of_le hi hO.size) (fun e => ?_), hO.block i hi hn']
      rcases e with e | e | e
      · exact hn' (.inl e)
      · exact hn' (.inr e)
      · have := (hV.own.lt i e).1; omega
    · rintro x cs f hx (e | e | e)
      · subst e
        rw [hV.at'] at hx
        simp only [Option.some.injEq, Obj.cells.injEq] at hx
        exact absurd hx.2.1 (by decide)
      · exact hV.mp.ne hx e
      · exact own_ne_block hV.own hx (by decide) e

set_option maxRecDepth 100000 in
set_option maxHeartbeats 4000000 in
theorem vopen_any (ad : Option Addr) (n cc : Nat) (rs : List Rc) (S : Nat → Int → Ep) (w : World) (hw : VWay rs S) (hl : (flat rs).length ≤ 30000000) (hd : Cut w ad n cc rs) :
    Calls Tryz.prog 68 #[.slice ad n cc] w fun e w' => ∃ k p bm M vi, e = .returned (.tuple #[.pointer (some ⟨p, 0, none⟩), .int .i64 0]) ∧ k ≤ rs.length ∧ off rs k ≤ n ∧ (∀ h : k < rs.length, n < off rs k + rs[k].bytes.length) ∧ w.heap.size ≤ p ∧ w.heap.size ≤ bm ∧ Vs w.heap.size w' p bm k (S k) (flat (rs.take k)) M vi 130 ∧ Bl w w' := by
  have Hw := hid hw
  have Hd := hid hd
  clear hw hd
  have hmk : (Instr.makeMap 128 none).run Tryz.prog w = .ok (.map (some w.heap.size)) (w.alloc (.map #[] 0)) := by
    rfl
  go_enter Tryz.func68, Tryz.ntmps68
  go_wp2
  have b0 := hid (((Bl.refl w).alloc (.map #[] 0)).alloc (.cells #[.map (some w.heap.size), .slice none 0 0] 130))
  have hP0 : Hid (((w.alloc (.map #[] 0)).alloc (.cells #[.map (some w.heap.size), .slice none 0 0] 130)).heap[w.heap.size + 1]? = some (.cells #[.map (some w.heap.size), .slice none 0 0] 130 (0, 0))) := by
    have := heap_alloc_new (w.alloc (.map #[] 0)) (.cells #[.map (some w.heap.size), .slice none 0 0] 130)
    rw [show (w.alloc (.map #[] 0)).heap.size = w.heap.size + 1 from by simp] at this
    exact this
  have hM0 : Hid (Mp ((w.alloc (.map #[] 0)).alloc (.cells #[.map (some w.heap.size), .slice none 0 0] 130)) w.heap.size 0 (fun _ => ep0)) := (Mp.made w).bl ((Bl.refl _).alloc _)
  have HO : Hid (∀ W, Bl ((w.alloc (.map #[] 0)).alloc (.cells #[.map (some w.heap.size), .slice none 0 0] 130)) W → W.heap.size = w.heap.size + 2 → Calls Tryz.prog 92 #[] W fun e w3 => e = .returned (.slice (some ⟨w.heap.size + 2, 0, none⟩) 2 2) ∧ Calls Tryz.prog 89 #[.pointer (some ⟨w.heap.size + 1, 1, none⟩), .slice ad n cc, .slice (some ⟨w.heap.size + 2, 0, none⟩) 2 2, .func (.func 93) #[.pointer (some ⟨w.heap.size + 1, 0, none⟩)] #[]] w3 fun e w' => ∃ k M vi, e = .returned (.bool true) ∧ k ≤ rs.length ∧ off rs k ≤ n ∧ (∀ h : k < rs.length, n < off rs k + rs[k].bytes.length) ∧ Vs w.heap.size w' (w.heap.size + 1) w.heap.size k (S k) (flat (rs.take k)) M vi 130 ∧ Bl w w') := by
    intro W hW hsz
    refine (vshapes_any W).mono ?_
    rw [hsz]
    rintro e w3 ⟨rfl, hs3, hb3⟩
    refine ⟨rfl, ?_⟩
    have hB3 := hW.trans hb3
    obtain ⟨g1, g2, g3, b', o', g4, g5⟩ := Hd.out.bl (b0.out.trans hB3)
    refine (vimgOpen_any (.pointer (some ⟨w.heap.size + 1, 0, none⟩)) (w.heap.size + 1) 1 w.heap.size ad b' o' cc n (w.heap.size + 2) 0 2 rs vshs w3 _ (vdoing (p := w.heap.size + 1) (bm := w.heap.size) Hw.out hl w3.heap.size) (fun w4 hb4 => ?_) g1 g2 (Nat.le_trans g1 hl) g3 g4 g5 hs3 (by decide) Hw.out.ok).mono ?_
    · have hB4 := hB3.trans hb4
      have hP4 := (hB4.heap (by simp)).trans hP0.out
      have hM4 := hM0.out.bl hB4
      refine ⟨⟨_, _, ⟨hP4, .inl rfl, hM4, fun e => ⟨.slice none 0 0, ?_, ?_, fun g e => by simp [Value.ownBlock] at e⟩, ?_⟩, fun _ B => ⟨World.ownsRow_nil _ _ _ _, fun _ => rfl⟩⟩, Only.refl _ _, ⟨_, hP4⟩, ?_⟩
      · rw [Hw.out.zero]; rfl
      · rw [Hw.out.zero]; exact World.ownsRow_nil _ _ _ _
      · exact World.ownsRow_nil _ _ _ _
      · obtain ⟨D, ⟨es, cl, hh, _⟩, _⟩ := hM4
        exact ⟨es, cl, hh⟩
    · rintro e w' ⟨k, w4, rfl, r1, r2, r3, hb4, ⟨M, vi, hV, _⟩, hO4, _, _⟩
      have hB4 := (b0.out.trans hB3).trans hb4
      refine ⟨k, M, vi, rfl, r1, r2, r3, ?_, hB4.trans_only hO4 (fun n e => by omega)⟩
      exact ⟨hV.at', hV.ty, hV.mp, fun e => by
        obtain ⟨vv, h1, h2, h3⟩ := hV.ep e
        exact ⟨vv, h1, ownsRow_base h2 fun g e => Nat.le_trans hB4.lt (h2.lt g e).1, h3⟩, ownsRow_base hV.own fun g e => Nat.le_trans hB4.lt (hV.own.lt g e).1⟩
  clear hmk
  go_region_with (first
    | (go_at_call 92; refine (HO.out _ (by exact (Bl.refl _).drewN _) (by simp)).mono ?_; rintro e w3 ⟨rfl, hs3⟩; have HS3 := hid hs3; clear hs3)
    | (go_at_call 89; refine HS3.out.mono ?_; rintro e w4 ⟨k, M, vi, rfl, r1, r2, r3, r4, r5⟩; have R1 := hid r1; have R2 := hid r2; have R3 := hid r3; have R4 := hid r4; have R5 := hid r5; clear r1 r2 r3 r4 r5))
  all_goals
    go_wp2
    go_ret2
    exact ⟨k, _, _, M, vi, rfl, R1.out, R2.out, R3.out, by omega, Nat.le_refl _, R4.out, R5.out⟩
end Go.Proofs.YtkgjpfamjedncaaGreat
