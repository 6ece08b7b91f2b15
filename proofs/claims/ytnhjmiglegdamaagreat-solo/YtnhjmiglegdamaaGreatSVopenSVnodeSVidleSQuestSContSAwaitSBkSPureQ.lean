-- A voter is opened from nothing.
-- A voter as a node, opened from nothing.
-- A voter that lies idle: what it gives out, its image.
-- A question is made.
-- Is a node among those that are asked; nobody has answered yet.
-- A question that nobody has answered: whom it awaits; one that is not due.
-- Blocks told by a function, lists that are only read, what a client's call turns.
-- What a client with one call at most does with answers, without a program.
import Derived.Test.YtnhjmiglegdamaaGreatSRecvSImgSCloneSClearSDeleteSOutQ
namespace Go.Proofs.YtnhjmiglegdamaaGreat
open Go.RowKit Go.Maps
attribute [local go_sem ↓] Go.wp_at_zero Go.wp_at_succ
set_option maxRecDepth 100000 in
set_option maxHeartbeats 2000000 in
theorem imgOpen0 (w : World) (p o bs cs : Nat) (f : Value) (shs : List (Int × Int × Int)) (hsh : Shapes w bs 0 shs) (hs : shs.length ≤ 1000) :
    Calls Tryz.prog 181 #[.pointer (some ⟨p, o, none⟩), .slice none 0 0, .slice (some ⟨bs, 0, none⟩) shs.length cs, f] w fun e w' => e = .returned (.bool true) ∧ Bl w w' := by
  have HS := hid (split_any none 0 0 0 0 bs 0 cs [] shs w (by omega) (by omega) (by omega) (by omega) (fun h => absurd h (by omega)) (fun j d h => absurd h (by omega)) hsh hs (by simp))
  clear hsh hs
  go_enter Tryz.func181, Tryz.ntmps181
  go_wp2_with fail
  refine HS.out.mono ?_
  rintro e w2 ⟨k, v, xs, rfl, hk, hoff, hnext, hR, hbl⟩
  obtain rfl : k = 0 := by simpa using hk
  obtain ⟨va, vc, ev⟩ : ∃ a c, v = .slice a 0 c := by
    rcases hR.own.2 with ⟨e1, e2⟩ | ⟨g, cap, cur, e1, _⟩
    · exact ⟨none, 0, e1⟩
    · exact ⟨_, cap, e1⟩
  subst ev
  have HB := hid hbl
  clear hk hoff hnext hR hbl HS
  go_wp2
  refine wp_loop_rounds 1 ?_
  rw [rounds_succ]
  go_wp2
  go_ret
  exact ⟨rfl, HB.out⟩

def vshs : List (Int × Int × Int) := [(1, 2, 0), (2, 2, 255)]
set_option maxRecDepth 100000 in
set_option maxHeartbeats 2000000 in
theorem vshapes_any (w : World) : Calls Tryz.prog 184 #[] w fun e w' => e = .returned (.slice (some ⟨w.heap.size, 0, none⟩) 2 2) ∧ Shapes w' w.heap.size 0 vshs ∧ Bl w w' := by
  go_enter Tryz.func184, Tryz.ntmps184
  go_wp2
  go_ret
  refine ⟨rfl, ⟨by simp, fun j hj => ?_⟩, (Bl.refl _).alloc _⟩
  have hj2 : j < 2 := hj
  have hc := fun o => cell_of_row _ _ o _ 311 (0, 0) (heap_alloc_new w (.cells #[.int .i64 1, .int .i64 2, .int .i64 0, .int .i64 2, .int .i64 2, .int .i64 255] 311))
  rcases (by omega : j = 0 ∨ j = 1) with rfl | rfl
  · exact ⟨hc 0, hc 1, hc 2⟩
  · exact ⟨hc 3, hc 4, hc 5⟩

theorem make246 (w : World) : (Instr.makeMap 246 none).run Tryz.prog w = .ok (.map (some w.heap.size)) (w.alloc (.map #[] 0)) := by kernel_rfl
set_option maxRecDepth 100000 in
set_option maxHeartbeats 2000000 in
theorem votesOpen0 (w : World) : Calls Tryz.prog 146 #[.slice none 0 0] w fun e w' => ∃ p m, e = .returned (.tuple #[.pointer (some ⟨p, 0, none⟩), .int .i64 0]) ∧ w.heap.size ≤ p ∧ w'.heap[p]? = some (.cells #[m, .slice none 0 0] 248 (0, 0)) ∧ Bl w w' := by
  have hmk := make246
  have HA := hid (((Bl.refl w).alloc (.map #[] 0)).alloc (.cells #[.map (some w.heap.size), .slice none 0 0] 248))
  have HN := hid (heap_alloc_new (w.alloc (.map #[] 0)) (.cells #[.map (some w.heap.size), .slice none 0 0] 248))
  go_enter Tryz.func146, Tryz.ntmps146
  go_wp2
  have HSh : Hid (∀ W, Bl ((w.alloc (.map #[] 0)).alloc (.cells #[.map (some w.heap.size), .slice none 0 0] 248)) W → Calls Tryz.prog 184 #[] W fun e w3 => ∃ bs, e = .returned (.slice (some ⟨bs, 0, none⟩) 2 2) ∧ Calls Tryz.prog 181 #[.pointer (some ⟨w.heap.size + 1, 1, none⟩), .slice none 0 0, .slice (some ⟨bs, 0, none⟩) 2 2, .func (.func 185) #[.pointer (some ⟨w.heap.size + 1, 0, none⟩)] #[]] w3 fun e w' => e = .returned (.bool true) ∧ w'.heap[w.heap.size + 1]? = some (.cells #[.map (some w.heap.size), .slice none 0 0] 248 (0, 0)) ∧ Bl w w') := by
    intro W hW
    refine (vshapes_any W).mono ?_
    rintro e w3 ⟨rfl, hs3, hb3⟩
    refine ⟨_, rfl, (imgOpen0 w3 (w.heap.size + 1) 1 W.heap.size 2 _ vshs hs3 (by decide)).mono ?_⟩
    rintro e w4 ⟨rfl, hb4⟩
    have hn : ((w.alloc (.map #[] 0)).alloc (.cells #[.map (some w.heap.size), .slice none 0 0] 248)).heap[w.heap.size + 1]? = some (.cells #[.map (some w.heap.size), .slice none 0 0] 248 (0, 0)) := by have := HN.out; simpa using this
    exact ⟨rfl, (((hW.trans hb3).trans hb4).heap (by simp)).trans hn, ((HA.out.trans hW).trans hb3).trans hb4⟩
  go_region_with (first
    | (go_at_call 184; refine (HSh.out _ (by exact (Bl.refl _).drewN _)).mono ?_; rintro e w3 ⟨bs, rfl, hs3⟩; have HS3 := hid hs3; clear hs3)
    | (go_at_call 181; refine HS3.out.mono ?_; rintro e w4 ⟨rfl, r1, r2⟩; have R1 := hid r1; have R2 := hid r2; clear r1 r2))
  all_goals
    go_wp2
    go_ret2
    exact ⟨_, _, rfl, by omega, R1.out, R2.out⟩
end Go.Proofs.YtnhjmiglegdamaaGreat

namespace Go.Proofs.YtnhjmiglegdamaaGreat
open Go.RowKit Go.Maps
attribute [local go_sem ↓] Go.wp_at_zero Go.wp_at_succ
set_option maxRecDepth 100000 in
set_option maxHeartbeats 2000000 in
theorem openVoter0 (a b c d u : Int) (w : World) : Calls Tryz.prog 84 #[.agg #[.int .i64 a, .int .i64 b, .int .i64 c, .int .i64 d], .int .i64 u, .slice none 0 0] w fun e w' => ∃ p m, e = .returned (.tuple #[.iface 233 (.agg #[.pointer (some ⟨p, 0, none⟩)]), .int .i64 0]) ∧ w.heap.size ≤ p ∧ w'.heap[p]? = some (.cells #[m, .slice none 0 0] 248 (0, 0)) ∧ Bl w w' := by
  have HA := hid ((Bl.refl w).alloc (.cells #[.int .i64 a, .int .i64 b, .int .i64 c, .int .i64 d] 27))
  have HO := hid (votesOpen0 (w.alloc (.cells #[.int .i64 a, .int .i64 b, .int .i64 c, .int .i64 d] 27)))
  go_enter Tryz.func84, Tryz.ntmps84
  go_wp2_with (go_at_call 146; refine HO.out.mono ?_; rintro e w3 ⟨p, m, rfl, hp, hg, hb⟩; have R := hid (And.intro hp (And.intro hg hb)); clear hp hg hb)
  go_ret2
  have hp := R.out.1
  simp at hp
  exact ⟨p, m, rfl, by omega, R.out.2.1, HA.out.trans R.out.2.2⟩
set_option maxRecDepth 100000 in
set_option maxHeartbeats 2000000 in
theorem isVoter_yes (a b c d x : Int) (w : World) (hx : 100 ≤ x) (hc : x < 100 + c) (hc9 : c ≤ 9) :
    Calls Tryz.prog 83 #[.agg #[.int .i64 a, .int .i64 b, .int .i64 c, .int .i64 d], .int .i64 x] w fun e w' => e = .returned (.bool true) ∧ Bl w w' := by
  have hA := (Bl.refl w).alloc (.cells #[.int .i64 a, .int .i64 b, .int .i64 c, .int .i64 d] 27)
  have hwr : IntKind.i64.wrap (100 + c) = 100 + c := by rw [IntKind.wrap_i64]; omega
  go_enter Tryz.func83, Tryz.ntmps83
  go_wp2
  go_ret
  exact ⟨rfl, hA⟩
set_option maxRecDepth 100000 in
set_option maxHeartbeats 2000000 in
theorem nodesOpen_voter (a b c d u : Int) (w : World) (hf : fit a b c d = true) (hx : 100 ≤ u) (hc : u < 100 + c) (hc9 : c ≤ 9) :
    Calls Tryz.prog 44 #[.agg #[.int .i64 a, .int .i64 b, .int .i64 c, .int .i64 d], .int .i64 u, .slice none 0 0] w fun e w' => ∃ g p m, e = .returned (.tuple #[.pointer (some ⟨g, 0, none⟩), .int .i64 0]) ∧ w'.heap[g]? = some (.cells #[.iface 233 (.agg #[.pointer (some ⟨p, 0, none⟩)]), .slice none 0 0] 122 (0, 0)) ∧ w.heap.size ≤ g ∧ w.heap.size ≤ p ∧ w'.heap[p]? = some (.cells #[m, .slice none 0 0] 248 (0, 0)) ∧ Bl w w' := by
  have HV := hid (valid_any a b c d)
  rw [hf] at HV
  have hA := (Bl.refl w).alloc (.cells #[.int .i64 a, .int .i64 b, .int .i64 c, .int .i64 d] 27)
  have hN := heap_alloc_new w (.cells #[.int .i64 a, .int .i64 b, .int .i64 c, .int .i64 d] 27)
  have HA := hid hA
  have HN := hid hN
  clear hA hN
  go_enter Tryz.func44, Tryz.ntmps44
  go_wp2_with fail
  refine (HV.out _).mono ?_
  rintro e w1 ⟨rfl, hb1⟩
  have hN1 := (hb1.heap (by simp)).trans HN.out
  have c0 : w1.cell? ⟨w.heap.size, 0, none⟩ = some (.int .i64 a) := cell_of_row w1 w.heap.size 0 _ 27 (0, 0) hN1
  have c1 : w1.cell? ⟨w.heap.size, 1, none⟩ = some (.int .i64 b) := cell_of_row w1 w.heap.size 1 _ 27 (0, 0) hN1
  have c2 : w1.cell? ⟨w.heap.size, 2, none⟩ = some (.int .i64 c) := cell_of_row w1 w.heap.size 2 _ 27 (0, 0) hN1
  have c3 : w1.cell? ⟨w.heap.size, 3, none⟩ = some (.int .i64 d) := cell_of_row w1 w.heap.size 3 _ 27 (0, 0) hN1
  have l1 := (Array.getElem?_eq_some_iff.1 hN1).1
  have HB1 := hid (HA.out.trans hb1)
  clear hb1 hN1 HN HA HV
  go_wp2_with fail
  refine (isVoter_yes a b c d u w1 hx hc hc9).mono ?_
  rintro e w2 ⟨rfl, hb2⟩
  have d0 := (hb2.cell l1).trans c0
  have d1 := (hb2.cell l1).trans c1
  have d2 := (hb2.cell l1).trans c2
  have d3 := (hb2.cell l1).trans c3
  have l2 := Nat.lt_of_lt_of_le l1 hb2.lt
  have HB2 := hid (HB1.out.trans hb2)
  have HO := hid (openVoter0 a b c d u w2)
  clear hb2 c0 c1 c2 c3 HB1
  go_wp2_with fail
  refine HO.out.mono ?_
  rintro e w3 ⟨p, m, rfl, hp, hg, hb3⟩
  have HB3 := hid (HB2.out.trans hb3)
  have HG3 := hid hg
  have hw2 := HB2.out.lt
  have Hp : Hid (w.heap.size ≤ p) := by unfold Hid; omega
  have Hs : Hid (w.heap.size ≤ w3.heap.size) := by unfold Hid; have := hb3.lt; omega
  clear HO hb3 hg d0 d1 d2 d3 HB2 hp
  go_wp2
  go_ret2
  have bX := (Bl.refl w3).alloc (.cells #[.iface 233 (.agg #[.pointer (some ⟨p, 0, none⟩)]), .slice none 0 0] 122)
  exact ⟨_, p, m, rfl, heap_alloc_new w3 _, Hs.out, Hp.out, (bX.heap (Array.getElem?_eq_some_iff.1 HG3.out).1).trans HG3.out, HB3.out.trans bX⟩
set_option maxRecDepth 100000 in
set_option maxHeartbeats 2000000 in
theorem openNode_voter (a b c d u : Int) (w : World) (hf : fit a b c d = true) (hx : 100 ≤ u) (hc : u < 100 + c) (hc9 : c ≤ 9) :
    Calls Tryz.prog 17 #[.agg #[.int .i64 a, .int .i64 b, .int .i64 c, .int .i64 d], .int .i64 u, .slice none 0 0] w fun e w' => ∃ g p m, e = .returned (.tuple #[.pointer (some ⟨g, 0, none⟩), .int .i64 0]) ∧ w'.heap[g]? = some (.cells #[.iface 233 (.agg #[.pointer (some ⟨p, 0, none⟩)]), .slice none 0 0] 124 (0, 0)) ∧ w.heap.size ≤ g ∧ w.heap.size ≤ p ∧ w'.heap[p]? = some (.cells #[m, .slice none 0 0] 248 (0, 0)) ∧ Bl w w' := by
  have hA := (Bl.refl w).alloc (.cells #[.int .i64 a, .int .i64 b, .int .i64 c, .int .i64 d] 27)
  have HO := hid (nodesOpen_voter a b c d u (w.alloc (.cells #[.int .i64 a, .int .i64 b, .int .i64 c, .int .i64 d] 27)) hf hx hc hc9)
  have HA := hid hA
  clear hA
  go_enter Tryz.func17, Tryz.ntmps17
  go_wp2_with fail
  refine HO.out.mono ?_
  rintro e w3 ⟨g, p, m, rfl, hg, lg, lp, hp, hb3⟩
  have c0 : w3.cell? ⟨g, 0, none⟩ = some (.iface 233 (.agg #[.pointer (some ⟨p, 0, none⟩)])) := cell_of_row w3 g 0 _ 122 (0, 0) hg
  have c1 : w3.cell? ⟨g, 1, none⟩ = some (.slice none 0 0) := cell_of_row w3 g 1 _ 122 (0, 0) hg
  have l3 := (Array.getElem?_eq_some_iff.1 hg).1
  have HB3 := hid (HA.out.trans hb3)
  have HP := hid hp
  have Hp : Hid (w.heap.size ≤ p) := by unfold Hid; simp at lp; omega
  have Hs : Hid (w.heap.size ≤ w3.heap.size) := HB3.out.lt
  clear HO hb3 hp hg lg lp HA
  go_wp2
  go_ret2
  have bX := (Bl.refl w3).alloc (.cells #[.iface 233 (.agg #[.pointer (some ⟨p, 0, none⟩)]), .slice none 0 0] 124)
  exact ⟨_, p, m, rfl, heap_alloc_new w3 _, Hs.out, Hp.out, (bX.heap (Array.getElem?_eq_some_iff.1 HP.out).1).trans HP.out, HB3.out.trans bX⟩
end Go.Proofs.YtnhjmiglegdamaaGreat

namespace Go.Proofs.YtnhjmiglegdamaaGreat
open Go.RowKit Go.Maps
attribute [local go_sem ↓] Go.wp_at_zero Go.wp_at_succ
/-- A voter of which nothing was asked, in block g. -/
structure Vd (w : World) (tag : Nat → Nat) (tn g : Nat) : Prop where
  ex : ∃ p m, w.heap[g]? = some (.cells #[.iface 233 (.agg #[.pointer (some ⟨p, 0, none⟩)]), .slice none 0 0] 124 (0, 0)) ∧ tag g = tn ∧ w.heap[p]? = some (.cells #[m, .slice none 0 0] 248 (0, 0)) ∧ tag p = tn
theorem Vd.only {T : Nat → Prop} {w w' : World} {tag tag' : Nat → Nat} {tn g : Nat} (h : Vd w tag tn g) (ho : Only T w w') (hs : ∀ b, b < w.heap.size → T b → tag b ≠ tn) (ht : ∀ b, b < w.heap.size → tag' b = tag b) : Vd w' tag' tn g := by
  obtain ⟨p, m, h1, h2, h3, h4⟩ := h
  have l1 := (Array.getElem?_eq_some_iff.1 h1).1
  have l3 := (Array.getElem?_eq_some_iff.1 h3).1
  exact ⟨p, m, (ho.block g l1 fun e => hs g l1 e h2).trans h1, by rw [ht g l1]; exact h2, (ho.block p l3 fun e => hs p l3 e h4).trans h3, by rw [ht p l3]; exact h4⟩
set_option maxRecDepth 100000 in
set_option maxHeartbeats 2000000 in
theorem voterOut_any {w : World} {tag : Nat → Nat} {tn g : Nat} (hN : Vd w tag tn g) :
    Calls Tryz.prog 157 #[.pointer (some ⟨g, 0, none⟩)] w fun en w' => ∃ va vc, en = .returned (.slice va 0 vc) ∧ w.heap.size ≤ w'.heap.size ∧ Vd w' tag tn g ∧ Only (fun b => tag b = tn) w w' := by
  obtain ⟨p, m, hg, tgg, hp, tp⟩ := hN
  have lg := (Array.getElem?_eq_some_iff.1 hg).1
  have c1 : w.cell? ⟨g, 1, none⟩ = some (.slice none 0 0) := cell_of_row w g 1 _ 124 (0, 0) hg
  have HC := hid (clonePkt_any w 0 0 (.slice none 0 0) [] (World.ownsRow_nil _ _ _ _) (by simp) (by omega))
  have HG := hid hg
  have HP := hid hp
  clear hg hp
  go_enter Tryz.func157, Tryz.ntmps157
  go_wp2_with (first | (go_at_call 205; refine HC.out.mono ?_; rintro en w1 ⟨ga, gc, rfl, hb1, ho1⟩; have hg1 := (hb1.heap lg).trans HG.out; have d1 : w1.cell? ⟨g, 1, none⟩ = some (.slice none 0 0) := cell_of_row w1 g 1 _ 124 (0, 0) hg1; have HD := hid (deletePkt_any w1 0 (.slice none 0 0) [] (World.ownsRow_nil _ _ _ _) (by omega)); have HB := hid hb1; have HG1 := hid hg1; have lg1 := (Array.getElem?_eq_some_iff.1 hg1).1; clear HC hb1 ho1 hg1 c1) | (go_at_call 206; refine HD.out.mono ?_; rintro en w2 ⟨v', rfl, k1, k2, k3⟩; have hg2 := (k3.block g lg1 (by simp [Value.ownBlock])).trans HG1.out; have e1 : w2.cell? ⟨g, 1, none⟩ = some (.slice none 0 0) := cell_of_row w2 g 1 _ 124 (0, 0) hg2; have f1 := frozen_of_row w2 g 1 _ 124 hg2; obtain hov' : v' = .slice none 0 0 := (by rcases k1.2 with ⟨e, e'⟩ | ⟨g, cap, cur, e, _⟩; (exact e); (subst e; exact absurd (k2 g rfl) (by simp [Value.ownBlock]))); subst hov'; have HK := hid k3; have HG2 := hid hg2; clear HD k1 k2 k3 hg2 d1))
  go_ret
  have O2 : Only (fun b => b = g) w (w2.setCell ⟨g, 1, none⟩ (.slice none 0 0)) := ((Only.of_bl (S := fun b => b = g) HB.out).trans (HK.out.mono fun b _ e => by simp [Value.ownBlock] at e)).setCell ⟨g, 1, none⟩ (.inl rfl) _
  have hpg : p ≠ g := by
    rintro rfl
    have := HG.out.symm.trans HP.out
    simp at this
  exact ⟨_, _, rfl, O2.size, ⟨p, m, heap_setCell_same w2 g 1 _ 124 _ HG2.out, tgg, (O2.block p (Array.getElem?_eq_some_iff.1 HP.out).1 hpg).trans HP.out, tp⟩, O2.mono fun b _ e => by rw [e]; exact tgg⟩
set_option maxRecDepth 100000 in
set_option maxHeartbeats 2000000 in
theorem furrowVOut_any {w : World} {tag : Nat → Nat} {tn g : Nat} (hN : Vd w tag tn g) :
    Calls Tryz.prog 97 #[.pointer (some ⟨g, 0, none⟩)] w fun en w' => ∃ va vc, en = .returned (.slice va 0 vc) ∧ w.heap.size ≤ w'.heap.size ∧ Vd w' tag tn g ∧ Only (fun b => tag b = tn) w w' := by
  have H := hid (voterOut_any hN)
  clear hN
  go_enter Tryz.func97, Tryz.ntmps97
  go_wp2_with (go_at_call 157; refine H.out.mono ?_; rintro en w1 ⟨va, vc, rfl, hR⟩; have HR := hid hR; clear hR)
  go_ret
  exact ⟨va, vc, rfl, HR.out⟩
theorem methV_image (w : World) (p : Nat) : (method 498 233 (Value.agg #[Value.pointer (some { block := p, off := 0 })]) "Image").run Tryz.prog w = .ok (177, Value.pointer (some { block := p, off := 0 })) w := by kernel_rfl
set_option maxRecDepth 100000 in
set_option maxHeartbeats 2000000 in
theorem vImage_any (w : World) (p : Nat) (m : Value) (hp : w.heap[p]? = some (.cells #[m, .slice none 0 0] 248 (0, 0))) :
    Calls Tryz.prog 177 #[.pointer (some ⟨p, 0, none⟩)] w fun en w' => ∃ ia ic, en = .returned (.slice ia 0 ic) ∧ Bl w w' := by
  have lp := (Array.getElem?_eq_some_iff.1 hp).1
  have c1 : w.cell? ⟨p, 1, none⟩ = some (.slice none 0 0) := cell_of_row w p 1 _ 248 (0, 0) hp
  have H := hid (bytes_raw 0 p 1 (.slice none 0 0) [] w lp c1 (World.ownsRow_nil _ _ _ _) (by simp))
  clear hp
  go_enter Tryz.func177, Tryz.ntmps177
  go_wp2_with (go_at_call 218; refine H.out.mono ?_; rintro en w' ⟨v, rfl, hb, ho⟩; obtain ⟨ia, ic, rfl⟩ := owned_slice ho; have HB := hid hb; clear H hb ho)
  go_ret
  exact ⟨ia, ic, rfl, HB.out⟩
set_option maxRecDepth 100000 in
set_option maxHeartbeats 2000000 in
theorem voterImage_any (w : World) (tag : Nat → Nat) (tn g : Nat) (hN : Vd w tag tn g) :
    Calls Tryz.prog 102 #[.pointer (some ⟨g, 0, none⟩)] w fun en w' => ∃ ia ic, en = .returned (.slice ia 0 ic) ∧ Bl w w' := by
  obtain ⟨p, m, hg, _, hp, _⟩ := hN
  have HI := hid (vImage_any w p m hp)
  have c0 : w.cell? ⟨g, 0, none⟩ = some (.iface 233 (.agg #[.pointer (some ⟨p, 0, none⟩)])) := cell_of_row w g 0 _ 124 (0, 0) hg
  have lg := (Array.getElem?_eq_some_iff.1 hg).1
  have hm := fun W => methV_image W p
  clear hp hg
  go_enter Tryz.func102, Tryz.ntmps102
  go_wp2_with (go_at_call 177; refine HI.out.mono ?_; rintro en w' ⟨ia, ic, rfl, hb⟩; have HB := hid hb; clear HI hb)
  go_ret
  exact ⟨ia, ic, rfl, HB.out⟩
set_option maxRecDepth 100000 in
set_option maxHeartbeats 2000000 in
theorem furrowVImage_any (w : World) (tag : Nat → Nat) (tn g : Nat) (hN : Vd w tag tn g) :
    Calls Tryz.prog 70 #[.pointer (some ⟨g, 0, none⟩)] w fun en w' => ∃ ia ic, en = .returned (.slice ia 0 ic) ∧ Bl w w' := by
  have HI := hid (voterImage_any w tag tn g hN)
  clear hN
  go_enter Tryz.func70, Tryz.ntmps70
  go_wp2_with (go_at_call 102; refine HI.out.mono ?_; rintro en w' ⟨ia, ic, rfl, hb⟩; have HB := hid hb; clear HI hb)
  go_ret
  exact ⟨ia, ic, rfl, HB.out⟩
end Go.Proofs.YtnhjmiglegdamaaGreat

namespace Go.Proofs.YtnhjmiglegdamaaGreat
open Go.RowKit Go.Maps
attribute [local go_sem ↓] Go.wp_at_zero Go.wp_at_succ
theorem make101 (w : World) : (Instr.makeMap 101 none).run Tryz.prog w = .ok (.map (some w.heap.size)) (w.alloc (.map #[] 0)) := by kernel_rfl
set_option maxRecDepth 100000 in
set_option maxHeartbeats 2000000 in
theorem newQuestion_any (w : World) (na : Option Addr) (nn nc : Nat) (k1 k2 k3 k4 k5 k6 k7 : Int) (va : Option Addr) (vn vc : Nat) :
    Calls Tryz.prog 204 #[.slice na nn nc, .agg #[.int .i64 k1, .int .i64 k2, .int .i64 k3, .int .i64 k4, .int .i64 k5, .int .i64 k6, .int .i64 k7, .slice va vn vc]] w fun en w' => ∃ gm, en = .returned (.agg #[.int .i64 k1, .int .i64 k2, .int .i64 k3, .int .i64 k4, .int .i64 k5, .int .i64 k6, .int .i64 k7, .slice va vn vc, .slice na nn nc, .bool true, .map (some gm)]) ∧ w.heap.size ≤ gm ∧ w'.heap[gm]? = some (.map #[] 0) ∧ Bl w w' := by
  have hmk := make101
  go_enter Tryz.func204, Tryz.ntmps204
  go_wp2
  refine bodyPost_ret (v := .agg #[.int .i64 k1, .int .i64 k2, .int .i64 k3, .int .i64 k4, .int .i64 k5, .int .i64 k6, .int .i64 k7, .slice va vn vc, .slice na nn nc, .bool true, .map (some (w.heap.size + 1 + 1))]) (by simp [results, Tryz.results204, go_sem]) rfl ⟨_, rfl, by omega, ?_, (((Bl.refl w).alloc _).alloc _).alloc _⟩
  have := heap_alloc_new ((w.alloc (Obj.cells #[.int .i64 k1, .int .i64 k2, .int .i64 k3, .int .i64 k4, .int .i64 k5, .int .i64 k6, .int .i64 k7, .slice va vn vc] 100)).alloc (Obj.cells #[.int .i64 k1, .int .i64 k2, .int .i64 k3, .int .i64 k4, .int .i64 k5, .int .i64 k6, .int .i64 k7, .slice va vn vc, .slice na nn nc, .bool true, .map (some (w.heap.size + 1 + 1))] 103)) (.map #[] 0)
  simpa using this
end Go.Proofs.YtnhjmiglegdamaaGreat

namespace Go.Proofs.YtnhjmiglegdamaaGreat
open Go.RowKit Go.Maps
attribute [local go_sem ↓] Go.wp_at_zero Go.wp_at_succ
/-- Nobody has answered yet. -/
theorem look101_none (w : World) (bm n : Nat) (hb : w.heap[bm]? = some (.map #[] n)) (k : Int) :
    (Instr.lookup 101 (.map (some bm)) (.int .i64 k) true).run Tryz.prog w = .ok (.tuple #[.agg #[.int .i64 0, .int .i64 0, .int .i64 0, .int .i64 0, .int .i64 0, .int .i64 0, .slice none 0 0], .bool false]) w := by
  have h0 : Instr.findNow (.int .i64) (.int .i64 k) (#[] : Array MapEntry).toList 0 = some none := rfl
  have h1 := MapKept.run_findKey (P := Tryz.prog) (w := w) Tryz.underlying3 h0
  have h2 := MapKept.run_checkKey (P := Tryz.prog) (w := w) (k := .int .i64 k) Tryz.underlying3 (by simp [MapKept.IsKey]) true 9999
  have h3 : (zeroValue 210).run Tryz.prog w = .ok (.agg #[.int .i64 0, .int .i64 0, .int .i64 0, .int .i64 0, .int .i64 0, .int .i64 0, .slice none 0 0]) w := by kernel_rfl
  simp [Instr.lookup, Sem.run_bind, run_underlying Tryz.underlying101, Result.andThen, MapKept.run_getObj_map hb, h2, h1, h3]
set_option maxRecDepth 100000 in
set_option maxHeartbeats 2000000 in
theorem index_any (w : World) (b o c : Nat) (ns : List Int) (x : Int) (hl : ns.length ≤ 1000) (hc : ∀ j d, ns[j]? = some d → w.cell? ⟨b, o + j, none⟩ = some (.int .i64 d)) :
    Calls Tryz.prog 190 #[.slice (some ⟨b, o, none⟩) ns.length c, .int .i64 x] w fun en w' => ∃ r : Int, en = .returned (.int .i64 r) ∧ (0 ≤ r ↔ x ∈ ns) ∧ w' = w := by
  have Hc := hid hc
  clear hc
  go_enter Tryz.func190, Tryz.ntmps190
  go_wp2
  go_loopw [8] (fun i wr => ∃ j : Nat, j ≤ ns.length ∧ i = .int .i64 j ∧ wr = w ∧ Hid (∀ t d, t < j → ns[t]? = some d → d ≠ x)) (fun i _ => ns.length - (intOf i).toNat)
  case atStart => exact ⟨0, Nat.zero_le _, rfl, rfl, fun t d h => absurd h (by omega)⟩
  case round =>
    obtain ⟨j, hj, rfl, rfl, HJ⟩ := hrel
    by_cases hlt : j < ns.length
    · have q0 := Hc.out j ns[j] (List.getElem?_eq_getElem hlt)
      have Hm : Hid (ns[j] ∈ ns) := List.getElem_mem hlt
      have Hg := hid (List.getElem?_eq_getElem hlt)
      have hltI : (j : Int) < (ns.length : Int) := by omega
      generalize ns[j] = y at *
      by_cases he : x = y
      · subst he
        go_wp2
        go_ret
        exact ⟨_, rfl, ⟨fun _ => Hm.out, fun _ => by omega⟩, rfl⟩
      · go_wp2
        refine ⟨⟨j + 1, by omega, by simp, trivial, fun t d ht hd => ?_⟩, by simp [intOf]; omega⟩
        by_cases e : t = j
        · subst e
          rw [Hg.out] at hd
          simp at hd
          exact fun h => he (h.symm.trans hd.symm)
        · exact HJ.out t d (by omega) hd
    · have hge : ¬ ((j : Int) < (ns.length : Int)) := by omega
      go_wp2
      go_ret
      refine ⟨_, rfl, ⟨fun h => absurd h (by decide), fun h => ?_⟩, rfl⟩
      obtain ⟨i, hi, e⟩ := List.mem_iff_getElem.1 h
      exact absurd e (HJ.out i _ (by omega) (List.getElem?_eq_getElem hi))
set_option maxRecDepth 100000 in
set_option maxHeartbeats 2000000 in
theorem contains_any (w : World) (b o c : Nat) (ns : List Int) (x : Int) (hl : ns.length ≤ 1000) (hc : ∀ j d, ns[j]? = some d → w.cell? ⟨b, o + j, none⟩ = some (.int .i64 d)) :
    Calls Tryz.prog 151 #[.slice (some ⟨b, o, none⟩) ns.length c, .int .i64 x] w fun en w' => en = .returned (.bool (decide (x ∈ ns))) ∧ w' = w := by
  have H := hid (index_any w b o c ns x hl hc)
  clear hc
  go_enter Tryz.func151, Tryz.ntmps151
  go_wp2_with (go_at_call 190; refine H.out.mono ?_; rintro en w' ⟨r, rfl, hr, rfl⟩)
  go_ret
  exact ⟨by simp, rfl⟩
end Go.Proofs.YtnhjmiglegdamaaGreat

namespace Go.Proofs.YtnhjmiglegdamaaGreat
open Go.RowKit Go.Maps
attribute [local go_sem ↓] Go.wp_at_zero Go.wp_at_succ
set_option maxRecDepth 100000 in
set_option maxHeartbeats 2000000 in
/-- A question that nobody has answered awaits an answer of its number from a node that it asks. -/
theorem awaits_none (w : World) (g o gm n b ob c : Nat) (ns : List Int) (nr k x : Int) (hl : ns.length ≤ 1000)
    (c1 : w.cell? ⟨g, o + 1, none⟩ = some (.int .i64 nr)) (c8 : w.cell? ⟨g, o + 8, none⟩ = some (.slice (some ⟨b, ob, none⟩) ns.length c)) (c10 : w.cell? ⟨g, o + 10, none⟩ = some (.map (some gm))) (lg : g < w.heap.size) (lb : b < w.heap.size) (hm : w.heap[gm]? = some (.map #[] n)) (hc : ∀ j d, ns[j]? = some d → w.cell? ⟨b, ob + j, none⟩ = some (.int .i64 d)) :
    Calls Tryz.prog 264 #[.pointer (some ⟨g, o, none⟩), .int .i64 k, .int .i64 x] w fun en w' => en = .returned (.bool (decide (nr = k) && decide (x ∈ ns))) ∧ Bl w w' := by
  have hlk := look101_none w gm n hm x
  have bA := (Bl.refl w).alloc (.cells #[.int .i64 0, .int .i64 0, .int .i64 0, .int .i64 0, .int .i64 0, .int .i64 0, .slice none 0 0] 210)
  have HC := hid (contains_any (w.alloc (.cells #[.int .i64 0, .int .i64 0, .int .i64 0, .int .i64 0, .int .i64 0, .int .i64 0, .slice none 0 0] 210)) b ob c ns x hl fun j d h => (bA.cell lb).trans (hc j d h))
  have d1 := (bA.cell lg).trans c1
  have d8 := (bA.cell lg).trans c8
  have HA := hid bA
  clear hc hm bA
  by_cases he : nr = k
  · subst he
    go_enter Tryz.func264, Tryz.ntmps264
    go_wp2_with (go_at_call 151; refine HC.out.mono ?_; rintro en w' ⟨rfl, rfl⟩)
    all_goals
      go_ret
      exact ⟨by simp_all, HA.out⟩
  · go_enter Tryz.func264, Tryz.ntmps264
    go_wp2
    all_goals
      go_ret
      exact ⟨by simp [he], HA.out⟩
set_option maxRecDepth 100000 in
set_option maxHeartbeats 2000000 in
/-- A question that is not due gives nothing out. -/
theorem qout_not (w : World) (g o : Nat) (c9 : w.cell? ⟨g, o + 9, none⟩ = some (.bool false)) :
    Calls Tryz.prog 207 #[.pointer (some ⟨g, o, none⟩)] w fun en w' => en = .returned (.slice none 0 0) ∧ w' = w := by
  go_enter Tryz.func207, Tryz.ntmps207
  go_wp2
  go_ret
  exact ⟨rfl, rfl⟩
end Go.Proofs.YtnhjmiglegdamaaGreat

namespace Go.Proofs.YtnhjmiglegdamaaGreat
open Go.RowKit Go.Maps
attribute [local go_sem ↓] Go.wp_at_zero Go.wp_at_succ

/-- Values laid one behind the other. -/
def puts (w : World) (p o : Nat) : List Value → World
  | [] => w
  | v :: vs => puts (w.setCell ⟨p, o, none⟩ v) p (o + 1) vs
theorem puts_only {S : Nat → Prop} {a : World} {p : Nat} (hp : S p ∨ a.heap.size ≤ p) : ∀ (vs : List Value) (o : Nat) (w : World), Only S a w → Only S a (puts w p o vs)
  | [], _, _, h => h
  | v :: vs, o, _, h => puts_only hp vs (o + 1) _ (h.setCell ⟨p, o, none⟩ hp v)

/-- A slice that reads as the values cs, in a block of the mark tc and the type e. -/
def Rd (w : World) (tag : Nat → Nat) (tc : Nat) (e : TypeId) (v : Value) (cs : List Value) : Prop :=
  (v = .slice none 0 0 ∧ cs = []) ∨ ∃ b o c arr f, v = .slice (some ⟨b, o, none⟩) cs.length c ∧ tag b = tc ∧ w.heap[b]? = some (.cells arr e f) ∧ cs.length ≤ c ∧ c ≤ maxLen ∧ ∀ j x, cs[j]? = some x → arr[o + j]? = some x
/-- A block that a client's call may turn: none of those that are only read. -/
def Mu (w : World) (b : Nat) : Prop := ∀ arr e f, w.heap[b]? = some (.cells arr e f) → e ≠ 3 ∧ e ≠ 5 ∧ e ≠ 24
def Tc (tag : Nat → Nat) (tc : Nat) (w : World) (b : Nat) : Prop := tag b = tc ∧ Mu w b
section
variable {w w' : World} {tag tag' : Nat → Nat} {tc : Nat} {e : TypeId} {v : Value} {cs : List Value}
theorem Rd.nil : Rd w tag tc e (.slice none 0 0) [] := .inl ⟨rfl, rfl⟩
theorem Rd.shape (h : Rd w tag tc e v cs) : ∃ a c, v = .slice a cs.length c := by
  rcases h with ⟨rfl, rfl⟩ | ⟨b, o, c, arr, f, rfl, _⟩ <;> exact ⟨_, _, rfl⟩
theorem Rd.of_heap (h : Rd w tag tc e v cs) (hh : ∀ b arr f, w.heap[b]? = some (.cells arr e f) → tag b = tc → w'.heap[b]? = w.heap[b]? ∧ tag' b = tc) : Rd w' tag' tc e v cs := by
  rcases h with h | ⟨b, o, c, arr, f, h1, h2, h3, h4⟩
  · exact .inl h
  · obtain ⟨k1, k2⟩ := hh b arr f h3 h2
    exact .inr ⟨b, o, c, arr, f, h1, k2, k1.trans h3, h4⟩
theorem Rd.only (h : Rd w tag tc e v cs) {T : Nat → Prop} (ho : Only T w w') (hT : ∀ b, b < w.heap.size → tag b = tc → T b → Mu w b) (he : e = 3 ∨ e = 5 ∨ e = 24) (ht : ∀ b, b < w.heap.size → tag b = tc → tag' b = tc) : Rd w' tag' tc e v cs :=
  h.of_heap fun b arr f hb hg => by
    have lb := (Array.getElem?_eq_some_iff.1 hb).1
    refine ⟨ho.block b lb fun hn => ?_, ht b lb hg⟩
    have := hT b lb hg hn arr e f hb
    rcases he with rfl | rfl | rfl <;> simp at this
theorem Rd.bl (h : Rd w tag tc e v cs) (hb : Bl w w') (ht : ∀ b, b < w.heap.size → tag b = tc → tag' b = tc) : Rd w' tag' tc e v cs :=
  h.of_heap fun b arr f h1 hg => by
    have lb := (Array.getElem?_eq_some_iff.1 h1).1
    exact ⟨hb.heap lb, ht b lb hg⟩
theorem Rd.cell (h : Rd w tag tc e v cs) (hn : 0 < cs.length) : ∃ b o c, v = .slice (some ⟨b, o, none⟩) cs.length c ∧ b < w.heap.size ∧ cs.length ≤ c ∧ c ≤ maxLen ∧ ∀ j x, cs[j]? = some x → w.cell? ⟨b, o + j, none⟩ = some x := by
  rcases h with ⟨_, rfl⟩ | ⟨b, o, c, arr, f, h1, h2, h3, h4, h5, h6⟩
  · simp at hn
  · exact ⟨b, o, c, h1, (Array.getElem?_eq_some_iff.1 h3).1, h4, h5, fun j x hj => by rw [cell_of_row w b _ arr e f h3]; exact h6 j x hj⟩
theorem Rd.bs (h : Rd w tag tc e v cs) : Bs w v cs := by
  rcases h with h | ⟨b, o, c, arr, f, h1, h2, h3, h4, h5, h6⟩
  · exact .inl h
  · exact .inr ⟨⟨b, o, none⟩, c, h1, fun j x hj => by rw [add_eq, cell_of_row w b _ arr e f h3]; exact h6 j x hj⟩
theorem Rd.blk (h : Rd w tag tc e v cs) (b : Nat) (hb : v.ownBlock = some b) : b < w.heap.size ∧ tag b = tc := by
  rcases h with ⟨rfl, _⟩ | ⟨b', o, c, arr, f, rfl, h2, h3, _⟩
  · simp [Value.ownBlock] at hb
  · simp [Value.ownBlock] at hb
    subst hb
    exact ⟨(Array.getElem?_eq_some_iff.1 h3).1, h2⟩
theorem Rd.of_own {base n : Nat} (h : w.ownsRow base e 1 v n cs) (ht : ∀ b, v.ownBlock = some b → tag b = tc) : Rd w tag tc e v cs := by
  have hl := ownsRow_len h
  rcases h.2 with ⟨rfl, rfl⟩ | ⟨g, cap, cur, rfl, hb, hg, h1, h2, h3, h4⟩
  · exact .inl ⟨rfl, List.length_eq_zero_iff.1 hl⟩
  · refine .inr ⟨g, 0, cap, cur, (0, 0), by rw [hl], ht g rfl, hg, by omega, h2, fun j x hj => ?_⟩
    have hj' := (List.getElem?_eq_some_iff.1 hj).1
    have := h.cellAt j (by omega)
    rw [cell_of_row w g j cur e (0, 0) hg] at this
    rw [Nat.zero_add, this]; exact hj
end
theorem Mu.of_ne {w : World} {b : Nat} {arr : Array Value} {t : TypeId} {f : Nat × Nat} (h : w.heap[b]? = some (.cells arr t f)) (ht : t ≠ 3 ∧ t ≠ 5 ∧ t ≠ 24) : Mu w b := fun arr' e' f' h' => by
  rw [h] at h'
  simp at h'
  rw [← h'.2.1]; exact ht
theorem Mu.of_map {w : World} {b : Nat} {es : Array MapEntry} {k : Nat} (h : w.heap[b]? = some (.map es k)) : Mu w b := fun arr' e' f' h' => by
  rw [h] at h'; simp at h'
/-- Two calls of a client, one behind the other. -/
theorem Tc.trans {tag : Nat → Nat} {tc : Nat} {w w1 w2 : World} (h : Only (Tc tag tc w) w w1) (k : Only (Tc (tagTo tag w.heap.size tc) tc w1) w1 w2) : Only (Tc tag tc w) w w2 :=
  ⟨k.os.trans h.os, k.tape.trans h.tape, k.output.trans h.output, Nat.le_trans h.size k.size, fun i hi hs => by
    have e1 := h.block i hi hs
    rw [k.block i (Nat.lt_of_lt_of_le hi h.size) (fun e => hs ⟨by rw [← tagTo_old tag w.heap.size tc i hi]; exact e.1, fun arr t f hh => e.2 arr t f (by rw [e1]; exact hh)⟩), e1]⟩
end Go.Proofs.YtnhjmiglegdamaaGreat

namespace Go.Proofs.YtnhjmiglegdamaaGreat
open Go.RowKit Go.Maps

/-- A question: the request, whom it is asked, is it due, who has answered what. -/
structure PQ where
  kd : Int
  nr : Int
  pl : Int
  ct : Ct
  nodes : List Int
  due : Bool
  ans : List (Int × An)
def PQ.zero : PQ := ⟨0, 0, 0, no, [], false, []⟩
/-- A result. -/
structure Rz where
  wh : Int
  ad : Int
  val : List Int
/-- A pending call. -/
structure PC where
  kind : Int
  num : Nat
  addr : Int
  own : Ct
  cont : Ct
  place : Nat
  e : Rz
  q : PQ
/-- A client, but for its settings. -/
structure CX where
  asked : Int
  res : List Rz
  pr : PQ
  pend : Option PC

def PQ.awaits (q : PQ) (nr fr : Int) : Bool := decide (q.nr = nr) && decide (fr ∈ q.nodes) && !(q.ans.any fun z => z.1 == fr)
def PQ.count (q : PQ) (wh : Int) : Nat := (q.ans.filter fun z => z.2.wh == wh).length
def chainOf (n m : Nat) (a : Int) : List Int := (List.range m).map fun (i : Nat) => a % n * m + i
def allOf (n m : Nat) : List Int := (List.range (n * m)).map fun (i : Nat) => (i : Int)
def owns (c : PC) (t : Ct) : Bool := t.cl == c.own.cl && t.ca == c.own.ca
def told (t : Ct) : Rz := ⟨t.kd, 0, t.val⟩

def CX.ask (X : CX) (c : PC) (nodes : List Int) (kd pl : Int) (t : Ct) : CX := { X with asked := X.asked + 1, pend := some { c with q := ⟨kd, X.asked + 1, pl, t, nodes, true, []⟩ } }
def CX.look (n m : Nat) (X : CX) (c : PC) : CX := X.ask c (chainOf n m c.addr) 3 c.addr no
def CX.writeNext (n m : Nat) (X : CX) (c : PC) : CX := X.ask c [c.addr % n * m + c.place] 2 c.addr c.cont
def CX.lay (n m : Nat) (X : CX) (c : PC) (mark : Int) (e : Rz) : CX := X.ask { c with e := e } (allOf n m) 4 mark no
def CX.end' (X : CX) (c : PC) (r : Rz) : CX := { X with res := X.res.set c.num r, pend := none }
def CX.goAlong (n m : Nat) (X : CX) (c : PC) : CX :=
  if c.place + 1 < m then X.writeNext n m { c with place := c.place + 1 }
  else if c.kind = 1 then X.end' c ⟨1, c.addr, []⟩ else X.end' c (told c.cont)
def CX.taken (n m : Nat) (X : CX) (c : PC) (t : Ct) : CX :=
  if c.kind = 1 then { X with pend := some { c with q := PQ.zero } } else X.goAlong n m { c with cont := t }
def CX.trimmed (n m : Nat) (X : CX) (c : PC) (mark : Int) : CX :=
  if c.kind = 1 then { X with pend := some { c with q := PQ.zero } } else X.lay n m c mark ⟨4, 0, []⟩
def CX.wrote (n m : Nat) (X : CX) (c : PC) (A : An) : CX :=
  if A.wh = 1 then X.goAlong n m c else if A.wh = 2 then X.taken n m c A.ct else X.trimmed n m c A.mark
def CX.looked (n m : Nat) (X : CX) (c : PC) (A : An) : CX :=
  if A.wh = 4 then X.lay n m c A.mark ⟨4, 0, []⟩
  else if c.q.ans.length < c.q.nodes.length then { X with pend := some c }
  else if c.q.count 2 = c.q.nodes.length then X.end' c (told (((c.q.ans.find? fun z => z.1 == c.q.nodes.headD 0).map fun z => z.2.ct).getD no))
  else X.end' c ⟨3, 0, []⟩
def CX.goOn (n m : Nat) (X : CX) (c : PC) (A : An) : CX :=
  if c.q.kd = 3 then X.looked n m c A else if c.q.kd = 2 then X.wrote n m c A
  else if c.q.count 1 = c.q.nodes.length then X.end' c c.e else { X with pend := some c }
def CX.recv (n m : Nat) (X : CX) (fr nr : Int) (A : An) : CX :=
  if X.pr.awaits nr fr then { X with pr := { X.pr with ans := X.pr.ans ++ [(fr, A)] } }
  else match X.pend with
    | none => X
    | some c => if c.q.awaits nr fr then X.goOn n m { c with q := { c.q with ans := c.q.ans ++ [(fr, A)] } } A else X
end Go.Proofs.YtnhjmiglegdamaaGreat
