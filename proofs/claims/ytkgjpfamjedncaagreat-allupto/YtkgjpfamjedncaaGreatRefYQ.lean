-- The document's cells: Write, where there is no content.
import Derived.Test.YtkgjpfamjedncaaGreatRefLRefRRefWRefXQ
import Derived.Test.YtkgjpfamjedncaaGreatRefPRefAKeptQ
import Derived.Test.YtkgjpfamjedncaaGreatLentBBackBOwnBBookBQ
namespace Go.Proofs.YtkgjpfamjedncaaGreat
open Go.RowKit Go.Maps
attribute [local go_sem ↓] Go.wp_at_zero Go.wp_at_succ

def upW (F : Nat → Wq) (n : Nat) (x : Wq) : Nat → Wq := fun i => if i = n then x else F i
theorem row5_congr {F G : Nat → Wq} : ∀ n, (∀ i, i < n → F i = G i) → row5 F n = row5 G n
  | 0, _ => rfl
  | n + 1, h => by rw [row5, row5, row5_congr n fun i hi => h i (by omega), h n (by omega)]
theorem row5_push (F : Nat → Wq) (n : Nat) (x : Wq) : row5 (upW F n x) (n + 1) = row5 F n ++ wq5 x := by
  rw [row5, row5_congr (F := upW F n x) (G := F) n fun i hi => by unfold upW; rw [if_neg (by omega)]]
  congr 1
  unfold upW; rw [if_pos rfl]

/-- A content more. -/
theorem Cw.push {B0 : Nat} {w5 W6 w6 : World} {y : Nat} {a b c d u e mk : Int} {la : Option Addr} {lc : Nat} {n : Nat} {F : Nat → Wq} (h : Cw B0 w5 y a b c d u e mk (.slice la n lc) n F) (hb : Bl w5 W6) (hg : W6.grownBy w6 (Value.slice la n lc).ownBlock) (q : Wq) (hv : w5.ownsRow 0 5 1 q.v q.ys.length (q.ys.map B8)) {gg cap : Nat} (ho : w6.ownsRow B0 137 5 (.slice (some ⟨gg, 0, none⟩) (n + 1) cap) (n + 1) (row5 F n ++ wq5 q)) :
    Cw B0 (w6.setCell ⟨y, 7, none⟩ (.slice (some ⟨gg, 0, none⟩) (n + 1) cap)) y a b c d u e mk (.slice (some ⟨gg, 0, none⟩) (n + 1) cap) (n + 1) (upW F n q) ∧ Only (fun b => b = y ∨ (Value.slice la n lc).ownBlock = some b) w5 (w6.setCell ⟨y, 7, none⟩ (.slice (some ⟨gg, 0, none⟩) (n + 1) cap)) := by
  have nby := own_ne_block h.own h.blk (by decide)
  have O : Only (fun b => b = y ∨ (Value.slice la n lc).ownBlock = some b) w5 w6 := (Only.of_bl hb).trans ((Only.of_grown hg).mono fun k _ e => .inr e.symm)
  have O7 := O.setCell ⟨y, 7, none⟩ (.inl (.inl rfl)) (.slice (some ⟨gg, 0, none⟩) (n + 1) cap)
  have hy6 : w6.heap[y]? = some (.cells #[.int .i64 a, .int .i64 b, .int .i64 c, .int .i64 d, .int .i64 u, .int .i64 e, .int .i64 mk, .slice la n lc] 77 (0, 0)) := by
    have h1 := hg.block y (Nat.lt_of_lt_of_le h.lt hb.lt) (fun e => nby e.symm)
    rw [h1, hb.heap h.lt]; exact h.blk
  have key : ∀ v k xs, w5.ownsRow 0 5 1 v k xs → (w6.setCell ⟨y, 7, none⟩ (.slice (some ⟨gg, 0, none⟩) (n + 1) cap)).ownsRow 0 5 1 v k xs := fun v k xs hv => O7.owns hv fun b hb' e => by
    rcases e with rfl | e
    · exact own_ne_block hv h.blk (by decide) hb'
    · exact ownsRow_type hv h.own (by decide) b hb' e
  refine ⟨⟨heap_setCell_same w6 y 7 _ 77 _ hy6, ?_, fun i hi => ?_⟩, O7⟩
  · rw [row5_push]
    exact ownsRow_of ho fun b hb' => Below.heap_setCell _ _ _ _ (fun e => own_ne_block ho hy6 (by decide) (by rw [hb', e]))
  · unfold upW
    by_cases ei : i = n
    · rw [if_pos ei]; exact key _ _ _ hv
    · rw [if_neg ei]; exact key _ _ _ (h.val i (by omega))

set_option maxRecDepth 100000 in
set_option maxHeartbeats 4000000 in
theorem refWriteYes_any (B0 y : Nat) (a b c d u ep mk : Int) (lv : Value) (n : Nat) (F : Nat → Wq) (e x kd cl ca : Int) (va : Option Addr) (vc : Nat) (ys : List Int) (w : World) (h : Cw B0 w y a b c d u ep mk lv n F) (hB : B0 ≤ w.heap.size) (hn : n ≤ 4000000) (hu : 0 ≤ u) (hu9 : u ≤ 1000) (hf : fit a b c d = true) (hv : Bs w (.slice va ys.length vc) (ys.map B8)) (hvb : ∀ g, (Value.slice va ys.length vc).ownBlock = some g → g ≠ y ∧ lv.ownBlock ≠ some g) (hvn : ys.length ≤ 30000000) (he : ¬ e < ep) (hmi : mineC a b c d u x = true) (hic : isC kd ys.length = true) (hlf : lookR F x mk n = reply 3 0 0 0 0 0 (.slice none 0 0)) :
    Calls Tryz.prog 44 #[.pointer (some ⟨y, 0, none⟩), .int .i64 e, .int .i64 x, .agg #[.int .i64 kd, .int .i64 cl, .int .i64 ca, .slice va ys.length vc]] w fun en w' => ∃ lv' v', en = .returned (reply 1 0 0 0 0 0 (.slice none 0 0)) ∧ Cw B0 w' y a b c d u e mk lv' (n + 1) (upW F n ⟨x, kd, cl, ca, ys, v'⟩) ∧ Only (fun b => b = y ∨ lv.ownBlock = some b) w w' ∧ (∀ b, lv'.ownBlock = some b → lv.ownBlock = some b ∨ w.heap.size ≤ b) ∧ ∀ b, v'.ownBlock = some b → w.heap.size ≤ b := by
  have ly := h.lt
  obtain ⟨i5, j5, s0, s1, s2⟩ := info_parts Tryz.info5
  obtain ⟨i137, j137, t0, t1, t2⟩ := info_parts Tryz.info137
  have HC := hid ((Wb.start h #[.int .i64 kd, .int .i64 cl, .int .i64 ca, .slice va ys.length vc]).old ly e)
  have HV := hid hv
  have HVB := hid hvb
  clear h hv hvb
  unfold blank at HC
  simp only [he, if_false] at HC
  have Hmi := hid hmi
  have Hic := hid hic
  have Hlf := hid hlf
  clear hmi hic hlf
  go_enter Tryz.func44, Tryz.ntmps44
  go_wp2_with fail
  refine HC.out.mono ?_
  rintro en w1 ⟨rfl, hw⟩
  have HM := hid (refMine_any B0 y a b c d u e mk lv n F x w1 hw.cw hu hu9 hf)
  have HW := hid hw
  rw [Hmi.out] at HM
  clear hw HC
  go_wp2_with fail
  refine HM.out.mono ?_
  rintro en w2 ⟨rfl, hb2⟩
  have HW2 := hid (HW.out.bl hb2)
  have b0 := cell_of_row w2 w.heap.size 0 _ 42 (0, 0) HW2.out.bc
  have b1 := cell_of_row w2 w.heap.size 1 _ 42 (0, 0) HW2.out.bc
  have b2 := cell_of_row w2 w.heap.size 2 _ 42 (0, 0) HW2.out.bc
  have b3 := cell_of_row w2 w.heap.size 3 _ 42 (0, 0) HW2.out.bc
  simp at b0 b1 b2 b3
  have HI := hid (refContent_any kd cl ca va ys.length vc w2 (by omega))
  rw [Hic.out] at HI
  have lB : w.heap.size < w2.heap.size := (Array.getElem?_eq_some_iff.1 HW2.out.bc).1
  clear hb2 HM HW
  go_wp2_with fail
  refine HI.out.mono ?_
  rintro en w3 ⟨rfl, hb3⟩
  have HW3 := hid (HW2.out.bl hb3)
  have HL := hid (refLook_any B0 y a b c d u e mk lv n F x w3 HW3.out.cw hn)
  rw [Hlf.out] at HL
  unfold reply at HL
  clear hb3 HI HW2 b0 b1 b2 b3 lB
  go_wp2_with fail
  refine HL.out.mono ?_
  rintro en w4 ⟨rfl, hb4⟩
  have HW4 := hid ((HW3.out.bl hb4).bl ((Bl.refl w4).alloc (.cells #[.int .i64 3, .int .i64 0, .int .i64 0, .int .i64 0, .int .i64 0, .int .i64 0, .slice none 0 0] 98)))
  have hc4 := (HW3.out.bl hb4).bc
  have b3 := cell_of_row w4 w.heap.size 3 _ 42 (0, 0) hc4
  simp at b3
  have lB : w.heap.size < w4.heap.size := (Array.getElem?_eq_some_iff.1 hc4).1
  have nB : ¬ w.heap.size = w4.heap.size := by omega
  have hV4 := HV.out.only HW4.out.only (fun g e e' => (HVB.out g e).1 e')
  have HV4 := hid hV4
  have hml : Hid (0 + (ys.map B8).length ≤ maxLen) := by unfold Hid maxLen; simp; omega
  have hby : Hid ((0 + (ys.map B8).length) * 1 ≤ 140737488355328) := by unfold Hid; simp; omega
  have hone : Hid (∀ q ∈ ys.map B8, q.oneCell' = true) := fun q hq => by obtain ⟨z, _, rfl⟩ := List.mem_map.1 hq; rfl
  clear hb4 HL HW3 hc4 hV4
  go_upto_region 12 with fail
  generalize w4.alloc (.cells #[.int .i64 3, .int .i64 0, .int .i64 0, .int .i64 0, .int .i64 0, .int .i64 0, .slice none 0 0] 98) = W at *
  clear b3 lB nB
  generalize w4.heap.size = g4 at *
  have b3 := cell_of_row W w.heap.size 3 _ 42 (0, 0) HW4.out.bc
  simp at b3
  go_wp2_with (at_builtin; refine wpList_append_bs _ rfl _ _ 40 rfl W.heap.size 5 i5 _ 1 Tryz.underlying40 j5 s0 s1 s2 rfl _ 0 [] rfl (World.ownsRow_nil _ _ _ _) _ _ rfl HV4.out hone.out hml.out hby.out (Nat.le_refl _) ?_)
  intro v2 w5 hG
  have hb5 : Bl W w5 := hG.only.to_bl fun k _ e => by simp [Value.ownBlock] at e
  have ho5 : w5.ownsRow W.heap.size 5 1 v2 ys.length (ys.map B8) := by simpa using hG.own
  obtain ⟨xa, xc, hx⟩ := owned_slice' ho5
  subst hx
  have HW5 := hid (HW4.out.bl hb5)
  have lWW : w.heap.size ≤ W.heap.size := HW4.out.only.size
  have Ho5 := hid ho5
  have p0 := cell_of_row w5 w.heap.size 0 _ 42 (0, 0) HW5.out.bc
  have p1 := cell_of_row w5 w.heap.size 1 _ 42 (0, 0) HW5.out.bc
  have p2 := cell_of_row w5 w.heap.size 2 _ 42 (0, 0) HW5.out.bc
  simp at p0 p1 p2
  obtain ⟨_, _, _, _, _, _, _, k7, _, _, g7⟩ := HW5.out.cw.cells
  have ly5 := HW5.out.cw.lt
  obtain ⟨la, lc, hlv⟩ : ∃ la lc, lv = .slice la n lc := by
    rcases HW5.out.cw.own.2 with ⟨e, e'⟩ | ⟨g, cap, cur, e, _⟩
    · exact ⟨_, _, by rw [e, e']⟩
    · exact ⟨_, _, e⟩
  subst hlv
  have lB : w.heap.size < w5.heap.size := (Array.getElem?_eq_some_iff.1 HW5.out.bc).1
  have lN : w.heap.size + 1 < w5.heap.size := (Array.getElem?_eq_some_iff.1 HW5.out.br).1
  have nby := hid (own_ne_block HW5.out.cw.own HW5.out.cw.blk (by decide))
  have nbc := hid (own_ne_block HW5.out.cw.own HW5.out.bc (by decide))
  have hmx : Hid (n + 1 ≤ maxLen) := by unfold Hid maxLen; omega
  have hbb : Hid ((n + 1) * 56 ≤ 140737488355328) := by unfold Hid; omega
  have lB5 : Hid (B0 ≤ w5.heap.size) := by unfold Hid; omega
  have hoi := hid HW5.out.cw.own
  clear hG hb5 ho5 b3 HV4 HW4 hml hby hone
  go_upto_region 13 with fail
  go_cut [] (fun wx => ∃ gg cap, Hid (Cw B0 wx y a b c d u e mk (.slice (some ⟨gg, 0, none⟩) (n + 1) cap) (n + 1) (upW F n ⟨x, kd, cl, ca, ys, .slice xa ys.length xc⟩)) ∧ Hid (Only (fun b => b = y ∨ (Value.slice la n lc).ownBlock = some b) w wx) ∧ Hid ((Value.slice la n lc).ownBlock = some gg ∨ w.heap.size ≤ gg) ∧ Hid (wx.heap[w.heap.size + 1]? = some (.cells blank 98 (0, 0))))
  case first =>
    go_region_law
      ((refine step_append_lies _ (by rfl) _ _ _ (by rfl) B0 137 i137 _ 5 56 Tryz.underlying75 j137 t0 t1 t2 rfl (by omega) _ n (row5 F n) (by rfl) ((hoi.out.alloc _).drew)
          ⟨w5.heap.size, 0, none⟩ 1 1 [.int .i64 x, .int .i64 kd, .int .i64 cl, .int .i64 ca, .slice xa ys.length xc] (by rfl) (by rfl) (World.news_of_block (cs := #[.int .i64 x, .int .i64 kd, .int .i64 cl, .int .i64 ca, .slice xa ys.length xc]) (t := 137) (fr := (0, 0)) (heap_alloc_new w5 _)) (by simp [Value.oneCell'])
          (by omega) hmx.out hbb.out (by simp; have := lB5.out; omega) (w5.heap.size + 1) (by simp) ?_; intro gg cap w6 hown6 hgrow hat hlt; have kc := (far (((Bl.refl w5).alloc _).drew) hgrow (o := 7) ly5 nby.out).1.trans k7; have kf := (far (((Bl.refl w5).alloc _).drew) hgrow (o := 7) ly5 nby.out).2.trans g7; have z0 := (far (((Bl.refl w5).alloc _).drew) hgrow (o := 0) lB nbc.out).1.trans p0; have z1 := (far (((Bl.refl w5).alloc _).drew) hgrow (o := 1) lB nbc.out).1.trans p1; have z2 := (far (((Bl.refl w5).alloc _).drew) hgrow (o := 2) lB nbc.out).1.trans p2; have HX6 := hid (And.intro hown6 (And.intro hgrow (And.intro hat hlt))); clear hown6 hgrow hat hlt))
    all_goals (go_wp2_with fail; go_meet)
    all_goals
      obtain ⟨hown6, hgrow, hat, hlt⟩ := HX6.out
      obtain ⟨r1, r2⟩ := HW5.out.cw.push (((Bl.refl w5).alloc _).drew) hgrow ⟨x, kd, cl, ca, ys, .slice xa ys.length xc⟩ (ownsRow_base Ho5.out fun _ _ => Nat.zero_le _) hown6
      refine ⟨gg, cap, r1, (HW5.out.only.mono fun b _ e => .inl e).trans r2, ?_, (r2.block _ lN ?_).trans HW5.out.br⟩
      · rcases hat with e | e
        · exact .inl e
        · exact .inr (by omega)
      · rintro (e | e)
        · omega
        · exact own_ne_block HW5.out.cw.own HW5.out.br (by decide) e
  case rest =>
    obtain ⟨gg, cap, HCw, HO, Hgg, HN⟩ := hcut
    obtain ⟨n0, n1, n2, n3, n4, n5, n6, f0, f1, f2, f3, f4, f5, f6⟩ := blank_row HN.out
    have lN6 : w.heap.size + 1 < wc.heap.size := (Array.getElem?_eq_some_iff.1 HN.out).1
    have Hxn : Hid (∀ b, (Value.slice xa ys.length xc).ownBlock = some b → w.heap.size ≤ b) := fun b hb => Nat.le_trans lWW (Ho5.out.lt b hb).1
    go_wp2
    have Z := Only.set7 (w := wc) (S := fun b => b = w.heap.size + 1) rfl (.int .i64 1) (.int .i64 0) (.int .i64 0) (.int .i64 0) (.int .i64 0) (.int .i64 0) (.slice none 0 0)
    refine bodyPost_ret (v := reply 1 0 0 0 0 0 (.slice none 0 0)) (by simp [results, Tryz.results44, go_sem, reply, n0, n1, n2, n3, n4, n5, n6]) rfl ⟨_, _, rfl, HCw.out.other Z HN.out (by omega), HO.out.trans_new Z (fun n e => by omega), fun b hb => ?_, Hxn.out⟩
    have hb' : gg = b := by simpa [Value.ownBlock] using hb
    rw [← hb']
    exact Hgg.out
end Go.Proofs.YtkgjpfamjedncaaGreat
