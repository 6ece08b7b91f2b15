-- Can a call come behind another? Was a trim that is needed begun?
import Derived.Test.YtnhjmiglegdamaaGreatKGlue1KGlue2KOne0Q
namespace Go.Proofs.YtnhjmiglegdamaaGreat
open Go.RowKit Go.Maps
attribute [local go_sem ↓] Go.wp_at_zero Go.wp_at_succ
abbrev callO (i : Int) (kd po : Int) (vs : ByteArray) (ta : Option Addr) (tn tc : Nat) (be fi wh ad : Int) (ra : Option Addr) (rn rc : Nat) : Obj := .cells #[.int .i64 0, .int .i64 i, .int .i64 kd, .int .i64 po, .string vs, .slice ta tn tc, .int .i64 be, .int .i64 fi, .int .i64 wh, .int .i64 ad, .slice ra rn rc] 60
theorem row11 {w : World} {g : Nat} {v0 v1 v2 v3 v4 v5 v6 v7 v8 v9 v10 : Value} (h : w.heap[g]? = some (.cells #[v0, v1, v2, v3, v4, v5, v6, v7, v8, v9, v10] 60 (0, 0))) : (w.cell? ⟨g, 0, none⟩ = some v0 ∧ w.cell? ⟨g, 1, none⟩ = some v1 ∧ w.cell? ⟨g, 2, none⟩ = some v2 ∧ w.cell? ⟨g, 3, none⟩ = some v3 ∧ w.cell? ⟨g, 4, none⟩ = some v4 ∧ w.cell? ⟨g, 5, none⟩ = some v5 ∧ w.cell? ⟨g, 6, none⟩ = some v6 ∧ w.cell? ⟨g, 7, none⟩ = some v7 ∧ w.cell? ⟨g, 8, none⟩ = some v8 ∧ w.cell? ⟨g, 9, none⟩ = some v9 ∧ w.cell? ⟨g, 10, none⟩ = some v10) ∧ g < w.heap.size :=
  ⟨⟨cell_of_row w g 0 _ 60 (0, 0) h, cell_of_row w g 1 _ 60 (0, 0) h, cell_of_row w g 2 _ 60 (0, 0) h, cell_of_row w g 3 _ 60 (0, 0) h, cell_of_row w g 4 _ 60 (0, 0) h, cell_of_row w g 5 _ 60 (0, 0) h, cell_of_row w g 6 _ 60 (0, 0) h, cell_of_row w g 7 _ 60 (0, 0) h, cell_of_row w g 8 _ 60 (0, 0) h, cell_of_row w g 9 _ 60 (0, 0) h, cell_of_row w g 10 _ 60 (0, 0) h⟩, (Array.getElem?_eq_some_iff.1 h).1⟩
/-- A call with these numbers can come behind the other. -/
structure GoesP (okd opo owh oad : Int) (ovs orv : List Int) (kd po wh ad : Int) : Prop where
  app : kd = 1 → wh = 1 → ¬ ad < trimsP okd opo owh
  trim : kd = 2 ∨ kd = 3 → po < trimsP okd opo owh → wh = 4
  see : kd = 2 ∨ kd = 3 → ¬ po < trimsP okd opo owh → (bindsP okd opo owh oad ovs orv).2.2 = true → (bindsP okd opo owh oad ovs orv).1 = po → wh ≠ 3
set_option maxRecDepth 100000 in
set_option maxHeartbeats 4000000 in
theorem goes_any (oi okd opo obe ofi owh oad : Int) (ovs orv : List Int) (ota : Option Addr) (otn otc : Nat) (ora : Option Addr) (orc : Nat) (i kd po be fi wh ad : Int) (vs rv : List Int) (ta : Option Addr) (tn tc : Nat) (ra : Option Addr) (rc : Nat) (hko : KindOk okd) (hfo : ofi ≠ 0) (hk : KindOk kd) (hf : fi ≠ 0) (hpo : 0 ≤ opo ∧ opo ≤ 1000) (w : World) (hro : Sl w (.slice ora orv.length orc) (orv.map B8)) (hr : Sl w (.slice ra rv.length rc) (rv.map B8)) (hG : GoesP okd opo owh oad ovs orv kd po wh ad) :
    Calls Tryz.prog 64 #[callV oi okd opo (strOf ovs) ota otn otc obe ofi owh oad ora orv.length orc, callV i kd po (strOf vs) ta tn tc be fi wh ad ra rv.length rc] w fun en w' => en = .returned (.bool true) ∧ Bl w w' := by
  obtain ⟨W1, hW1⟩ : ∃ W1, w.alloc (callO oi okd opo (strOf ovs) ota otn otc obe ofi owh oad ora orv.length orc) = W1 := ⟨_, rfl⟩
  obtain ⟨W2, hW2⟩ : ∃ W2, W1.alloc (callO i kd po (strOf vs) ta tn tc be fi wh ad ra rv.length rc) = W2 := ⟨_, rfl⟩
  have b1 : Bl w W1 := by rw [← hW1]; exact (Bl.refl w).alloc _
  have b2 : Bl W1 W2 := by rw [← hW2]; exact (Bl.refl W1).alloc _
  have z1 : W1.heap.size = w.heap.size + 1 := by rw [← hW1]; simp
  have ho1 : W1.heap[w.heap.size]? = some (callO oi okd opo (strOf ovs) ota otn otc obe ofi owh oad ora orv.length orc) := by rw [← hW1]; exact heap_alloc_new w _
  have ho2 := (b2.heap (b := w.heap.size) (by omega)).trans ho1
  have hc2 : W2.heap[w.heap.size + 1]? = some (callO i kd po (strOf vs) ta tn tc be fi wh ad ra rv.length rc) := by rw [← z1, ← hW2]; exact heap_alloc_new W1 _
  have HTo := hid (fun W => trims_any oi okd opo obe ofi owh oad (strOf ovs) ota otn otc ora orv.length orc hko hfo hpo W)
  have HBc := hid (fun W (hb : Bl w W) => binds_any i kd po be fi wh ad vs rv ta tn tc ra rc hk hf W (hr.bl hb))
  have HBo := hid (fun W (hb : Bl w W) => binds_any oi okd opo obe ofi owh oad ovs orv ota otn otc ora orc hko hfo W (hro.bl hb))
  have Hb := hid (b1.trans b2)
  have HO2 := hid ho2
  have HC2 := hid hc2
  have HW1 := hid hW1
  have HW2 := hid hW2
  have HG := hid hG
  obtain ⟨o0, o1, o2, o3, o4, o5, o6, o7, o8, o9, o10⟩ := (row11 ho2).1
  have lo := (row11 ho2).2
  have lc := (row11 hc2).2
  obtain ⟨tr, htr⟩ : ∃ tr, trimsP okd opo owh = tr := ⟨_, rfl⟩
  rw [htr] at HTo
  obtain ⟨bc, hbc⟩ : ∃ bc, bindsP kd po wh ad vs rv = bc := ⟨_, rfl⟩
  obtain ⟨bo, hbo⟩ : ∃ bo, bindsP okd opo owh oad ovs orv = bo := ⟨_, rfl⟩
  rw [hbc] at HBc
  rw [hbo] at HBo
  have Hbc := hid hbc
  have Hbo := hid hbo
  have Htr := hid htr
  clear hbc hbo htr hW1 hW2 b1 b2 z1 ho1 ho2 hc2 hG hro hr
  go_enter Tryz.func64, Tryz.ntmps64
  go_upto_region 1 with fail
  rw [HW1.out, HW2.out]
  clear HW1 HW2
  go_upto_region 2 with (go_at_call 62; refine (HTo.out _).mono ?_; rintro en w3 ⟨rfl, hb3⟩; have hc3 := (hb3.heap lc).trans HC2.out; have ho3 := (hb3.heap lo).trans HO2.out; have HB3 := hid hb3; have HC3 := hid hc3; have HO3 := hid ho3; clear hb3 hc3 ho3)
  clear o0 o1 o2 o3 o4 o5 o6 o7 o8 o9 o10
  obtain ⟨c0, c1, c2, c3, c4, c5, c6, c7, c8, c9, c10⟩ := (row11 HC3.out).1
  have lc3 := (row11 HC3.out).2
  go_upto_region 3 with (go_at_call 60; refine (HBc.out _ (Hb.out.trans HB3.out)).mono ?_; rintro en w4 ⟨rfl, hb4⟩; have hc4 := (hb4.heap lc3).trans HC3.out; have ho4 := (hb4.heap (row11 HO3.out).2).trans HO3.out; have HB4 := hid hb4; have HC4 := hid hc4; have HO4 := hid ho4; clear hb4 hc4 ho4)
  clear c0 c1 c2 c3 c4 c5 c6 c7 c8 c9 c10
  obtain ⟨c0, c1, c2, c3, c4, c5, c6, c7, c8, c9, c10⟩ := (row11 HC4.out).1
  obtain ⟨o0, o1, o2, o3, o4, o5, o6, o7, o8, o9, o10⟩ := (row11 HO4.out).1
  have lc4 := (row11 HC4.out).2
  have lo4 := (row11 HO4.out).2
  have HBl := hid ((Hb.out.trans HB3.out).trans HB4.out)
  have hBo2 := fun W (hb : Bl w4 W) => HBo.out W (HBl.out.trans hb)
  have HBo2 := hid hBo2
  clear hBo2 HBo HBc HTo
  rcases hk with hk | hk | hk | hk
  · subst hk
    by_cases h1 : wh = 1
    · have h2 := HG.out.app rfl h1
      rw [Htr.out] at h2
      have h3 : bc = (ad, vs, true) := by rw [← Hbc.out, h1]; rfl
      subst h3
      go_wp2
      go_ret
      exact ⟨rfl, HBl.out⟩
    · have h3 : bc = (0, [], false) := by rw [← Hbc.out]; unfold bindsP; rw [if_pos rfl, if_neg h1]
      subst h3
      go_wp2
      go_ret
      exact ⟨rfl, HBl.out⟩
  · subst hk
    obtain ⟨bat, bstr, bb⟩ := bc
    cases bb
    · by_cases hlt : po < tr
      · have h4 := HG.out.trim (by decide) (by rw [Htr.out]; exact hlt)
        subst h4
        go_wp2
        go_ret
        exact ⟨rfl, HBl.out⟩
      · have Hs := hid (HG.out.see (by decide) (by rw [Htr.out]; exact hlt))
        go_upto_region 10 with (go_at_call 60; refine (HBo2.out _ (Bl.refl _)).mono ?_; rintro en w5 ⟨rfl, hb5⟩; have hc5 := (hb5.heap lc4).trans HC4.out; have HB5 := hid hb5; have HC5 := hid hc5; clear hb5 hc5)
        clear c0 c1 c2 c3 c4 c5 c6 c7 c8 c9 c10
        obtain ⟨c0, c1, c2, c3, c4, c5, c6, c7, c8, c9, c10⟩ := (row11 HC5.out).1
        have lc5 := (row11 HC5.out).2
        obtain ⟨oat, ostr, ob⟩ := bo
        cases ob
        · go_wp2
          go_ret
          exact ⟨rfl, HBl.out.trans HB5.out⟩
        · by_cases hoe : oat = po
          · have h3 : ¬ wh = 3 := Hs.out (by rw [Hbo.out]) (by rw [Hbo.out]; exact hoe)
            go_wp2
            go_ret
            exact ⟨ret_bool (by simp [h3]), HBl.out.trans HB5.out⟩
          · go_wp2
            go_ret
            exact ⟨rfl, HBl.out.trans HB5.out⟩
    · by_cases hbl : bat < tr
      · by_cases hlt : po < tr
        · have h4 := HG.out.trim (by decide) (by rw [Htr.out]; exact hlt)
          subst h4
          go_wp2
          go_ret
          exact ⟨rfl, HBl.out⟩
        · have Hs := hid (HG.out.see (by decide) (by rw [Htr.out]; exact hlt))
          go_upto_region 10 with (go_at_call 60; refine (HBo2.out _ (Bl.refl _)).mono ?_; rintro en w5 ⟨rfl, hb5⟩; have hc5 := (hb5.heap lc4).trans HC4.out; have HB5 := hid hb5; have HC5 := hid hc5; clear hb5 hc5)
          clear c0 c1 c2 c3 c4 c5 c6 c7 c8 c9 c10
          obtain ⟨c0, c1, c2, c3, c4, c5, c6, c7, c8, c9, c10⟩ := (row11 HC5.out).1
          have lc5 := (row11 HC5.out).2
          obtain ⟨oat, ostr, ob⟩ := bo
          cases ob
          · go_wp2
            go_ret
            exact ⟨rfl, HBl.out.trans HB5.out⟩
          · by_cases hoe : oat = po
            · have h3 : ¬ wh = 3 := Hs.out (by rw [Hbo.out]) (by rw [Hbo.out]; exact hoe)
              go_wp2
              go_ret
              exact ⟨ret_bool (by simp [h3]), HBl.out.trans HB5.out⟩
            · go_wp2
              go_ret
              exact ⟨rfl, HBl.out.trans HB5.out⟩
      · by_cases hlt : po < tr
        · have h4 := HG.out.trim (by decide) (by rw [Htr.out]; exact hlt)
          subst h4
          go_wp2
          go_ret
          exact ⟨rfl, HBl.out⟩
        · have Hs := hid (HG.out.see (by decide) (by rw [Htr.out]; exact hlt))
          go_upto_region 10 with (go_at_call 60; refine (HBo2.out _ (Bl.refl _)).mono ?_; rintro en w5 ⟨rfl, hb5⟩; have hc5 := (hb5.heap lc4).trans HC4.out; have HB5 := hid hb5; have HC5 := hid hc5; clear hb5 hc5)
          clear c0 c1 c2 c3 c4 c5 c6 c7 c8 c9 c10
          obtain ⟨c0, c1, c2, c3, c4, c5, c6, c7, c8, c9, c10⟩ := (row11 HC5.out).1
          have lc5 := (row11 HC5.out).2
          obtain ⟨oat, ostr, ob⟩ := bo
          cases ob
          · go_wp2
            go_ret
            exact ⟨rfl, HBl.out.trans HB5.out⟩
          · by_cases hoe : oat = po
            · have h3 : ¬ wh = 3 := Hs.out (by rw [Hbo.out]) (by rw [Hbo.out]; exact hoe)
              go_wp2
              go_ret
              exact ⟨ret_bool (by simp [h3]), HBl.out.trans HB5.out⟩
            · go_wp2
              go_ret
              exact ⟨rfl, HBl.out.trans HB5.out⟩
  · subst hk
    obtain ⟨bat, bstr, bb⟩ := bc
    cases bb
    · by_cases hlt : po < tr
      · have h4 := HG.out.trim (by decide) (by rw [Htr.out]; exact hlt)
        subst h4
        go_wp2
        go_ret
        exact ⟨rfl, HBl.out⟩
      · have Hs := hid (HG.out.see (by decide) (by rw [Htr.out]; exact hlt))
        go_upto_region 10 with (go_at_call 60; refine (HBo2.out _ (Bl.refl _)).mono ?_; rintro en w5 ⟨rfl, hb5⟩; have hc5 := (hb5.heap lc4).trans HC4.out; have HB5 := hid hb5; have HC5 := hid hc5; clear hb5 hc5)
        clear c0 c1 c2 c3 c4 c5 c6 c7 c8 c9 c10
        obtain ⟨c0, c1, c2, c3, c4, c5, c6, c7, c8, c9, c10⟩ := (row11 HC5.out).1
        have lc5 := (row11 HC5.out).2
        obtain ⟨oat, ostr, ob⟩ := bo
        cases ob
        · go_wp2
          go_ret
          exact ⟨rfl, HBl.out.trans HB5.out⟩
        · by_cases hoe : oat = po
          · have h3 : ¬ wh = 3 := Hs.out (by rw [Hbo.out]) (by rw [Hbo.out]; exact hoe)
            go_wp2
            go_ret
            exact ⟨ret_bool (by simp [h3]), HBl.out.trans HB5.out⟩
          · go_wp2
            go_ret
            exact ⟨rfl, HBl.out.trans HB5.out⟩
    · by_cases hbl : bat < tr
      · by_cases hlt : po < tr
        · have h4 := HG.out.trim (by decide) (by rw [Htr.out]; exact hlt)
          subst h4
          go_wp2
          go_ret
          exact ⟨rfl, HBl.out⟩
        · have Hs := hid (HG.out.see (by decide) (by rw [Htr.out]; exact hlt))
          go_upto_region 10 with (go_at_call 60; refine (HBo2.out _ (Bl.refl _)).mono ?_; rintro en w5 ⟨rfl, hb5⟩; have hc5 := (hb5.heap lc4).trans HC4.out; have HB5 := hid hb5; have HC5 := hid hc5; clear hb5 hc5)
          clear c0 c1 c2 c3 c4 c5 c6 c7 c8 c9 c10
          obtain ⟨c0, c1, c2, c3, c4, c5, c6, c7, c8, c9, c10⟩ := (row11 HC5.out).1
          have lc5 := (row11 HC5.out).2
          obtain ⟨oat, ostr, ob⟩ := bo
          cases ob
          · go_wp2
            go_ret
            exact ⟨rfl, HBl.out.trans HB5.out⟩
          · by_cases hoe : oat = po
            · have h3 : ¬ wh = 3 := Hs.out (by rw [Hbo.out]) (by rw [Hbo.out]; exact hoe)
              go_wp2
              go_ret
              exact ⟨ret_bool (by simp [h3]), HBl.out.trans HB5.out⟩
            · go_wp2
              go_ret
              exact ⟨rfl, HBl.out.trans HB5.out⟩
      · by_cases hlt : po < tr
        · have h4 := HG.out.trim (by decide) (by rw [Htr.out]; exact hlt)
          subst h4
          go_wp2
          go_ret
          exact ⟨rfl, HBl.out⟩
        · have Hs := hid (HG.out.see (by decide) (by rw [Htr.out]; exact hlt))
          go_upto_region 10 with (go_at_call 60; refine (HBo2.out _ (Bl.refl _)).mono ?_; rintro en w5 ⟨rfl, hb5⟩; have hc5 := (hb5.heap lc4).trans HC4.out; have HB5 := hid hb5; have HC5 := hid hc5; clear hb5 hc5)
          clear c0 c1 c2 c3 c4 c5 c6 c7 c8 c9 c10
          obtain ⟨c0, c1, c2, c3, c4, c5, c6, c7, c8, c9, c10⟩ := (row11 HC5.out).1
          have lc5 := (row11 HC5.out).2
          obtain ⟨oat, ostr, ob⟩ := bo
          cases ob
          · go_wp2
            go_ret
            exact ⟨rfl, HBl.out.trans HB5.out⟩
          · by_cases hoe : oat = po
            · have h3 : ¬ wh = 3 := Hs.out (by rw [Hbo.out]) (by rw [Hbo.out]; exact hoe)
              go_wp2
              go_ret
              exact ⟨ret_bool (by simp [h3]), HBl.out.trans HB5.out⟩
            · go_wp2
              go_ret
              exact ⟨rfl, HBl.out.trans HB5.out⟩
  · subst hk
    obtain ⟨bat, bstr, bb⟩ := bc
    cases bb
    · go_wp2
      go_ret
      exact ⟨rfl, HBl.out⟩
    · by_cases hbl : bat < tr
      · go_wp2
        go_ret
        exact ⟨rfl, HBl.out⟩
      · go_wp2
        go_ret
        exact ⟨rfl, HBl.out⟩
end Go.Proofs.YtnhjmiglegdamaaGreat
