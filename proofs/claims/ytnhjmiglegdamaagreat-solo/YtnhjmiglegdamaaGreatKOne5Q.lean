-- Can all calls be those of one log?
import Derived.Test.YtnhjmiglegdamaaGreatKOnePKGlue3Q
import Derived.Test.YtnhjmiglegdamaaGreatKOne3Q
import Derived.Test.YtnhjmiglegdamaaGreatKOne4Q
import Derived.Deep.DeepCutAuto
namespace Go.Proofs.YtnhjmiglegdamaaGreat
open Go.RowKit Go.Maps
attribute [local go_sem ↓] Go.wp_at_zero Go.wp_at_succ
section
variable {w : World} {tag : Nat → Nat} {g p q n m v : Nat} {ce : Int} {K : KW} {pv av lv cv hv : Value} {ps cs ls : List Value}
abbrev cV (i : Int) (c : PK) (ta : Option Addr) (tc : Nat) (ra : Option Addr) (rc : Nat) : Value := callV i c.kind c.pos (strOf c.value) ta c.tokens.length tc c.beg c.fin c.r.wh c.r.ad ra c.r.val.length rc
theorem one_fits (h : WdX w tag g p q n m v ce K pv av lv cv hv ps cs ls) (hf : fit n m v ce = true) {c : PK} (hA : FitA (n * ce) c) (hB : FitB c) (i : Int) (ta : Option Addr) (tc : Nat) (ra : Option Addr) (rc : Nat) (htk : w.ownsRow 0 3 1 (.slice ta c.tokens.length tc) c.tokens.length (c.tokens.map (Value.int .i64))) :
    Calls Tryz.prog 59 #[.pointer (some ⟨g, 0, none⟩), cV i c ta tc ra rc] w fun en w' => en = .returned (.bool true) ∧ Bl w w' := by
  unfold cV
  by_cases k1 : c.kind = 1
  · obtain ⟨e1, e2, e3⟩ := hA k1
    rw [k1, e1]
    exact fitsA_any h hf i c.pos c.beg c.fin c.r.wh c.r.ad _ ta tc c.tokens ra rc htk e2 e3
  · obtain ⟨e1, e2, e3⟩ := hB k1
    rw [e1]
    exact fits_any w g i c.kind c.pos c.beg c.fin c.r.wh _ ta _ tc ra _ rc e3 (by rcases e2 with e | e; exact .inl (by rw [e]; rfl); exact .inr e)
theorem one_made (h : WdX w tag g p q n m v ce K pv av lv cv hv ps cs ls) (hl : K.calls.length ≤ 1000) {T : Int} (hO : OneOk T K.calls) {c : PK} (hc : c ∈ K.calls) {a : Int} {vv : List Int} (hb : bd c = (a, vv, true)) (i : Int) (ta : Option Addr) (tc : Nat) (ra : Option Addr) (rc : Nat) :
    Calls Tryz.prog 61 #[.pointer (some ⟨g, 0, none⟩), cV i c ta tc ra rc, .int .i64 a, .string (strOf vv)] w fun en w' => en = .returned (.bool true) ∧ Bl w w' := by
  unfold cV
  by_cases hv : vv = []
  · subst hv
    obtain ⟨j, o, p1, p2, p3, p4⟩ := hO.junk c hc a hb
    exact madeJunk_any h hl i c.kind c.pos c.beg c.fin c.r.wh c.r.ad _ ta _ tc ra _ rc p1 a p2 p3 p4
  · obtain ⟨j, o, p1, p2, p3, p4, p5, p6, p7⟩ := hO.mad c hc a vv hv hb
    have hom := List.mem_of_getElem? p1
    exact madeVal_any h hl i c.kind c.pos c.beg c.fin c.r.wh c.r.ad _ ta _ tc ra _ rc p1 a vv hv (by rw [← p3]; exact (hO.byt o hom).1) (fun k c' hk => (hO.byt c' (List.mem_of_getElem? hk)).1) (fun k c' hk e1 e2 => hO.uq k j c' o hk p1 e1 p2 (by rw [e2, p3])) p2 p3 p4 p5 p6 p7 (hO.k o hom).2.1 (hO.fitA o hom p2).2.1
theorem str_ne {xs ys : List Int} (hx : ∀ d ∈ xs, 0 ≤ d ∧ d ≤ 255) (hy : ∀ d ∈ ys, 0 ≤ d ∧ d ≤ 255) (h : xs ≠ ys) : ¬ (strOf xs).toList = (strOf ys).toList ∧ ((strOf xs).toList == (strOf ys).toList) = false ∧ ¬ strOf xs = strOf ys := by
  have h1 : ¬ (strOf xs).toList = (strOf ys).toList := fun e => h (strOf_inj hx hy e)
  exact ⟨h1, by simpa using h1, fun e => h1 (by rw [e])⟩
theorem bd_byt {c : PK} (h : (∀ d ∈ c.value, 0 ≤ d ∧ d ≤ 255) ∧ (∀ d ∈ c.r.val, 0 ≤ d ∧ d ≤ 255)) : ∀ d ∈ (bd c).2.1, 0 ≤ d ∧ d ≤ 255 := by
  unfold bd bindsP
  split
  · split
    · exact h.1
    · intro d hd; simp at hd
  · split
    · split
      · exact h.2
      · split <;> (intro d hd; simp at hd)
    · intro d hd; simp at hd
set_option maxRecDepth 100000 in
set_option maxHeartbeats 16000000 in
theorem one_any (h : WdX w tag g p q n m v ce K pv av lv cv hv ps cs ls) (hf : fit n m v ce = true) (hl : K.calls.length ≤ 1000) (hO : OneOk (n * ce) K.calls) :
    Calls Tryz.prog 32 #[.pointer (some ⟨g, 0, none⟩)] w fun en w' => en = .returned (.bool true) ∧ Bl w w' := by
  obtain ⟨ca, cc, rfl⟩ := h.ca.row.shape
  have H := hid (And.intro h hf)
  have HOk := hid hO
  clear h hf hO
  go_enter Tryz.func32, Tryz.ntmps32
  go_wp2
  go_loopw [3] (fun x wr => ∃ k : Nat, k ≤ K.calls.length ∧ x = .int .i64 k ∧ Hid (Bl w wr)) (fun x _ => K.calls.length - (Go.RowKit.intOf x).toNat)
  case atStart => exact ⟨0, Nat.zero_le _, rfl, Bl.refl _⟩
  case round =>
    obtain ⟨k, hkl, rfl, HB⟩ := hrel
    have hX := H.out.1.bl (tag' := tag) HB.out fun _ _ => rfl
    have c7 := hX.cellAt 7 rfl
    have lgr := hX.lt
    by_cases hlt : k < K.calls.length
    · have hltI : (k : Int) < (K.calls.length : Int) := by omega
      obtain ⟨c, hc⟩ : ∃ c, K.calls[k]? = some c := ⟨_, List.getElem?_eq_getElem hlt⟩
      have hcm := List.mem_of_getElem? hc
      obtain ⟨cb, ta, tc, ra, rc, rfl, lcb, d0, d1, d2, d3, d4, d5, d6, d7, d8, d9, d10, htk, hrv⟩ := hX.ca.cells hc
      obtain ⟨a, vv, bb, hbc⟩ : ∃ a vv bb, bd c = (a, vv, bb) := ⟨_, _, _, rfl⟩
      have hKc := HOk.out.k c hcm
      have hkind := hKc.1
      have HFit : Hid (∀ W, Bl wr W → Calls Tryz.prog 59 #[.pointer (some ⟨g, 0, none⟩), cV k c ta tc ra rc] W fun en w' => en = .returned (.bool true) ∧ Bl W w') := fun W hb => one_fits (H.out.1.bl (tag' := tag) (HB.out.trans hb) fun _ _ => rfl) H.out.2 (HOk.out.fitA c hcm) (HOk.out.fitB c hcm) k ta tc ra rc ((Only.of_bl (S := fun _ => False) hb).owns htk fun _ _ e => e)
      have HBin : Hid (∀ W, Bl wr W → Calls Tryz.prog 60 #[cV k c ta tc ra rc] W fun en w' => en = .returned (.tuple #[.int .i64 a, .string (strOf vv), .bool bb]) ∧ Bl W w') := fun W hb => by
        have e := binds_any k c.kind c.pos c.beg c.fin c.r.wh c.r.ad c.value c.r.val ta c.tokens.length tc ra rc hKc.1 hKc.2.1 W (hrv.bl hb)
        rw [show bindsP c.kind c.pos c.r.wh c.r.ad c.value c.r.val = bd c from rfl, hbc] at e
        exact e
      have HMad : Hid (bb = true → ∀ W, Bl wr W → Calls Tryz.prog 61 #[.pointer (some ⟨g, 0, none⟩), cV k c ta tc ra rc, .int .i64 a, .string (strOf vv)] W fun en w' => en = .returned (.bool true) ∧ Bl W w') := fun hb1 W hb => one_made (H.out.1.bl (tag' := tag) (HB.out.trans hb) fun _ _ => rfl) hl HOk.out hcm (by rw [hbc, hb1]) k ta tc ra rc
      have HTri : Hid (∀ W, Calls Tryz.prog 62 #[cV k c ta tc ra rc] W fun en w' => en = .returned (.int .i64 (trB c)) ∧ Bl W w') := fun W => trims_any k c.kind c.pos c.beg c.fin c.r.wh c.r.ad _ ta _ tc ra _ rc hKc.1 hKc.2.1 hKc.2.2 W
      have HTby : Hid (c.kind ≠ 4 → trB c ≠ 0 → ∀ W, Bl wr W → Calls Tryz.prog 63 #[.pointer (some ⟨g, 0, none⟩), cV k c ta tc ra rc] W fun en w' => en = .returned (.bool true) ∧ Bl W w') := fun e1 e2 W hb => by
        obtain ⟨j, o, p1, p2, p3, p4⟩ := HOk.out.trm c hcm e1 e2
        exact trimmedBy_any (H.out.1.bl (tag' := tag) (HB.out.trans hb) fun _ _ => rfl) hl k c.kind c.pos c.beg c.fin c.r.wh c.r.ad _ ta _ tc ra _ rc p1 p2 p3 p4
      have Hrv := hid hrv
      have Hbc := hid hbc
      have Hc := hid (And.intro hc hKc)
      have hfin : ¬ c.fin = 0 := hKc.2.1
      obtain ⟨O, hO⟩ : ∃ O, Obj.cells #[Value.int .i64 0, .int .i64 k, .int .i64 c.kind, .int .i64 c.pos, .string (strOf c.value), .slice ta c.tokens.length tc, .int .i64 c.beg, .int .i64 c.fin, .int .i64 c.r.wh, .int .i64 c.r.ad, .slice ra c.r.val.length rc] 60 = O := ⟨_, rfl⟩
      obtain ⟨W5, hW5⟩ : ∃ W5, wr.alloc O = W5 := ⟨_, rfl⟩
      have bA := (Bl.refl wr).alloc O
      have hbox := heap_alloc_new wr O
      rw [hW5] at bA hbox
      rw [← hO] at hbox
      have HO := hid hO
      have HW5 := hid hW5
      have HBA := hid bA
      have Hbox := hid hbox
      clear hX hbox hO hW5 bA hc hcm hKc hkind htk hrv hbc
      go_upto_region 5 with fail
      rw [HO.out, HW5.out]
      clear HO HW5 d0 d1 d2 d3 d4 d5 d6 d7 d8 d9 d10 c7
      obtain ⟨⟨z0, z1, z2, z3, z4, z5, z6, z7, z8, z9, z10⟩, lbx⟩ := row11 Hbox.out
      go_wp2_with fail
      refine (HFit.out _ HBA.out).mono ?_
      rintro en w6 ⟨rfl, hb6⟩
      have Hbox6 := hid ((hb6.heap lbx).trans Hbox.out)
      have HB6 := hid (HBA.out.trans hb6)
      clear hb6 z0 z1 z2 z3 z4 z5 z6 z7 z8 z9 z10
      obtain ⟨⟨z0, z1, z2, z3, z4, z5, z6, z7, z8, z9, z10⟩, lbx6⟩ := row11 Hbox6.out
      go_wp2_with fail
      refine (HBin.out _ HB6.out).mono ?_
      rintro en w7 ⟨rfl, hb7⟩
      have Hbox7 := hid ((hb7.heap lbx6).trans Hbox6.out)
      have HB7 := hid (HB6.out.trans hb7)
      clear hb7 z0 z1 z2 z3 z4 z5 z6 z7 z8 z9 z10 lbx6
      obtain ⟨⟨z0, z1, z2, z3, z4, z5, z6, z7, z8, z9, z10⟩, lbx7⟩ := row11 Hbox7.out
      go_upto_region 8 with fail
      go_cut [9] from 45 to 164 (fun x wx => x = .bool true ∧ Hid (Bl w7 wx))
      case first =>
        cases bb
        · go_wp2_with fail
          go_meet
          exact ⟨rfl, Bl.refl _⟩
        · have HM2 := hid (HMad.out rfl)
          clear HMad
          go_wp2_with fail
          refine (HM2.out _ HB7.out).mono ?_
          rintro en w8 ⟨rfl, hb8⟩
          go_wp2_with fail
          go_meet
          exact ⟨rfl, hb8⟩
      case rest =>
        obtain ⟨rfl, HB8⟩ := hcut
        obtain ⟨W8, rfl⟩ : ∃ W8, W8 = wc := ⟨_, rfl⟩
        have Hbox8 := hid ((HB8.out.heap lbx7).trans Hbox7.out)
        clear z0 z1 z2 z3 z4 z5 z6 z7 z8 z9 z10 lbx7
        obtain ⟨⟨z0, z1, z2, z3, z4, z5, z6, z7, z8, z9, z10⟩, lbx8⟩ := row11 Hbox8.out
        go_upto_region 9 with fail
        go_cut [10] from 54 to 164 (fun x wx => x = .bool true ∧ Hid (Bl W8 wx))
        case first =>
          by_cases k4 : c.kind = 4
          · rw [k4] at z2
            go_wp2_with fail
            go_meet
            exact ⟨rfl, Bl.refl _⟩
          · go_wp2_with fail
            refine (HTri.out _).mono ?_
            rintro en w9 ⟨rfl, hb9⟩
            by_cases t0 : trB c = 0
            · rw [t0]
              have HB9 := hid hb9
              clear hb9
              go_wp2_with fail
              go_meet
              exact ⟨rfl, HB9.out⟩
            · have HT2 := hid (HTby.out k4 t0)
              obtain ⟨tt, htt⟩ : ∃ tt, trB c = tt := ⟨_, rfl⟩
              rw [htt] at t0 ⊢
              clear htt
              have Hbox9 := hid ((hb9.heap lbx8).trans Hbox8.out)
              clear z0 z1 z2 z3 z4 z5 z6 z7 z8 z9 z10
              obtain ⟨⟨z0, z1, z2, z3, z4, z5, z6, z7, z8, z9, z10⟩, lbx9⟩ := row11 Hbox9.out
              have HB9 := hid hb9
              clear hb9
              go_wp2_with fail
              refine (HT2.out _ ((HB7.out.trans HB8.out).trans HB9.out)).mono ?_
              rintro en w10 ⟨rfl, hb10⟩
              have HB10 := hid (HB9.out.trans hb10)
              clear hb10
              go_wp2_with fail
              go_meet
              exact ⟨rfl, HB10.out⟩
        case rest =>
          obtain ⟨rfl, HB9⟩ := hcut
          obtain ⟨W9, rfl⟩ : ∃ W9, W9 = wc := ⟨_, rfl⟩
          have Hbox9 := hid ((HB9.out.heap lbx8).trans Hbox8.out)
          have HBw9 := hid (HB.out.trans ((HB7.out.trans HB8.out).trans HB9.out))
          have HBr9 := hid ((HB7.out.trans HB8.out).trans HB9.out)
          clear z0 z1 z2 z3 z4 z5 z6 z7 z8 z9 z10 lbx8 HMad HTri HTby HFit HBin Hbox Hbox6 Hbox7 Hbox8 HBA HB6 HB7 HB8 HB9 lbx lgr lcb
          go_wp2
          go_loopw [11] (fun x wx => ∃ j : Nat, j ≤ K.calls.length ∧ x = .int .i64 j ∧ Hid (Bl W9 wx)) (fun x _ => K.calls.length - (Go.RowKit.intOf x).toNat)
          case atStart => exact ⟨0, Nat.zero_le _, rfl, Bl.refl _⟩
          case round =>
            obtain ⟨j, hjl, rfl, HBj⟩ := hrel
            have hX := H.out.1.bl (tag' := tag) (HBw9.out.trans HBj.out) fun _ _ => rfl
            have c7 := hX.cellAt 7 rfl
            have lgr := hX.lt
            by_cases hjt : j < K.calls.length
            · have hjtI : (j : Int) < (K.calls.length : Int) := by omega
              obtain ⟨o, ho⟩ : ∃ o, K.calls[j]? = some o := ⟨_, List.getElem?_eq_getElem hjt⟩
              have hom := List.mem_of_getElem? ho
              obtain ⟨cb', ta', tc', ra', rc', ecb, lcb, d0, d1, d2, d3, d4, d5, d6, d7, d8, d9, d10, _, hrv'⟩ := hX.ca.cells ho
              simp only [Option.some.injEq, Addr.mk.injEq, and_true] at ecb
              subst ecb
              obtain ⟨oa, ov, ob, hbo⟩ : ∃ a vv bb, bd o = (a, vv, bb) := ⟨_, _, _, rfl⟩
              have hKo := HOk.out.k o hom
              have hofin : ¬ o.fin = 0 := hKo.2.1
              have HBo : Hid (∀ W, Bl wr W → Calls Tryz.prog 60 #[cV j o ta' tc' ra' rc'] W fun en w' => en = .returned (.tuple #[.int .i64 oa, .string (strOf ov), .bool ob]) ∧ Bl W w') := fun W hb => by
                have e := binds_any j o.kind o.pos o.beg o.fin o.r.wh o.r.ad o.value o.r.val ta' o.tokens.length tc' ra' rc' hKo.1 hKo.2.1 W (hrv'.bl hb)
                rw [show bindsP o.kind o.pos o.r.wh o.r.ad o.value o.r.val = bd o from rfl, hbo] at e
                exact e
              have HGo : Hid (o.fin < c.beg → ∀ W, Bl wr W → Calls Tryz.prog 64 #[cV j o ta' tc' ra' rc', cV k c ta tc ra rc] W fun en w' => en = .returned (.bool true) ∧ Bl W w') := fun e W hb => goes_any j o.kind o.pos o.beg o.fin o.r.wh o.r.ad o.value o.r.val ta' o.tokens.length tc' ra' rc' k c.kind c.pos c.beg c.fin c.r.wh c.r.ad c.value c.r.val ta c.tokens.length tc ra rc hKo.1 hKo.2.1 Hc.out.2.1 Hc.out.2.2.1 hKo.2.2 W (hrv'.bl hb) (Hrv.out.bl ((HBr9.out.trans HBj.out).trans hb)) (HOk.out.goes k j c o Hc.out.1 ho e)
              have HTwo : Hid (j ≠ k → bb = true → ob = true → ((a = oa → vv = ov) ∧ (vv ≠ [] → vv = ov → a = oa)) ∧ ¬ (c.kind = 1 ∧ o.kind = 1 ∧ a = oa)) := fun e1 e2 e3 => by
                have e := HOk.out.two k j c o Hc.out.1 ho (fun e => e1 e.symm) (by rw [Hbc.out]; exact e2) (by rw [hbo]; exact e3)
                rw [Hbc.out, hbo] at e
                exact e
              have HNe : Hid (vv ≠ ov → ¬ (strOf vv).toList = (strOf ov).toList ∧ ((strOf vv).toList == (strOf ov).toList) = false ∧ ¬ strOf vv = strOf ov) := fun e => by
                have e1 := bd_byt (HOk.out.byt c (List.mem_of_getElem? Hc.out.1))
                have e2 := bd_byt (HOk.out.byt o hom)
                rw [Hbc.out] at e1
                rw [hbo] at e2
                exact str_ne e1 e2 e
              obtain ⟨O2, hO2⟩ : ∃ O, Obj.cells #[Value.int .i64 0, .int .i64 j, .int .i64 o.kind, .int .i64 o.pos, .string (strOf o.value), .slice ta' o.tokens.length tc', .int .i64 o.beg, .int .i64 o.fin, .int .i64 o.r.wh, .int .i64 o.r.ad, .slice ra' o.r.val.length rc'] 60 = O := ⟨_, rfl⟩
              obtain ⟨W11, hW11⟩ : ∃ W5, wr.alloc O2 = W5 := ⟨_, rfl⟩
              have bA := (Bl.refl wr).alloc O2
              have hbox := heap_alloc_new wr O2
              rw [hW11] at bA hbox
              rw [← hO2] at hbox
              have HO2 := hid hO2
              have HW11 := hid hW11
              have HBA := hid bA
              have Hbx2 := hid hbox
              have l9 := (row11 Hbox9.out).2
              have Hbx1 := hid (((HBj.out.trans bA).heap l9).trans Hbox9.out)
              clear hX hbox hO2 hW11 bA ho hom hKo hrv' hbo l9
              go_upto_region 16 with fail
              rw [HO2.out, HW11.out]
              clear HO2 HW11 d0 d1 d2 d3 d4 d5 d6 d7 d8 d9 d10 c7
              obtain ⟨⟨y0, y1, y2, y3, y4, y5, y6, y7, y8, y9, y10⟩, ly⟩ := row11 Hbx2.out
              have lz := (row11 Hbx1.out).2
              go_wp2_with fail
              refine (HBo.out _ HBA.out).mono ?_
              rintro en w12 ⟨rfl, hb12⟩
              have Hb1 := hid ((hb12.heap lz).trans Hbx1.out)
              have Hb2 := hid ((hb12.heap ly).trans Hbx2.out)
              have HB12 := hid (HBA.out.trans hb12)
              clear hb12 y0 y1 y2 y3 y4 y5 y6 y7 y8 y9 y10 ly lz Hbx1 Hbx2
              obtain ⟨⟨y0, y1, y2, y3, y4, y5, y6, y7, y8, y9, y10⟩, ly⟩ := row11 Hb2.out
              obtain ⟨⟨z0, z1, z2, z3, z4, z5, z6, z7, z8, z9, z10⟩, lz⟩ := row11 Hb1.out
              go_upto_region 17 with fail
              go_cut [125] from 99 to 125 (fun x wx => x = .bool false ∧ Hid (wx = w12))
              case first =>
                by_cases hjk : j = k
                · have hjkI : (j : Int) = (k : Int) := by omega
                  go_wp2_with fail
                  go_meet
                  exact ⟨rfl, rfl⟩
                · have hjkI : ¬ (j : Int) = (k : Int) := by omega
                  cases bb
                  · go_wp2_with fail
                    go_meet
                    exact ⟨rfl, rfl⟩
                  · cases ob
                    · go_wp2_with fail
                      go_meet
                      exact ⟨rfl, rfl⟩
                    · have Ht := hid (HTwo.out hjk rfl rfl)
                      by_cases hao : a = oa
                      · have hvv := Ht.out.1.1 hao
                        subst hao
                        subst hvv
                        go_wp2_with fail
                        go_meet
                        exact ⟨rfl, rfl⟩
                      · by_cases hvv : vv = ov
                        · have hv0 : vv = [] := Classical.byContradiction fun e => hao (Ht.out.1.2 e hvv)
                          subst hvv
                          subst hv0
                          have hse : (strOf []).toList.isEmpty = true := by rw [Go.ByteArray.toList_eq, strOf_list]; rfl
                          have Hse := hid hse
                          clear hse
                          go_wp2_with fail
                          go_meet
                          exact ⟨by simp [Hse.out, hao], rfl⟩
                        · obtain ⟨n1, n2, n3⟩ := HNe.out hvv
                          generalize strOf vv = s1 at *
                          generalize strOf ov = s2 at *
                          go_wp2_with fail
                          go_meet
                          exact ⟨rfl, rfl⟩
              case rest =>
                obtain ⟨rfl, hw⟩ := hcut
                have hw' := hw.out.symm
                subst hw'
                go_upto_region 19 with fail
                go_cut [149] from 126 to 149 (fun x wx => x = .bool false ∧ Hid (wx = w12))
                case first =>
                  by_cases hjk : j = k
                  · have hjkB : ((j : Int) != (k : Int)) = false := by simp; omega
                    clear hjk
                    go_wp2_with fail
                    go_meet
                    exact ⟨rfl, rfl⟩
                  · have hjkI : ¬ (j : Int) = (k : Int) := by omega
                    by_cases k1 : c.kind = 1
                    · by_cases k2 : o.kind = 1
                      · have Ht := hid (HTwo.out hjk)
                        rw [k1] at z2
                        rw [k2] at y2
                        have Hk := hid (And.intro k1 k2)
                        clear k1 k2
                        cases bb
                        · go_wp2_with fail
                          go_meet
                          exact ⟨rfl, rfl⟩
                        · cases ob
                          · go_wp2_with fail
                            go_meet
                            exact ⟨rfl, rfl⟩
                          · have hao : ¬ a = oa := fun e => (Ht.out rfl rfl).2 ⟨Hk.out.1, Hk.out.2, e⟩
                            go_wp2_with fail
                            go_meet
                            exact ⟨by simp [hao], rfl⟩
                      · rw [k1] at z2
                        clear k1
                        go_wp2_with fail
                        go_meet
                        exact ⟨rfl, rfl⟩
                    · go_wp2_with fail
                      go_meet
                      exact ⟨rfl, rfl⟩
                case rest =>
                  obtain ⟨rfl, hw⟩ := hcut
                  have hw' := hw.out.symm
                  subst hw'
                  by_cases hfb : o.fin < c.beg
                  · have HG2 := hid (HGo.out hfb)
                    go_wp2_with fail
                    refine (HG2.out _ HB12.out).mono ?_
                    rintro en w13 ⟨rfl, hb13⟩
                    have HBf := hid (HBj.out.trans (HB12.out.trans hb13))
                    clear hb13
                    go_wp2
                    exact ⟨⟨j + 1, by omega, by go_num, HBf⟩, by simp [Go.RowKit.intOf]; omega⟩
                  · have HBf := hid (HBj.out.trans HB12.out)
                    go_wp2
                    exact ⟨⟨j + 1, by omega, by go_num, HBf⟩, by simp [Go.RowKit.intOf]; omega⟩
            · have hjge : ¬ ((j : Int) < (K.calls.length : Int)) := by omega
              have HBf := hid (HBw9.out.trans HBj.out)
              clear hX
              go_wp2
              exact ⟨⟨k + 1, by omega, by go_num, HBf⟩, by simp [Go.RowKit.intOf]; omega⟩
    · have hge : ¬ ((k : Int) < (K.calls.length : Int)) := by omega
      clear hX
      go_wp2
      go_ret
      exact ⟨rfl, HB.out⟩
end
end Go.Proofs.YtnhjmiglegdamaaGreat
