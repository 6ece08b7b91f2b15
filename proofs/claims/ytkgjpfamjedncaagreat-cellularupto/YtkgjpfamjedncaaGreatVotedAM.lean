-- A voter of the script is asked to vote.
import Derived.Test.YtkgjpfamjedncaaGreatCellHFrAccByte4AgainC
namespace Go.Proofs.YtkgjpfamjedncaaGreat
open Go.RowKit Go.Maps
attribute [local go_sem ↓] Go.wp_at_zero Go.wp_at_succ

/-- What was lent, with its mark. -/
structure Ln (w0 w : World) (tag : Nat → Nat) (r : Value) (ss : List Int) : Prop where
  lent : LentB 0 w r ss
  mark : ∀ b, r.ownBlock = some b → tag b = 5 ∧ w0.heap.size ≤ b
theorem Ln.only {T : Nat → Prop} {w0 w w' : World} {tag tag' : Nat → Nat} {r : Value} {ss : List Int} (h : Ln w0 w tag r ss) (ho : Only T w w') (hs : ∀ b, b < w.heap.size → T b → tag b ≠ 5) (ht : ∀ b, b < w.heap.size → tag' b = tag b) : Ln w0 w' tag' r ss :=
  ⟨h.lent.only ho fun b hb e => hs b (h.lent.lt b hb).2 e (h.mark b hb).1, fun b hb => by rw [ht b (h.lent.lt b hb).2]; exact h.mark b hb⟩
theorem Ln.bl {w0 w w' : World} {tag : Nat → Nat} {r : Value} {ss : List Int} (h : Ln w0 w tag r ss) (hb : Bl w w') (t : Nat) : Ln w0 w' (tagTo tag w.heap.size t) r ss :=
  h.only (Only.of_bl (S := fun _ => False) hb) (fun _ _ e => e.elim) (fun _ hb => tagTo_old _ _ _ _ hb)
theorem Ln.new {w0 w w' : World} {tag : Nat → Nat} {r : Value} {ss : List Int} (h : LentB w.heap.size w' r ss) (hl : w0.heap.size ≤ w.heap.size) : Ln w0 w' (tagTo tag w.heap.size 5) r ss := by
  refine ⟨?_, fun b hb => ?_⟩
  · rcases h with h | ⟨g, rfl, h⟩
    · exact .inl h
    · exact .inr ⟨g, rfl, ownsRow_base h fun _ _ => Nat.zero_le _⟩
  · have := (h.lt b hb).1
    exact ⟨tagTo_new _ _ _ _ this, by omega⟩

set_option maxRecDepth 100000 in
set_option maxHeartbeats 4000000 in
theorem votedAcc_any (bw j q : Nat) (kl vl : Value) (nb m nn : Nat) (rs : List Rc) (S : Nat → Int → Ep) (tag : Nat → Nat) (a b c q1 q2 q3 q4 : Int) (la : Option Addr) (ln lc : Nat) (ua : Option Addr) (un uc : Nat) (ss : List Int) (t1 t2 t3 : Int) (va : Option Addr) (vn vc : Nat) (w : World)
    (hB : Bt w tag bw kl vl nb w.heap.size) (hO : Ob 0 w tag j q rs S m nn) (hl : (flat rs).length + ss.length ≤ 29000000) (hnb : nb + 1 < 4000000) (hm : m ≤ 4000000) (hnn : nn + 1 < 4000000) (hn : rs.length ≤ 30000000) (hbw : (Lit.int .i64 b).wf = true) (hcw : (Lit.int .i64 c).wf = true) (hss : Byt ss) :
    Calls Tryz.prog 15 #[.pointer (some ⟨bw, 0, none⟩), .agg (opR 11 a b c q1 q2 q3 q4 la ln lc ua un uc (strOf ss) t1 t2 t3 va vn vc), .pointer (some ⟨q, 0, none⟩)] w fun en w' => en = .returned (.bool true) ∧
      (∃ tag' rs' S', (∀ b, b < w.heap.size → tag' b = tag b) ∧ Bt w' tag' bw kl vl (nb + 2) w'.heap.size ∧ Ob 0 w' tag' j q rs' S' (m + 1) (nn + 1) ∧ rs'.length ≤ rs.length + 1 ∧ (flat rs').length ≤ (flat rs).length + 24 + ss.length) ∧ Only (fun b => tag b = 2 ∨ Mine j (tag b)) w w' := by
  obtain ⟨p, y, hOr, hVt, hRt⟩ := hO.open'
  obtain ⟨cx, cy, lq, tq⟩ := hOr.cells
  have lbw := hB.lt.1
  have hF := Fr.lay3 (j := j) hB (opR 11 a b c q1 q2 q3 q4 la ln lc ua un uc (strOf ss) t1 t2 t3 va vn vc) blankV blankV 44 105 105
  have bB : Bl w (((w.alloc (.cells (opR 11 a b c q1 q2 q3 q4 la ln lc ua un uc (strOf ss) t1 t2 t3 va vn vc) 44)).alloc (.cells blankV 105)).alloc (.cells blankV 105)) := (((Bl.refl w).alloc _).alloc _).alloc _
  have hT : Tri _ (tagTo tag w.heap.size 3) j q p y rs S m rs S (S rs.length) nn := Tri.bl (⟨hOr, hVt, hRt⟩ : Tri w tag j q p y rs S m rs S (S rs.length) nn) bB 3
  have cx3 := (bB.cell lq).trans cx
  have HI := hid (fr_image hF hT.vt (by omega) 4 (.inr rfl))
  have HT := hid hT
  have hlow := hid hVt.way.low
  have nq0 : ¬ q = w.heap.size := by omega
  have nq1 : ¬ q = w.heap.size + 1 := by omega
  have nq2 : ¬ q = w.heap.size + 1 + 1 := by omega
  have np1 : ¬ w.heap.size + 1 = q := by omega
  have np2 : ¬ w.heap.size + 1 + 1 = q := by omega
  have np3 : ¬ w.heap.size + 1 + 1 = w.heap.size := by omega
  have np4 : ¬ w.heap.size = w.heap.size + 1 + 1 := by omega
  clear hB hO hOr hVt hRt hF hT bB
  unfold opR blankV at HI HT cx3
  unfold opR
  go_enter Tryz.func15, Tryz.ntmps15
  go_wp2_with fail
  refine HI.out.mono ?_
  rintro en w3 ⟨ia, ic, rfl, hb3, hF3⟩
  have hT3 := HT.out.bl hb3 4
  obtain ⟨OP, o0, o1, o2, o3, o10, tag3, hF3, hT3⟩ : ∃ OP : Array Value, OP[0]? = some (.int .i64 11) ∧ OP[1]? = some (.int .i64 a) ∧ OP[2]? = some (.int .i64 b) ∧ OP[3]? = some (.int .i64 c) ∧ OP[10]? = some (.string (strOf ss)) ∧ ∃ tag3, Fr w tag j bw kl vl w3 tag3 nb w.heap.size [(w.heap.size, OP, 44), (w.heap.size + 1, #[.int .i64 0, .int .i64 0, .int .i64 0, .slice none 0 0], 105), (w.heap.size + 1 + 1, #[.int .i64 0, .int .i64 0, .int .i64 0, .slice none 0 0], 105)] [(.slice ia (flat rs).length ic, flat rs, 4)] ∧ Tri w3 tag3 j q p y rs S m rs S (S rs.length) nn := ⟨_, rfl, rfl, rfl, rfl, rfl, _, hF3, hT3⟩
  have HL : Hid (∀ bb, _) := fun bb => lent_any ss bb w3 hss (by omega)
  have u0 := (hF3.bo.cell (.head _) 0).trans o0
  have u1 := (hF3.bo.cell (.head _) 1).trans o1
  have u10 := (hF3.bo.cell (.head _) 10).trans o10
  have HF3 := hid hF3
  have HT3 := hid hT3
  clear HI HT cx cy cx3 hF3 hT3 hb3
  go_upto_region 20 with fail
  refine (HL.out _).mono ?_
  rintro en w4 ⟨r, rfl, hb4, hL4⟩
  obtain ⟨ra, rc, rfl⟩ : ∃ a c, r = .slice a ss.length c := by
    obtain ⟨a, c, e⟩ := (ownsRow_sl hL4.own).len
    exact ⟨a, c, by simpa using e⟩
  have HF4 := hid (HF3.out.bl hb4 5)
  have HT4 := hid (HT3.out.bl hb4 5)
  have HLn := hid (Ln.new (tag := tag3) hL4 HF3.out.size)
  generalize tagTo tag3 w3.heap.size 5 = tag4 at *
  have HP : Hid (∀ W, Bl w4 W → _) := fun W hW => fr_accept (HF4.out.bl hW 1) (HT4.out.bl hW 1) b c (.slice ra ss.length rc) ss hbw hcw (by omega) hn ((ownsRow_bs HLn.out.lent.own).bl hW) (fun g e => ⟨Nat.lt_of_lt_of_le (HLn.out.lent.lt g e).2 hW.lt, by rw [tagTo_old _ _ _ _ (HLn.out.lent.lt g e).2, (HLn.out.mark g e).1]; unfold tP; omega⟩) (by omega) hss
  have HLW : Hid (∀ W, Bl w4 W → Ln w W (tagTo tag4 w4.heap.size 1) (.slice ra ss.length rc) ss) := fun W hW => HLn.out.bl hW 1
  have v2 := (HF4.out.bo.cell (.head _) 2).trans o2
  have v3 := (HF4.out.bo.cell (.head _) 3).trans o3
  have vx := HT4.out.orr.cells.1
  have vl4 := HT4.out.orr.cells.2.2.1
  clear HL hb4 hL4 HF3 HT3 u0 u1 u10 HF4 HT4 HLn
  go_upto_region 20 with fail
  go_cut [] (fun wx => ∃ wh pr E' rs' S' tag', Hid (AccAns (S rs.length) b c ss wh pr E' ∧ S' rs'.length = E' ∧ More rs S rs' S' ∧ (flat rs').length ≤ (flat rs).length + 24 + ss.length) ∧ Hid (Fr w tag j bw kl vl wx tag' nb w.heap.size [(w.heap.size, OP, 44), (w.heap.size + 1, #[.int .i64 wh, .int .i64 pr, .int .i64 0, .slice none 0 0], 105), (w.heap.size + 1 + 1, #[.int .i64 0, .int .i64 0, .int .i64 0, .slice none 0 0], 105)] [(.slice ia (flat rs).length ic, flat rs, 4)]) ∧ Hid (Tri wx tag' j q p y rs S m rs' S' (S rs.length) nn) ∧ Hid (Ln w wx tag' (.slice ra ss.length rc) ss))
  case first =>
    go_region_held3 (fun W => W.cell? ⟨q, 0, none⟩ = some (.pointer (some ⟨p, 0, none⟩)) ∧ W.cell? ⟨w.heap.size, 2, none⟩ = some (.int .i64 b) ∧ W.cell? ⟨w.heap.size, 3, none⟩ = some (.int .i64 c)) (go_keep)
      (first | (go_at_call 54; refine Calls.mono (HP.out _ ?hb) ?_; (case hb => first | exact (Bl.refl _).drewN _ | exact (Bl.refl _).drew | exact Bl.refl _); rintro en w5 ⟨wh, pr, E', rs', S', tag', rfl, hA, hE, hM, hsz, ht5, O5, hF5, hT5⟩; have hL5 := (HLW.out _ (by first | exact (Bl.refl _).drewN _ | exact (Bl.refl _).drew | exact Bl.refl _)).only O5 (fun b _ e => by rw [e]; unfold tP; omega) ht5; have z2 := (hF5.bo.cell (.head _) 2).trans o2; have z3 := (hF5.bo.cell (.head _) 3).trans o3; have zx := hT5.orr.cells.1; have zl4 := hT5.orr.cells.2.2.1; obtain ⟨n0, n1, n2, n3, f0, f1, f2, f3, lN⟩ := hF5.bo.row4 (.tail _ (.head _)); have HA := hid (And.intro hA (And.intro hE (And.intro hM hsz))); have HF5 := hid hF5; have HT5 := hid hT5; have HL5 := hid hL5; clear hA hE hM hsz hF5 hT5 hL5 O5 ht5; unfold voteR))
    all_goals (go_wp2_with fail; go_meet)
    all_goals
      have hg : w5.heap[w.heap.size + 1]? = some (.cells #[.int .i64 0, .int .i64 0, .int .i64 0, .slice none 0 0] 105 (0, 0)) := (HF5.out.bo _ (.tail _ (.head _))).1
      obtain ⟨r1, r2⟩ := fr_box [(w.heap.size, OP, 44)] [(w.heap.size + 1 + 1, #[.int .i64 0, .int .i64 0, .int .i64 0, .slice none 0 0], 105)] HF5.out HT5.out (fun x hx => by simp at hx; rcases hx with rfl | rfl <;> (dsimp only; omega)) (.int .i64 wh) (.int .i64 pr) (.int .i64 0) (.slice none 0 0)
      have r3 := HL5.out.only (tag' := tag') (Only.set4 (w := w5) (S := fun b => b = w.heap.size + 1) rfl (.int .i64 wh) (.int .i64 pr) (.int .i64 0) (.slice none 0 0)) (fun b _ e => by rw [e, (HF5.out.bo _ (.tail _ (.head _))).2]; omega) (fun _ _ => rfl)
      exact ⟨wh, pr, E', rs', S', tag', HA.out, r1, r2, r3⟩
  case rest =>
    obtain ⟨wh, pr, E', rs', S', tag5, HA, HF5, HT5, HL5⟩ := hcut
    have HBk := hid (back_any 0 (.slice ra ss.length rc) ss wc HL5.out.lent (by omega))
    have z10 := (HF5.out.bo.cell (.head _) 10).trans o10
    clear HP HLW v2 v3 vx vl4
    go_upto_region 22 with fail
    refine HBk.out.mono ?_
    rintro en w6 ⟨rfl, O6⟩
    have HF6 := hid (HF5.out.five O6 (fun b _ e => HL5.out.mark b e))
    have HT6 := hid (HT5.out.only (tag' := tag5) O6 (fun b _ e => by rw [(HL5.out.mark b e).1]; exact (mine_five j).1) (fun _ _ => rfl))
    have HP2 : Hid (∀ W v, Bl w6 W → Bs W v (ss.map B8) → (∀ g, v.ownBlock = some g → w6.heap.size ≤ g) → _) := fun W v hW hb hg => fr_refAccept (HF6.out.bl hW 1) (HT6.out.bl hW 1) b c v ss (by omega) (fun h => hlow.out _ (Nat.le_refl _) b h) hb (fun g e => by rw [tagTo_new _ _ _ _ (hg g e)]; unfold tR; omega) (by omega)
    have y2 := (HF6.out.bo.cell (.head _) 2).trans o2
    have y3 := (HF6.out.bo.cell (.head _) 3).trans o3
    have y10 := (HF6.out.bo.cell (.head _) 10).trans o10
    have yy := HT6.out.orr.cells.2.1
    have yl := HT6.out.orr.cells.2.2.1
    have ylo := HF6.out.size
    have kc : ∀ W, (convert 9 40 (.string (strOf ss))).run Tryz.prog W = _ := fun W => run_bytes_of_string (P := Tryz.prog) W 9 40 5 (strOf ss) Tryz.underlying9 Tryz.underlying40 Tryz.underlying5
    simp only [strOf_size] at kc
    have n6q : ¬ w6.heap.size = q := by omega
    have lo6 : w.heap.size < w6.heap.size := HF6.out.bo.lt (.head _)
    have n60 : ¬ w6.heap.size = w.heap.size := by omega
    clear HBk HF5 HT5 HL5 z10 O6 HF6 HT6
    go_upto_region 22 with fail
    go_cut [] (fun wx => ∃ tag', Hid (Fr w tag j bw kl vl wx tag' nb w.heap.size [(w.heap.size, OP, 44), (w.heap.size + 1, #[.int .i64 wh, .int .i64 pr, .int .i64 0, .slice none 0 0], 105), (w.heap.size + 1 + 1, #[.int .i64 wh, .int .i64 pr, .int .i64 0, .slice none 0 0], 105)] [(.slice ia (flat rs).length ic, flat rs, 4)]) ∧ Hid (Tri wx tag' j q p y rs S m rs' S' (S' rs'.length) (nn + 1)))
    case first =>
      go_region_held (fun W => W.cell? ⟨q, 1, none⟩ = some (.pointer (some ⟨y, 0, none⟩)) ∧ W.cell? ⟨w.heap.size, 2, none⟩ = some (.int .i64 b) ∧ W.cell? ⟨w.heap.size, 3, none⟩ = some (.int .i64 c) ∧ W.cell? ⟨w.heap.size, 10, none⟩ = some (.string (strOf ss))) (go_keep)
        (first | (go_at_call 55; refine Calls.mono (HP2.out _ _ ?h1 ?h2 ?h3) ?_; (case h1 => repeat (first | exact Bl.refl _ | refine Bl.drew ?_ | refine Bl.drewN ?_ _ | refine Bl.alloc ?_ _)); (case h2 => exact bs_row hss (heap_alloc_new _ _)); (case h3 => intro g hg; simp [Value.ownBlock] at hg; subst hg; first | exact Nat.le_refl _ | simp); rintro en w7 ⟨wh', pr', E'', tag', rfl, hA', _, _, hF7, hT7⟩; obtain ⟨rfl, rfl, rfl⟩ := HA.out.1.one hA'; have z2 := (hF7.bo.cell (.head _) 2).trans o2; have z3 := (hF7.bo.cell (.head _) 3).trans o3; have z10 := (hF7.bo.cell (.head _) 10).trans o10; have zy := hT7.orr.cells.2.1; have zl := hT7.orr.cells.2.2.1; obtain ⟨n0, n1, n2, n3, f0, f1, f2, f3, lN⟩ := hF7.bo.row4 (.tail _ (.tail _ (.head _))); have HF7 := hid hF7; have HT7 := hid hT7; clear hA' hF7 hT7; unfold voteR))
      all_goals (go_wp2_with fail; go_meet)
      all_goals
        obtain ⟨r1, r2⟩ := fr_box [(w.heap.size, OP, 44), (w.heap.size + 1, #[.int .i64 wh', .int .i64 pr', .int .i64 0, .slice none 0 0], 105)] [] HF7.out HT7.out (fun x hx => by simp at hx; rcases hx with rfl | rfl <;> (dsimp only; omega)) (.int .i64 wh') (.int .i64 pr') (.int .i64 0) (.slice none 0 0)
        rw [← HA.out.2.1] at r2
        exact ⟨tag', r1, r2⟩
    case rest =>
      obtain ⟨tag7, HF7', HT7'⟩ := hcut
      have HF5 := hid (HF7'.out.add (.slice none 0 0) [] 1 (.inl rfl) (World.ownsRow_nil _ _ _ _) (fun b hb => by simp [Value.ownBlock] at hb))
      have HT5 := HT7'
      clear HF7' HT7'
      obtain ⟨n0, n1, n2, n3, _, _, _, _, lN⟩ := HF5.out.bo.row4 (.tail _ (.head _))
      obtain ⟨m0, m1, m2, m3, _, _, _, _, lM⟩ := HF5.out.bo.row4 (.tail _ (.tail _ (.head _)))
      have HSame := hid (sameVote_any wh pr 0 (.slice none 0 0) (.slice none 0 0) [] wc (ownsRow_sl (World.ownsRow_nil _ 0 5 1)) (ownsRow_sl (World.ownsRow_nil _ 0 5 1)))
      unfold voteR at HSame
      clear HP2 y2 y3 yy yl y10 kc
      go_upto_region 24 with fail
      refine HSame.out.mono ?_
      rintro en w6 ⟨rfl, hb6⟩
      have hF6 := HF5.out.bl hb6 1
      have HK := hid (fr_kept hF6 (HT5.out.bl hb6 1) HA.out.2.2.1 hm (by omega) (by have := HA.out.2.2.2; omega))
      clear HSame HF5 HT5 hb6 hF6 n0 n1 n2 n3 lN m0 m1 m2 m3 lM
      go_upto_region 25 with fail
      refine HK.out.mono ?_
      rintro en w7 ⟨rfl, tag7, _, _, hF7, hO7⟩
      have HBy : Hid (∀ W, Bl w7 W → _) := fun W hW => fr_byte (hF7.bl hW 1) (hO7.bl' hW 1) (by intro x hx; simp at hx; rw [hx]) (by simp) (by omega)
      obtain ⟨_, _, _, n3, _, _, _, _, lN⟩ := hF7.bo.row4 (.tail _ (.head _))
      have lb7 : bw < w7.heap.size := by have := hF7.size; omega
      clear HK hF7 hO7
      go_upto_region 25 with fail
      go_cut [] (fun wx => ∃ tag', Hid (Fr w tag j bw kl vl wx tag' (nb + 1) wx.heap.size [(w.heap.size, OP, 44), (w.heap.size + 1, #[.int .i64 wh, .int .i64 pr, .int .i64 0, .slice none 0 0], 105), (w.heap.size + 1 + 1, #[.int .i64 wh, .int .i64 pr, .int .i64 0, .slice none 0 0], 105)] [(.slice ia (flat rs).length ic, flat rs, 4)]) ∧ Hid (Ob 0 wx tag' j q rs' S' (m + 1) (nn + 1)))
      case first =>
        go_region_held3 (fun W => W.cell? ⟨w.heap.size + 1, 3, none⟩ = some (.slice none 0 0)) (go_keep)
          (first | (go_at_call 36; refine (HBy.out _ ?hb).mono ?_; (case hb => first | exact (Bl.refl _).drewN _ | exact (Bl.refl _).drew | exact Bl.refl _); rintro en w8 ⟨rfl, tag8, _, hF8, hO8⟩; have n38 := (hF8.bo.row4 (.tail _ (.head _))).2.2.2.1; have HF8 := hid hF8; have HO8 := hid hO8; clear hF8 hO8))
        all_goals (go_wp2_with fail; go_meet)
        all_goals exact ⟨tag8, HF8.out, HO8.out⟩
      case rest =>
        obtain ⟨tag8, HF8, HO8⟩ := hcut
        obtain ⟨p8, cx8, lq8, _, hvt8, _⟩ := HO8.out.x
        have HI8 := hid (fr_image HF8.out hvt8 (by have := HA.out.2.2.2; omega) 1 (.inl rfl))
        clear hvt8 HBy n3 lN lb7
        go_upto_region 27 with fail
        refine HI8.out.mono ?_
        rintro en w9 ⟨fa, fc, rfl, hb9, hF9⟩
        have hO9 := HO8.out.bl' hb9 1
        have hz9 := hb9.lt
        obtain ⟨zs, hzs⟩ := HA.out.2.2.1.flat
        have hbe := (hF9.pd _ (.tail _ (.head _))).1
        have haf := (hF9.pd _ (.head _)).1
        have hlen : (flat rs').length = (flat rs).length + zs.length := by rw [hzs, List.length_append]
        have HG := hid (grows_any 0 0 _ _ (flat rs) zs w9 hbe (by have h' := haf; simp only at h'; rw [← hzs, ← hlen]; exact h') (by have := HA.out.2.2.2; omega))
        simp only at HG
        have HF9 := hid hF9
        have HO9 := hid hO9
        clear HI8 HF8 HO8 hb9 hF9 hO9 hbe haf cx8 lq8 hzs hlen
        go_wp2_with fail
        refine HG.out.mono ?_
        rintro en w10 ⟨rfl, hb10⟩
        have HB10 := hid (fr_byte ((HF9.out.bl hb10 1).sub (pl' := [(.slice fa (flat rs').length fc, flat rs', 1)]) (by intro x hx; simp at hx; rw [hx]; simp)) (HO9.out.bl' hb10 1) (by intro x hx; simp at hx) (by have := HA.out.2.2.2; omega) (by omega))
        have lb10 : bw < w10.heap.size := by have := HF9.out.size; have := hb10.lt; omega
        clear HG HF9 HO9 hb10
        go_wp2_with fail
        refine HB10.out.mono ?_
        rintro en w11 ⟨rfl, tag11, _, hF11, hO11⟩
        have HF11 := hid hF11
        have HO11 := hid hO11
        clear HB10 hF11 hO11
        go_wp2
        go_ret
        exact ⟨rfl, ⟨tag11, rs', S', HF11.out.old, HF11.out.bt, HO11.out, by have := HA.out.2.2.1.len; omega, HA.out.2.2.2⟩, HF11.out.out⟩
end Go.Proofs.YtkgjpfamjedncaaGreat
