-- A voter of the script is asked to promise.
import Derived.Test.YtkgjpfamjedncaaGreatObjCCallCFrCallsQ
namespace Go.Proofs.YtkgjpfamjedncaaGreat
open Go.RowKit Go.Maps
attribute [local go_sem ↓] Go.wp_at_zero Go.wp_at_succ

theorem heap3 (w : World) (a b c : Array Value) (s t u : TypeId) :
    (((w.alloc (.cells a s)).alloc (.cells b t)).alloc (.cells c u)).heap[w.heap.size]? = some (.cells a s (0, 0)) ∧
    (((w.alloc (.cells a s)).alloc (.cells b t)).alloc (.cells c u)).heap[w.heap.size + 1]? = some (.cells b t (0, 0)) ∧
    (((w.alloc (.cells a s)).alloc (.cells b t)).alloc (.cells c u)).heap[w.heap.size + 1 + 1]? = some (.cells c u (0, 0)) := by
  have h1 := heap_alloc_new w (.cells a s)
  have h2 := heap_alloc_new (w.alloc (.cells a s)) (.cells b t)
  have h3 := heap_alloc_new ((w.alloc (.cells a s)).alloc (.cells b t)) (.cells c u)
  have l1 : (w.alloc (.cells a s)).heap.size = w.heap.size + 1 := by simp
  have l2 : ((w.alloc (.cells a s)).alloc (.cells b t)).heap.size = w.heap.size + 1 + 1 := by simp
  rw [l1] at h2
  rw [l2] at h3
  exact ⟨(Below.heap_alloc _ _ w.heap.size (by omega)).trans ((Below.heap_alloc _ _ w.heap.size (by omega)).trans h1), (Below.heap_alloc _ _ _ (by omega)).trans h2, h3⟩
theorem Fr.start {w : World} {tag : Nat → Nat} {j bw : Nat} {kl vl : Value} {nb : Nat} (h : Bt w tag bw kl vl nb w.heap.size) : Fr w tag j bw kl vl w tag nb w.heap.size [] [] :=
  ⟨fun _ _ => rfl, Only.refl _ _, h, Nat.le_refl _, Nat.le_refl _, fun _ hx => by simp at hx, fun _ hx => by simp at hx, fun _ hx => by simp at hx, fun _ hx => by simp at hx⟩
theorem Fr.boxes {w0 : World} {tag0 : Nat → Nat} {j bw : Nat} {kl vl : Value} {w : World} {tag : Nat → Nat} {nb lim : Nat} {bx : List (Nat × Array Value × TypeId)} {pl : List (Value × List Int × Nat)} (h : Fr w0 tag0 j bw kl vl w tag nb lim [] pl) (hb : ∀ x ∈ bx, w.heap[x.1]? = some (.cells x.2.1 x.2.2 (0, 0)) ∧ tag x.1 = 3 ∧ w0.heap.size ≤ x.1) : Fr w0 tag0 j bw kl vl w tag nb lim bx pl :=
  ⟨h.old, h.out, h.bt, h.hi, h.lo, fun x hx => ⟨(hb x hx).1, (hb x hx).2.1⟩, fun x hx => (hb x hx).2.2, h.pd, h.ps⟩
/-- Three boxes are laid. -/
theorem Fr.lay3 {w : World} {tag : Nat → Nat} {j bw : Nat} {kl vl : Value} {nb : Nat} (h : Bt w tag bw kl vl nb w.heap.size) (a b c : Array Value) (s t u : TypeId) :
    Fr w tag j bw kl vl (((w.alloc (.cells a s)).alloc (.cells b t)).alloc (.cells c u)) (tagTo tag w.heap.size 3) nb w.heap.size [(w.heap.size, a, s), (w.heap.size + 1, b, t), (w.heap.size + 1 + 1, c, u)] [] := by
  have bB : Bl w (((w.alloc (.cells a s)).alloc (.cells b t)).alloc (.cells c u)) := (((Bl.refl w).alloc _).alloc _).alloc _
  obtain ⟨h1, h2, h3⟩ := heap3 w a b c s t u
  refine ((Fr.start h).bl bB 3).boxes fun x hx => ?_
  simp only [List.mem_cons, List.not_mem_nil, or_false] at hx
  rcases hx with rfl | rfl | rfl
  · exact ⟨h1, tagTo_new _ _ _ _ (Nat.le_refl _), Nat.le_refl _⟩
  · exact ⟨h2, tagTo_new _ _ _ _ (by simp), by simp⟩
  · exact ⟨h3, tagTo_new _ _ _ _ (by simp; omega), by simp; omega⟩
theorem set4_heap {w : World} {g : Nat} {t : TypeId} {a b c d : Value} (h : w.heap[g]? = some (.cells #[a, b, c, d] t (0, 0))) (x0 x1 x2 x3 : Value) : ((((w.setCell ⟨g, 0, none⟩ x0).setCell ⟨g, 1, none⟩ x1).setCell ⟨g, 2, none⟩ x2).setCell ⟨g, 3, none⟩ x3).heap[g]? = some (.cells #[x0, x1, x2, x3] t (0, 0)) :=
  heap_setCell_same _ g 3 _ t _ (heap_setCell_same _ g 2 _ t _ (heap_setCell_same _ g 1 _ t _ (heap_setCell_same _ g 0 _ t _ h)))
theorem Bo.row4 {W : World} {tag : Nat → Nat} {l : List (Nat × Array Value × TypeId)} (h : Bo W tag l) {g : Nat} {a b c d : Value} {t : TypeId} (hq : (g, #[a, b, c, d], t) ∈ l) : W.cell? ⟨g, 0, none⟩ = some a ∧ W.cell? ⟨g, 1, none⟩ = some b ∧ W.cell? ⟨g, 2, none⟩ = some c ∧ W.cell? ⟨g, 3, none⟩ = some d ∧ W.frozen? ⟨g, 0, none⟩ = false ∧ W.frozen? ⟨g, 1, none⟩ = false ∧ W.frozen? ⟨g, 2, none⟩ = false ∧ W.frozen? ⟨g, 3, none⟩ = false ∧ g < W.heap.size :=
  ⟨h.cell hq 0, h.cell hq 1, h.cell hq 2, h.cell hq 3, h.frozen hq 0, h.frozen hq 1, h.frozen hq 2, h.frozen hq 3, h.lt hq⟩

theorem More.flat {rs : List Rc} {S : Nat → Int → Ep} {rs' : List Rc} {S' : Nat → Int → Ep} (h : More rs S rs' S') : ∃ zs, Go.Proofs.YtkgjpfamjedncaaGreat.flat rs' = Go.Proofs.YtkgjpfamjedncaaGreat.flat rs ++ zs := by
  rcases h with ⟨rfl, _⟩ | ⟨r, E', rfl, _⟩
  · exact ⟨[], by simp⟩
  · exact ⟨_, flat_append _ _⟩
/-- An answer is laid into its box. -/
theorem fr_box {w0 : World} {tag0 : Nat → Nat} {j bw : Nat} {kl vl : Value} {w : World} {tag : Nat → Nat} {nb lim : Nat} {g : Nat} {a b c d : Value} {t : TypeId} (b1 b2 : List (Nat × Array Value × TypeId)) {pl : List (Value × List Int × Nat)} {q p y : Nat} {rs : List Rc} {S : Nat → Int → Ep} {m : Nat} {rs1 : List Rc} {S1 : Nat → Int → Ep} {E : Int → Ep} {nn : Nat} (h : Fr w0 tag0 j bw kl vl w tag nb lim (b1 ++ (g, #[a, b, c, d], t) :: b2) pl) (hT : Tri w tag j q p y rs S m rs1 S1 E nn) (hd : ∀ x ∈ b1 ++ b2, x.1 ≠ g) (x0 x1 x2 x3 : Value) :
    Fr w0 tag0 j bw kl vl ((((w.setCell ⟨g, 0, none⟩ x0).setCell ⟨g, 1, none⟩ x1).setCell ⟨g, 2, none⟩ x2).setCell ⟨g, 3, none⟩ x3) tag nb lim (b1 ++ (g, #[x0, x1, x2, x3], t) :: b2) pl ∧ Tri ((((w.setCell ⟨g, 0, none⟩ x0).setCell ⟨g, 1, none⟩ x1).setCell ⟨g, 2, none⟩ x2).setCell ⟨g, 3, none⟩ x3) tag j q p y rs S m rs1 S1 E nn := by
  obtain ⟨hg, tg⟩ := h.bo (g, #[a, b, c, d], t) (by simp)
  have O := Only.set4 (w := w) (S := fun b => b = g) (g := g) rfl x0 x1 x2 x3
  exact ⟨h.box O (set4_heap hg x0 x1 x2 x3) hd, hT.only O (fun b _ e e' => by rw [e, tg] at e'; exact (mine_not j 3 e').2.2.1 rfl) (fun _ _ => rfl)⟩

set_option maxRecDepth 100000 in
set_option maxHeartbeats 4000000 in
theorem votedPrep_any (bw j q : Nat) (kl vl : Value) (nb m nn : Nat) (rs : List Rc) (S : Nat → Int → Ep) (tag : Nat → Nat) (a b c q1 q2 q3 q4 : Int) (la : Option Addr) (ln lc : Nat) (ua : Option Addr) (un uc : Nat) (s : ByteArray) (t1 t2 t3 : Int) (va : Option Addr) (vn vc : Nat) (w : World)
    (hB : Bt w tag bw kl vl nb w.heap.size) (hO : Ob 0 w tag j q rs S m nn) (hl : (flat rs).length ≤ 29000000) (hnb : nb + 1 < 4000000) (hm : m ≤ 4000000) (hnn : nn + 1 < 4000000) (hn : rs.length ≤ 30000000) (hbw : (Lit.int .i64 b).wf = true) (hcw : (Lit.int .i64 c).wf = true) :
    Calls Tryz.prog 15 #[.pointer (some ⟨bw, 0, none⟩), .agg (opR 10 a b c q1 q2 q3 q4 la ln lc ua un uc s t1 t2 t3 va vn vc), .pointer (some ⟨q, 0, none⟩)] w fun en w' => en = .returned (.bool true) ∧
      (∃ tag' rs' S', (∀ b, b < w.heap.size → tag' b = tag b) ∧ Bt w' tag' bw kl vl (nb + 2) w'.heap.size ∧ Ob 0 w' tag' j q rs' S' (m + 1) (nn + 1) ∧ rs'.length ≤ rs.length + 1 ∧ (flat rs').length ≤ (flat rs).length + 24) ∧ Only (fun b => tag b = 2 ∨ Mine j (tag b)) w w' := by
  obtain ⟨p, y, hOr, hVt, hRt⟩ := hO.open'
  obtain ⟨cx, cy, lq, tq⟩ := hOr.cells
  have lbw := hB.lt.1
  have hF := Fr.lay3 (j := j) hB (opR 10 a b c q1 q2 q3 q4 la ln lc ua un uc s t1 t2 t3 va vn vc) blankV blankV 44 105 105
  have bB : Bl w (((w.alloc (.cells (opR 10 a b c q1 q2 q3 q4 la ln lc ua un uc s t1 t2 t3 va vn vc) 44)).alloc (.cells blankV 105)).alloc (.cells blankV 105)) := (((Bl.refl w).alloc _).alloc _).alloc _
  have hT : Tri _ (tagTo tag w.heap.size 3) j q p y rs S m rs S (S rs.length) nn := Tri.bl (⟨hOr, hVt, hRt⟩ : Tri w tag j q p y rs S m rs S (S rs.length) nn) bB 3
  have cx3 := (bB.cell lq).trans cx
  have HI := hid (fr_image hF hT.vt (by omega) 4 (.inr rfl))
  have HT := hid hT
  have hlow := hid hVt.way.low
  have hvals := hid hVt.vals
  have nq0 : ¬ q = w.heap.size := by omega
  have nq1 : ¬ q = w.heap.size + 1 := by omega
  have nq2 : ¬ q = w.heap.size + 1 + 1 := by omega
  have np1 : ¬ w.heap.size + 1 = q := by omega
  have np2 : ¬ w.heap.size + 1 + 1 = q := by omega
  have np3 : ¬ w.heap.size + 1 + 1 = w.heap.size := by omega
  have np4 : ¬ w.heap.size = w.heap.size + 1 + 1 := by omega
  clear hB hO hOr hVt hRt hF hT bB
  unfold opR blankV at HI HT cx3
  unfold opR
  go_enter Tryz.func15, Tryz.ntmps15
  go_wp2_with fail
  refine HI.out.mono ?_
  rintro en w3 ⟨ia, ic, rfl, hb3, hF3⟩
  have hT3 := HT.out.bl hb3 4
  obtain ⟨OP, o0, o2, o3, tag3, hF3, hT3⟩ : ∃ OP : Array Value, OP[0]? = some (.int .i64 10) ∧ OP[2]? = some (.int .i64 b) ∧ OP[3]? = some (.int .i64 c) ∧ ∃ tag3, Fr w tag j bw kl vl w3 tag3 nb w.heap.size [(w.heap.size, OP, 44), (w.heap.size + 1, #[.int .i64 0, .int .i64 0, .int .i64 0, .slice none 0 0], 105), (w.heap.size + 1 + 1, #[.int .i64 0, .int .i64 0, .int .i64 0, .slice none 0 0], 105)] [(.slice ia (flat rs).length ic, flat rs, 4)] ∧ Tri w3 tag3 j q p y rs S m rs S (S rs.length) nn := ⟨_, rfl, rfl, rfl, _, hF3, hT3⟩
  have HP : Hid (∀ W, Bl w3 W → _) := fun W hW => fr_prepare (hF3.bl hW 1) (hT3.bl hW 1) b c hbw hcw (by omega) hn
  have u0 := (hF3.bo.cell (.head _) 0).trans o0
  have u2 := (hF3.bo.cell (.head _) 2).trans o2
  have u3 := (hF3.bo.cell (.head _) 3).trans o3
  have ex := hT3.orr.cells.1
  have lq3 := hT3.orr.cells.2.2.1
  clear HI HT cx cy cx3 hF3 hT3 hb3
  go_upto_region 17 with fail
  go_cut [] (fun wx => ∃ wh pr ba xa xc ys E' rs' S' tag', Hid (PrepAns (S rs.length) b c wh pr ba ys E' ∧ S' rs'.length = E' ∧ More rs S rs' S' ∧ (flat rs').length ≤ (flat rs).length + 24) ∧ Hid (Fr w tag j bw kl vl wx tag' nb w.heap.size [(w.heap.size, OP, 44), (w.heap.size + 1, #[.int .i64 wh, .int .i64 pr, .int .i64 ba, .slice xa ys.length xc], 105), (w.heap.size + 1 + 1, #[.int .i64 0, .int .i64 0, .int .i64 0, .slice none 0 0], 105)] [(.slice xa ys.length xc, ys, 1), (.slice ia (flat rs).length ic, flat rs, 4)]) ∧ Hid (Tri wx tag' j q p y rs S m rs' S' (S rs.length) nn))
  case first =>
    go_region_held3 (fun W => W.cell? ⟨q, 0, none⟩ = some (.pointer (some ⟨p, 0, none⟩)) ∧ W.cell? ⟨w.heap.size, 2, none⟩ = some (.int .i64 b) ∧ W.cell? ⟨w.heap.size, 3, none⟩ = some (.int .i64 c)) (go_keep)
      (first | (go_at_call 52; refine (HP.out _ ?hb).mono ?_; (case hb => first | exact (Bl.refl _).drewN _ | exact (Bl.refl _).drew | exact Bl.refl _); rintro en w4 ⟨wh, pr, ba, xa, xc, ys, E', rs', S', tag', rfl, hA, hE, hM, hsz, _, _, hF4, hT4⟩; have v2 := (hF4.bo.cell (.head _) 2).trans o2; have v3 := (hF4.bo.cell (.head _) 3).trans o3; have vx := hT4.orr.cells.1; have vl4 := hT4.orr.cells.2.2.1; obtain ⟨n0, n1, n2, n3, f0, f1, f2, f3, lN⟩ := hF4.bo.row4 (.tail _ (.head _)); have HA := hid (And.intro hA (And.intro hE (And.intro hM hsz))); have HF4 := hid hF4; have HT4 := hid hT4; clear hA hE hM hsz hF4 hT4; unfold voteR))
    all_goals (go_wp2_with fail; go_meet)
    all_goals
      obtain ⟨r1, r2⟩ := fr_box [(w.heap.size, OP, 44)] [(w.heap.size + 1 + 1, #[.int .i64 0, .int .i64 0, .int .i64 0, .slice none 0 0], 105)] HF4.out HT4.out (fun x hx => by simp at hx; rcases hx with rfl | rfl <;> (dsimp only; omega)) (.int .i64 wh) (.int .i64 pr) (.int .i64 ba) (.slice xa ys.length xc)
      exact ⟨wh, pr, ba, xa, xc, ys, E', rs', S', tag', HA.out, r1, r2⟩
  case rest =>
    obtain ⟨wh, pr, ba, xa, xc, ys, E', rs', S', tag4, HA, HF4, HT4⟩ := hcut
    have HP2 : Hid (∀ W, Bl wc W → _) := fun W hW => fr_refPrepare (HF4.out.bl hW 1) (HT4.out.bl hW 1) b c (by omega) (fun h => hlow.out _ (Nat.le_refl _) b h)
    have v2 := (HF4.out.bo.cell (.head _) 2).trans o2
    have v3 := (HF4.out.bo.cell (.head _) 3).trans o3
    have vy := HT4.out.orr.cells.2.1
    have vl4 := HT4.out.orr.cells.2.2.1
    clear HP HF4 HT4 u0 u2 u3 ex lq3
    go_upto_region 18 with fail
    go_cut [] (fun wx => ∃ ya yc tag', Hid (wx.ownsRow 0 5 1 (.slice ya ys.length yc) ys.length (ys.map B8)) ∧ Hid (Fr w tag j bw kl vl wx tag' nb w.heap.size [(w.heap.size, OP, 44), (w.heap.size + 1, #[.int .i64 wh, .int .i64 pr, .int .i64 ba, .slice xa ys.length xc], 105), (w.heap.size + 1 + 1, #[.int .i64 wh, .int .i64 pr, .int .i64 ba, .slice ya ys.length yc], 105)] [(.slice xa ys.length xc, ys, 1), (.slice ia (flat rs).length ic, flat rs, 4)]) ∧ Hid (Tri wx tag' j q p y rs S m rs' S' (S' rs'.length) (nn + 1)))
    case first =>
      go_region_held3 (fun W => W.cell? ⟨q, 1, none⟩ = some (.pointer (some ⟨y, 0, none⟩)) ∧ W.cell? ⟨w.heap.size, 2, none⟩ = some (.int .i64 b) ∧ W.cell? ⟨w.heap.size, 3, none⟩ = some (.int .i64 c)) (go_keep)
        (first | (go_at_call 53; refine (HP2.out _ ?hb).mono ?_; (case hb => first | exact (Bl.refl _).drewN _ | exact (Bl.refl _).drew | exact Bl.refl _); rintro en w5 ⟨wh', pr', ba', ya, yc, ys', E'', tag', rfl, hA', ho5, _, _, hF5, hT5⟩; obtain ⟨rfl, rfl, rfl, rfl, rfl⟩ := HA.out.1.one hA'; have z2 := (hF5.bo.cell (.head _) 2).trans o2; have z3 := (hF5.bo.cell (.head _) 3).trans o3; have zy := hT5.orr.cells.2.1; have zl := hT5.orr.cells.2.2.1; obtain ⟨n0, n1, n2, n3, f0, f1, f2, f3, lN⟩ := hF5.bo.row4 (.tail _ (.tail _ (.head _))); have Ho5 := hid ho5; have HF5 := hid hF5; have HT5 := hid hT5; clear hA' ho5 hF5 hT5; unfold voteR))
      all_goals (go_wp2_with fail; go_meet)
      all_goals
        have hg : w5.heap[w.heap.size + 1 + 1]? = some (.cells #[.int .i64 0, .int .i64 0, .int .i64 0, .slice none 0 0] 105 (0, 0)) := (HF5.out.bo _ (.tail _ (.tail _ (.head _)))).1
        obtain ⟨r1, r2⟩ := fr_box [(w.heap.size, OP, 44), (w.heap.size + 1, #[.int .i64 wh', .int .i64 pr', .int .i64 ba', .slice xa ys'.length xc], 105)] [] HF5.out HT5.out (fun x hx => by simp at hx; rcases hx with rfl | rfl <;> (dsimp only; omega)) (.int .i64 wh') (.int .i64 pr') (.int .i64 ba') (.slice ya ys'.length yc)
        rw [← HA.out.2.1] at r2
        exact ⟨ya, yc, tag', (Only.set4 (S := fun b => b = w.heap.size + 1 + 1) rfl _ _ _ _).owns Ho5.out fun b hb e => own_ne_block Ho5.out hg (by decide) (by rw [hb, e]), r1, r2⟩
    case rest =>
      obtain ⟨ya, yc, tag5, Hyo, HF5, HT5⟩ := hcut
      obtain ⟨⟨hpx, hps⟩⟩ : Nonempty (_ ×' _) := ⟨⟨(HF5.out.pd _ (.head _)).1, (HF5.out.pd _ (.tail _ (.head _))).1⟩⟩
      obtain ⟨n0, n1, n2, n3, _, _, _, _, lN⟩ := HF5.out.bo.row4 (.tail _ (.head _))
      obtain ⟨m0, m1, m2, m3, _, _, _, _, lM⟩ := HF5.out.bo.row4 (.tail _ (.tail _ (.head _)))
      have HSame := hid (sameVote_any wh pr ba (.slice xa ys.length xc) (.slice ya ys.length yc) ys wc (ownsRow_sl hpx) (ownsRow_sl Hyo.out))
      unfold voteR at HSame
      clear HP2 hpx hps v2 v3 vy vl4 Hyo
      go_upto_region 24 with fail
      refine HSame.out.mono ?_
      rintro en w6 ⟨rfl, hb6⟩
      have hF6 := HF5.out.bl hb6 1
      have HK := hid (fr_kept hF6 (HT5.out.bl hb6 1) HA.out.2.2.1 hm (by omega) (by have := HA.out.2.2.2; omega))
      clear HSame HF5 HT5 hb6 hF6 n0 n1 n2 n3 lN m0 m1 m2 m3 lM
      go_upto_region 25 with fail
      refine HK.out.mono ?_
      rintro en w7 ⟨rfl, tag7, _, _, hF7, hO7⟩
      have hys : ys.length ≤ 255 := by
        rcases HA.out.1 with ⟨_, _, _, _, e, _⟩ | ⟨_, _, _, _, e, _⟩
        · rw [e]; simp
        · rw [e]; exact (hvals.out b).1
      have HBy : Hid (∀ W, Bl w7 W → _) := fun W hW => fr_byte (hF7.bl hW 1) (hO7.bl' hW 1) (by intro x hx; simp at hx; rw [hx]) (by omega) (by omega)
      obtain ⟨_, _, _, n3, _, _, _, _, lN⟩ := hF7.bo.row4 (.tail _ (.head _))
      have lb7 : bw < w7.heap.size := by have := hF7.size; omega
      clear HK hF7 hO7
      go_upto_region 25 with fail
      go_cut [] (fun wx => ∃ tag', Hid (Fr w tag j bw kl vl wx tag' (nb + 1) wx.heap.size [(w.heap.size, OP, 44), (w.heap.size + 1, #[.int .i64 wh, .int .i64 pr, .int .i64 ba, .slice xa ys.length xc], 105), (w.heap.size + 1 + 1, #[.int .i64 wh, .int .i64 pr, .int .i64 ba, .slice ya ys.length yc], 105)] [(.slice ia (flat rs).length ic, flat rs, 4)]) ∧ Hid (Ob 0 wx tag' j q rs' S' (m + 1) (nn + 1)))
      case first =>
        go_region_held3 (fun W => W.cell? ⟨w.heap.size + 1, 3, none⟩ = some (.slice xa ys.length xc)) (go_keep)
          (first | (go_at_call 36; refine (HBy.out _ ?hb).mono ?_; (case hb => first | exact (Bl.refl _).drewN _ | exact (Bl.refl _).drew | exact Bl.refl _); rintro en w8 ⟨rfl, tag8, _, hF8, hO8⟩; have n38 := (hF8.bo.row4 (.tail _ (.head _))).2.2.2.1; have HF8 := hid hF8; have HO8 := hid hO8; clear hF8 hO8))
        all_goals (go_wp2_with fail; go_meet)
        all_goals exact ⟨tag8, HF8.out, HO8.out⟩
      case rest =>
        obtain ⟨tag8, HF8, HO8⟩ := hcut
        obtain ⟨p8, cx8, lq8, _, hvt8, _⟩ := HO8.out.x
        have HI8 := hid (fr_image HF8.out hvt8 (by have := HA.out.2.2.2; omega) 1 (.inl rfl))
        clear hvt8 HBy n3 lN lb7
        go_upto_region 27 with fail
        refine HI8.out.mono ?_
        rintro en w9 ⟨fa, fc, rfl, hb9, hF9⟩
        have hO9 := HO8.out.bl' hb9 1
        have hz9 := hb9.lt
        obtain ⟨zs, hzs⟩ := HA.out.2.2.1.flat
        have hbe := (hF9.pd _ (.tail _ (.head _))).1
        have haf := (hF9.pd _ (.head _)).1
        have hlen : (flat rs').length = (flat rs).length + zs.length := by rw [hzs, List.length_append]
        have HG := hid (grows_any 0 0 _ _ (flat rs) zs w9 hbe (by have h' := haf; simp only at h'; rw [← hzs, ← hlen]; exact h') (by have := HA.out.2.2.2; omega))
        simp only at HG
        have HF9 := hid hF9
        have HO9 := hid hO9
        clear HI8 HF8 HO8 hb9 hF9 hO9 hbe haf cx8 lq8 hzs hlen
        go_wp2_with fail
        refine HG.out.mono ?_
        rintro en w10 ⟨rfl, hb10⟩
        have HB10 := hid (fr_byte ((HF9.out.bl hb10 1).sub (pl' := [(.slice fa (flat rs').length fc, flat rs', 1)]) (by intro x hx; simp at hx; rw [hx]; simp)) (HO9.out.bl' hb10 1) (by intro x hx; simp at hx) (by have := HA.out.2.2.2; omega) (by omega))
        have lb10 : bw < w10.heap.size := by have := HF9.out.size; have := hb10.lt; omega
        clear HG HF9 HO9 hb10
        go_wp2_with fail
        refine HB10.out.mono ?_
        rintro en w11 ⟨rfl, tag11, _, hF11, hO11⟩
        have HF11 := hid hF11
        have HO11 := hid hO11
        clear HB10 hF11 hO11
        go_wp2
        go_ret
        exact ⟨rfl, ⟨tag11, rs', S', HF11.out.old, HF11.out.bt, HO11.out, by have := HA.out.2.2.1.len; omega, HA.out.2.2.2⟩, HF11.out.out⟩
end Go.Proofs.YtkgjpfamjedncaaGreat
