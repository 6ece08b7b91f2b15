-- What goes with the calls on a unit that is opened from the beginning of an image.
-- The document's cells are copied, out of a row.
import Derived.Test.YtkgjpfamjedncaaGreatCallCFrCallsFrC
import Derived.Test.YtkgjpfamjedncaaGreatHalfM
import Derived.Test.YtkgjpfamjedncaaGreatCopiedM
namespace Go.Proofs.YtkgjpfamjedncaaGreat
open Go.RowKit Go.Maps

/-- The document's call, with the number of contents that it may have then. -/
def DCallN (f : Nat) (args : Array Value) (w : World) (tag : Nat → Nat) (tr tv y : Nat) (a b c d u : Int) (nn' : Nat) (R : An × St) : Prop :=
  Calls Tryz.prog f args w fun en w' => ∃ v tag', en = .returned (R.1.val v) ∧ Told w' tag' tv v R.1.ct.val ∧ (∀ g, g < w.heap.size → tag' g = tag g) ∧ Dt w' tag' tr tv y a b c d u R.2 nn' ∧ Only (fun g => tag g = tr) w w'
theorem DCall.n {f : Nat} {args : Array Value} {w : World} {tag : Nat → Nat} {tr tv y : Nat} {a b c d u : Int} {nn : Nat} {R : An × St} (h : DCall f args w tag tr tv y a b c d u nn R) : DCallN f args w tag tr tv y a b c d u (nn + 1) R := h
theorem dn_read {w : World} {tag : Nat → Nat} {tr tv y : Nat} {a b c d u ch : Int} {s : St} {nn : Nat} (h : Dt w tag tr tv y a b c d u s nn) (hcha : cha a b c d u = (ch, 0)) (hnn : nn ≤ 4000000) (hne : tv ≠ tr) (e x : Int) :
    DCallN 41 #[.pointer (some ⟨y, 0, none⟩), .int .i64 e, .int .i64 x] w tag tr tv y a b c d u nn (readA a b c d ch s e x) := by
  obtain ⟨hf, hu, hu9, rfl⟩ := cha_ok hcha
  unfold readA
  by_cases he : e < s.ep
  · rw [if_pos he]
    refine (dt_readOld h hnn hu hu9 hf e x he tv).mono ?_
    rintro en w' ⟨rfl, h1, h2⟩
    exact ⟨nilS, tagTo tag w.heap.size tv, rfl, Told.nil _ _ _, fun g hg => tagTo_old _ _ _ _ hg, h1, h2⟩
  · rw [if_neg he]
    refine (dt_read h hnn hu hu9 hf hne e x he tv).mono ?_
    rintro en w' ⟨v, rfl, h0, h1, h2⟩
    exact ⟨v, tagTo tag w.heap.size tv, rfl, h0, fun g hg => tagTo_old _ _ _ _ hg, h1, h2⟩
theorem Way.byt {a b c d ch : Int} {rs : List Rc} {S : Nat → St} (h : Way a b c d ch rs S) : Byt (flat rs) := fun x hx => by
  obtain ⟨r, hr, hx⟩ := List.mem_flatMap.1 hx
  exact Rc.range (h.ok r hr) x hx
/-- A slice of its own that holds the beginning of an image. -/
theorem cut_take {w : World} {base n c : Nat} {a : Option Addr} {rs : List Rc} (hn : n ≤ (flat rs).length) (h : w.ownsRow base 5 1 (.slice a n c) n (((flat rs).take n).map B8)) : Cut w a n c rs := by
  rcases h.2 with ⟨h', hz⟩ | ⟨g, cap, cur, h', hb, hg, hc, hm, hs, ht⟩
  · simp only [Value.slice.injEq] at h'
    obtain ⟨rfl, rfl, rfl⟩ := h'
    exact ⟨by omega, Nat.le_refl _, by decide, 0, 0, fun h => absurd h (by decide), fun j d h => absurd h (by omega)⟩
  · simp only [Value.slice.injEq] at h'
    obtain ⟨rfl, _, rfl⟩ := h'
    refine ⟨by omega, hc, by unfold maxLen at hm; omega, g, 0, fun _ => ⟨rfl, (h.lt g rfl).2⟩, fun j d hj hd => ?_⟩
    rw [Nat.zero_add, h.cellAt j (by omega), List.getElem?_map, List.getElem?_take, if_pos hj, hd]
    rfl
theorem lent_slice {base : Nat} {w : World} {r : Value} {ys : List Int} (h : LentB base w r ys) : ∃ a c, r = .slice a ys.length c := by
  rcases h with ⟨rfl, rfl⟩ | ⟨g, rfl, _⟩
  · exact ⟨none, 0, rfl⟩
  · exact ⟨_, _, rfl⟩
theorem rowC_len (a b c d u : Int) (G : Nat → Int × Int × Value) : ∀ m, (rowC a b c d u G m).length = m * 8
  | 0 => rfl
  | m + 1 => by rw [rowC, List.length_append, rowC_len a b c d u G m]; simp; omega
theorem rowC_get (a b c d u : Int) (G : Nat → Int × Int × Value) (r : Nat) (hr : r < 8) : ∀ m i, i < m → (rowC a b c d u G m)[i * 8 + r]? = ([Value.int .i64 a, .int .i64 b, .int .i64 c, .int .i64 d, .int .i64 u, .int .i64 (G i).1, .int .i64 (G i).2.1, (G i).2.2] : List Value)[r]?
  | 0, i, hi => by omega
  | m + 1, i, hi => by
    by_cases e : i = m
    · subst e
      rw [rowC, List.getElem?_append_right (by rw [rowC_len]; omega), rowC_len, show i * 8 + r - i * 8 = r by omega]
    · rw [rowC, List.getElem?_append_left (by rw [rowC_len]; omega)]
      exact rowC_get a b c d u G r hr m i (by omega)

/-- All that was there bears 12; the new unit 10, the document's 11; boxes 3. -/
structure Pf (w0 w : World) (tag : Nat → Nat) (px gy : Nat) (a b c d u ch : Int) (rs1 : List Rc) (S1 : Nat → St) (s : St) (nn : Nat) (bx : List (Nat × Array Value × TypeId)) : Prop where
  bl : Bl w0 w
  old : ∀ g, g < w0.heap.size → tag g = 12
  kt : Kt w tag 10 px a b c d ch rs1 S1
  dt : Dt w tag 11 12 gy a b c d u s nn
  bo : Bo w tag bx
section
variable {w0 w w' : World} {tag tag' : Nat → Nat} {px gy : Nat} {a b c d u ch : Int} {rs1 : List Rc} {S1 : Nat → St} {s : St} {nn : Nat} {bx : List (Nat × Array Value × TypeId)}
theorem Pf.turn (h : Pf w0 w tag px gy a b c d u ch rs1 S1 s nn bx) {T : Nat → Prop} (ho : Only T w w') (hs : ∀ g, g < w.heap.size → T g → tag g ≠ 12) (ht : ∀ g, g < w.heap.size → tag' g = tag g) : Bl w0 w' ∧ ∀ g, g < w0.heap.size → tag' g = 12 := by
  have hlt := h.bl.lt
  exact ⟨⟨ho.os.trans h.bl.os, ho.tape.trans h.bl.tape, ho.output.trans h.bl.output, Nat.le_trans hlt ho.size, fun i hi => (ho.block i (by omega) fun e => hs i (by omega) e (h.old i hi)).trans (h.bl.heap hi)⟩, fun g hg => by rw [ht g (by omega)]; exact h.old g hg⟩
theorem Pf.bl' (h : Pf w0 w tag px gy a b c d u ch rs1 S1 s nn bx) (hb : Bl w w') (t : Nat) : Pf w0 w' (tagTo tag w.heap.size t) px gy a b c d u ch rs1 S1 s nn bx := by
  have O : Only (fun _ => False) w w' := Only.of_bl hb
  have old : ∀ g, g < w.heap.size → tagTo tag w.heap.size t g = tag g := fun _ hg => tagTo_old _ _ _ _ hg
  obtain ⟨r1, r2⟩ := h.turn O (fun _ _ e => e.elim) old
  exact ⟨r1, r2, h.kt.only O (fun _ _ e => e.elim) old, h.dt.only O (fun _ _ e => e.elim) old, h.bo.only O (fun _ _ e => e.elim) old⟩
theorem Pf.addBox (h : Pf w0 w tag px gy a b c d u ch rs1 S1 s nn bx) {g : Nat} {cs : Array Value} {t : TypeId} (hg : w.heap[g]? = some (.cells cs t (0, 0))) (ht : tag g = 3) : Pf w0 w tag px gy a b c d u ch rs1 S1 s nn (bx ++ [(g, cs, t)]) :=
  ⟨h.bl, h.old, h.kt, h.dt, fun x hx => by
    rcases List.mem_append.1 hx with hx | hx
    · exact h.bo x hx
    · simp at hx; rw [hx]; exact ⟨hg, ht⟩⟩
theorem Pf.newBox (h : Pf w0 w tag px gy a b c d u ch rs1 S1 s nn bx) (cs : Array Value) (t : TypeId) : Pf w0 (w.alloc (.cells cs t)) (tagTo tag w.heap.size 3) px gy a b c d u ch rs1 S1 s nn (bx ++ [(w.heap.size, cs, t)]) :=
  (h.bl' ((Bl.refl w).alloc _) 3).addBox (heap_alloc_new w _) (tagTo_new _ _ _ _ (Nat.le_refl _))
/-- A box turns. -/
theorem Pf.set7 {b1 b2 : List (Nat × Array Value × TypeId)} {g : Nat} {e0 e1 e2 e3 e4 e5 e6 : Value} (h : Pf w0 w tag px gy a b c d u ch rs1 S1 s nn (b1 ++ (g, #[e0, e1, e2, e3, e4, e5, e6], 98) :: b2)) (hd : ∀ x ∈ b1 ++ b2, x.1 ≠ g) (x0 x1 x2 x3 x4 x5 x6 : Value) :
    Pf w0 (((((((w.setCell ⟨g, 0, none⟩ x0).setCell ⟨g, 1, none⟩ x1).setCell ⟨g, 2, none⟩ x2).setCell ⟨g, 3, none⟩ x3).setCell ⟨g, 4, none⟩ x4).setCell ⟨g, 5, none⟩ x5).setCell ⟨g, 6, none⟩ x6) tag px gy a b c d u ch rs1 S1 s nn (b1 ++ (g, #[x0, x1, x2, x3, x4, x5, x6], 98) :: b2) := by
  obtain ⟨hg, tg⟩ := h.bo (g, #[e0, e1, e2, e3, e4, e5, e6], 98) (by simp)
  simp only at hg tg
  have O := Only.set7 (w := w) (S := fun b => b = g) (g := g) rfl x0 x1 x2 x3 x4 x5 x6
  have hT : ∀ k, k < w.heap.size → k = g → tag k = 3 := fun k _ e => by rw [e]; exact tg
  obtain ⟨r1, r2⟩ := h.turn (tag' := tag) O (fun k hk e => by rw [hT k hk e]; omega) (fun _ _ => rfl)
  refine ⟨r1, r2, h.kt.only O (fun k hk e => by rw [hT k hk e]; omega) (fun _ _ => rfl), h.dt.only O (fun k hk e => by rw [hT k hk e]; omega) (fun _ _ => rfl), fun x hx => ?_⟩
  have hx' : x = (g, #[x0, x1, x2, x3, x4, x5, x6], 98) ∨ x ∈ b1 ++ b2 := by
    simp only [List.mem_append, List.mem_cons] at hx ⊢
    rcases hx with hx | hx | hx
    · exact .inr (.inl hx)
    · exact .inl hx
    · exact .inr (.inr hx)
  rcases hx' with rfl | hx'
  · exact ⟨set7_heap hg x0 x1 x2 x3 x4 x5 x6, tg⟩
  · have hm : x ∈ b1 ++ (g, #[e0, e1, e2, e3, e4, e5, e6], 98) :: b2 := by
      simp only [List.mem_append, List.mem_cons] at hx' ⊢
      rcases hx' with hx' | hx'
      · exact .inl hx'
      · exact .inr (.inr hx')
    obtain ⟨k1, k2⟩ := h.bo x hm
    exact ⟨(O.block x.1 (Array.getElem?_eq_some_iff.1 k1).1 (hd x hx')).trans k1, k2⟩

/-- A call of the program's unit. -/
theorem pf_k {f : Nat} {args : Array Value} {R : An × St} (h : Pf w0 w tag px gy a b c d u ch rs1 S1 s nn bx) (hc : KCall f args w tag 10 px a b c d ch rs1 S1 R) :
    Calls Tryz.prog f args w fun en w' => ∃ va vc rs' S' tag', en = .returned (R.1.val (.slice va R.1.ct.val.length vc)) ∧ w'.ownsRow w.heap.size 5 1 (.slice va R.1.ct.val.length vc) R.1.ct.val.length (R.1.ct.val.map B8) ∧ (∀ g, (Value.slice va R.1.ct.val.length vc).ownBlock = some g → tag' g = 1) ∧ S' rs'.length = R.2 ∧ (flat rs').length ≤ (flat rs1).length + 60 ∧ (∀ g, g < w.heap.size → tag' g = tag g) ∧ Only (fun g => tag g = 10) w w' ∧ Pf w0 w' tag' px gy a b c d u ch rs' S' s nn bx := by
  refine Calls.mono hc ?_
  rintro en w' ⟨v, rs', S', rfl, ho, _, hE, hs, hkt, O⟩
  obtain ⟨va, vc, rfl⟩ := owned_slice' ho
  have old : ∀ g, g < w.heap.size → tagV tag w.heap.size 10 (.slice va R.1.ct.val.length vc) g = tag g := fun g hg => tagV_old _ _ _ _ _ hg
  obtain ⟨r1, r2⟩ := h.turn O (fun g _ e => by rw [e]; omega) old
  exact ⟨va, vc, rs', S', _, rfl, ho, fun g e => tagV_own _ _ _ _ _ (ho.lt g e).1 e, hE, hs, old, O, r1, r2, hkt, h.dt.only O (fun g _ e => by rw [e]; omega) old, h.bo.only O (fun g _ e => by rw [e]; omega) old⟩
/-- A call of the document's. -/
theorem pf_d {f : Nat} {args : Array Value} {R : An × St} {nn' : Nat} (h : Pf w0 w tag px gy a b c d u ch rs1 S1 s nn bx) (hc : DCallN f args w tag 11 12 gy a b c d u nn' R) :
    Calls Tryz.prog f args w fun en w' => ∃ va vc tag', en = .returned (R.1.val (.slice va R.1.ct.val.length vc)) ∧ w'.ownsRow 0 5 1 (.slice va R.1.ct.val.length vc) R.1.ct.val.length (R.1.ct.val.map B8) ∧ (∀ g, g < w.heap.size → tag' g = tag g) ∧ Only (fun g => tag g = 11) w w' ∧ Pf w0 w' tag' px gy a b c d u ch rs1 S1 R.2 nn' bx := by
  refine Calls.mono hc ?_
  rintro en w' ⟨v, tag', rfl, ⟨⟨va, vc, rfl⟩, ho, _⟩, old, hdt, O⟩
  obtain ⟨r1, r2⟩ := h.turn O (fun g _ e => by rw [e]; omega) old
  exact ⟨va, vc, tag', rfl, ho, old, O, r1, r2, h.kt.only O (fun g _ e => by rw [e]; omega) old, hdt, h.bo.only O (fun g _ e => by rw [e]; omega) old⟩
/-- The unit is opened from its whole image. -/
theorem pf_image (h : Pf w0 w tag px gy a b c d u ch rs1 S1 s nn bx) (hl : (flat rs1).length ≤ 30000000) :
    Calls Tryz.prog 35 #[.pointer (some ⟨px, 0, none⟩)] w fun en w' => ∃ ia ic, en = .returned (.slice ia (flat rs1).length ic) ∧ Cut w' ia (flat rs1).length ic rs1 ∧ Bl w w' ∧ Pf w0 w' (tagTo tag w.heap.size 4) px gy a b c d u ch rs1 S1 s nn bx := by
  refine (kt_image h.kt hl).mono ?_
  rintro en w' ⟨v, rfl, hb, ho⟩
  obtain ⟨ia, ic, rfl⟩ := owned_slice' ho
  exact ⟨ia, ic, rfl, cut_own ho, hb, h.bl' hb 4⟩
theorem pf_open (h : Pf w0 w tag px gy a b c d u ch rs1 S1 s nn bx) (hcha : cha a b c d u = (ch, 0)) (ia : Option Addr) (ic : Nat) (hc : Cut w ia (flat rs1).length ic rs1) (hl : (flat rs1).length ≤ 30000000) :
    Calls Tryz.prog 29 #[.agg #[.int .i64 a, .int .i64 b, .int .i64 c, .int .i64 d], .int .i64 u, .slice ia (flat rs1).length ic] w fun en w' => ∃ p, en = .returned (.tuple #[.pointer (some ⟨p, 0, none⟩), .int .i64 0]) ∧ Bl w w' ∧ Pf w0 w' (tagTo tag w.heap.size 10) p gy a b c d u ch rs1 S1 s nn bx := by
  refine (kt_open h.kt.way u hcha ia (flat rs1).length ic hl hc tag 10).mono ?_
  rintro en w' ⟨k, p', rfl, hk1, hk2, hk3, hp', hb2, hv2⟩
  have hk : k = rs1.length := by
    apply Classical.byContradiction
    intro hne
    have hlt : k < rs1.length := by omega
    have h3 := hk3 hlt
    rw [← off_succ rs1 k hlt, ← off_all] at h3
    have := off_mono rs1 (k + 1) rs1.length (by omega) (Nat.le_refl _)
    omega
  subst hk
  rw [List.take_of_length_le (Nat.le_refl _)] at hv2
  have h' := h.bl' hb2 10
  exact ⟨p', rfl, hb2, h'.bl, h'.old, hv2, h'.dt, h'.bo⟩
end
end Go.Proofs.YtkgjpfamjedncaaGreat

namespace Go.Proofs.YtkgjpfamjedncaaGreat
open Go.RowKit Go.Maps
attribute [local go_sem ↓] Go.wp_at_zero Go.wp_at_succ

theorem row5_one {w : World} {n : Nat} {F : Nat → Wq} (h : ∀ i, i < n → w.ownsRow 0 5 1 (F i).v (F i).ys.length ((F i).ys.map B8)) : ∀ q ∈ row5 F n, q.oneCell' = true := by
  have key : ∀ m, m ≤ n → ∀ q ∈ row5 F m, q.oneCell' = true := by
    intro m
    induction m with
    | zero => intro _ q hq; simp [row5] at hq
    | succ m ih =>
      intro hm q hq
      rw [row5, List.mem_append] at hq
      rcases hq with hq | hq
      · exact ih (by omega) q hq
      · simp only [wq5, List.mem_cons, List.not_mem_nil, or_false] at hq
        rcases hq with rfl | rfl | rfl | rfl | rfl
        · rfl
        · rfl
        · rfl
        · rfl
        · exact owns_oneCell (h m (by omega))
  exact key n (Nat.le_refl _)

set_option maxRecDepth 100000 in
set_option maxHeartbeats 4000000 in
theorem refCopiedAt_any (y o : Nat) (a b c d u ep mk : Int) (lv : Value) (n : Nat) (F : Nat → Wq) (w : World) (ly : y < w.heap.size)
    (k0 : w.cell? ⟨y, o, none⟩ = some (.int .i64 a)) (k1 : w.cell? ⟨y, o + 1, none⟩ = some (.int .i64 b)) (k2 : w.cell? ⟨y, o + 2, none⟩ = some (.int .i64 c)) (k3 : w.cell? ⟨y, o + 3, none⟩ = some (.int .i64 d)) (k4 : w.cell? ⟨y, o + 4, none⟩ = some (.int .i64 u)) (k5 : w.cell? ⟨y, o + 5, none⟩ = some (.int .i64 ep)) (k6 : w.cell? ⟨y, o + 6, none⟩ = some (.int .i64 mk)) (k7 : w.cell? ⟨y, o + 7, none⟩ = some lv)
    (hown : w.ownsRow 0 137 5 lv n (row5 F n)) (h1c : ∀ q ∈ row5 F n, q.oneCell' = true) (hn : n ≤ 4000000) :
    Calls Tryz.prog 39 #[.pointer (some ⟨y, o, none⟩)] w fun en w' => ∃ ca cc, en = .returned (.agg #[.int .i64 a, .int .i64 b, .int .i64 c, .int .i64 d, .int .i64 u, .int .i64 ep, .int .i64 mk, .slice ca n cc]) ∧ Bl w w' ∧ w'.ownsRow w.heap.size 137 5 (.slice ca n cc) n (row5 F n) := by
  obtain ⟨i137, j137, t0, t1, t2⟩ := info_parts Tryz.info137
  have bA := (Bl.refl w).alloc (.cells blank8 77)
  have HN := hid (heap_alloc_new w (.cells blank8 77))
  obtain ⟨la, lc, hlv⟩ : ∃ la lc, lv = .slice la n lc := by
    rcases hown.2 with ⟨e, e'⟩ | ⟨g, cap, cur, e, _⟩
    · exact ⟨_, _, by rw [e, e']⟩
    · exact ⟨_, _, e⟩
  subst hlv
  have HA := hid ((Only.of_bl (S := fun _ => False) bA).owns hown fun _ _ e => e)
  have H1c := hid h1c
  have HK := hid (And.intro k0 (And.intro k1 (And.intro k2 (And.intro k3 (And.intro k4 (And.intro k5 k6))))))
  have HbA := hid bA
  have nyN : ¬ y = w.heap.size := by omega
  have hm1 : Hid (0 + n ≤ maxLen) := by unfold Hid maxLen; omega
  have hb1 : Hid ((0 + n) * 56 ≤ 140737488355328) := by unfold Hid; omega
  clear hown h1c bA k0 k1 k2 k3 k4 k5 k6
  go_enter Tryz.func39, Tryz.ntmps39
  go_wp2_with (at_builtin; refine wpList_append_row _ rfl _ _ 75 rfl w.heap.size 137 i137 _ 5 56 Tryz.underlying75 j137 t0 t1 t2 rfl (by decide) _ 0 [] rfl (World.ownsRow_nil _ _ _ _) _ n 0 _ rfl HA.out H1c.out hm1.out hb1.out (by simp) ?_)
  intro lw w1 r1 r2 r3
  have b1 := HbA.out.trans (r2.to_bl fun k _ e => by simp [Value.ownBlock] at e)
  have hN1 := ((r2.to_bl fun k _ e => by simp [Value.ownBlock] at e).heap (by simp)).trans HN.out
  have r1' : w1.ownsRow w.heap.size 137 5 lw n (row5 F n) := by simpa using r1
  obtain ⟨ca, cc, hlc⟩ : ∃ ca cc, lw = .slice ca n cc := by
    rcases r1'.2 with ⟨e, e'⟩ | ⟨g, cap, cur, e, _⟩
    · exact ⟨_, _, by rw [e, e']⟩
    · exact ⟨_, _, e⟩
  subst hlc
  obtain ⟨⟨n0, n1, n2, n3, n4, n5, n6, n7⟩, f0, f1, f2, f3, f4, f5, f6, f7⟩ := row8 hN1
  obtain ⟨k0, k1, k2, k3, k4, k5, k6⟩ := HK.out
  have m0 := (b1.cell ly).trans k0
  have m1 := (b1.cell ly).trans k1
  have m2 := (b1.cell ly).trans k2
  have m3 := (b1.cell ly).trans k3
  have m4 := (b1.cell ly).trans k4
  have m5 := (b1.cell ly).trans k5
  have m6 := (b1.cell ly).trans k6
  have ly1 := Nat.lt_of_lt_of_le ly b1.lt
  have lN : w.heap.size < w1.heap.size := (Array.getElem?_eq_some_iff.1 hN1).1
  have nNy : ¬ w.heap.size = y := by omega
  have HB1 := hid b1
  have HR1 : Hid (w1.ownsRow w.heap.size 137 5 (.slice ca n cc) n (row5 F n)) := r1'
  have HN1 := hid hN1
  clear r1 r1' r2 r3 b1 hN1 k0 k1 k2 k3 k4 k5 k6 k7
  go_upto_region 3 with fail
  go_region_held3 (fun W => W.cell? ⟨y, o, none⟩ = some (.int .i64 a) ∧ W.cell? ⟨y, o + 1, none⟩ = some (.int .i64 b) ∧ W.cell? ⟨y, o + 2, none⟩ = some (.int .i64 c) ∧ W.cell? ⟨y, o + 3, none⟩ = some (.int .i64 d) ∧ W.cell? ⟨y, o + 4, none⟩ = some (.int .i64 u) ∧ W.cell? ⟨y, o + 5, none⟩ = some (.int .i64 ep) ∧ W.cell? ⟨y, o + 6, none⟩ = some (.int .i64 mk)) (go_keep) (fail)
  all_goals
    go_wp2
    have Z := ((((((((Only.refl (fun b => b = w.heap.size) w1).setCell ⟨w.heap.size, 0, none⟩ (.inl rfl) (.int .i64 a)).setCell ⟨w.heap.size, 1, none⟩ (.inl rfl) (.int .i64 b)).setCell ⟨w.heap.size, 2, none⟩ (.inl rfl) (.int .i64 c)).setCell ⟨w.heap.size, 3, none⟩ (.inl rfl) (.int .i64 d)).setCell ⟨w.heap.size, 4, none⟩ (.inl rfl) (.int .i64 u)).setCell ⟨w.heap.size, 5, none⟩ (.inl rfl) (.int .i64 ep)).setCell ⟨w.heap.size, 6, none⟩ (.inl rfl) (.int .i64 mk)).setCell ⟨w.heap.size, 7, none⟩ (.inl rfl) (.slice ca n cc)
    have hB := HB1.out.trans_only Z fun n e => by omega
    have hR := Z.owns HR1.out fun b hb e => own_ne_block HR1.out HN1.out (by decide) (by rw [hb, e])
    exact bodyPost_ret (v := .agg #[.int .i64 a, .int .i64 b, .int .i64 c, .int .i64 d, .int .i64 u, .int .i64 ep, .int .i64 mk, .slice ca n cc]) (by simp [results, Tryz.results39, go_sem, n0, n1, n2, n3, n4, n5, n6, n7]) rfl ⟨ca, cc, rfl, hB.drew, (Only.of_bl (S := fun _ => False) (Bl.refl _).drew).owns hR fun _ _ e => e⟩
end Go.Proofs.YtkgjpfamjedncaaGreat
