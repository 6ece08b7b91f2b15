-- alone: one that asks all voters.
import Derived.Test.YtbghhbpacijmmaaGroup
import Derived.Test.YtbghhbpacijmmaaStr
namespace Go.Proofs.Ytbghhbpacijmmaa
open Go.RowKit Go.Maps
attribute [local go_sem ↓] Go.wp_at_zero Go.wp_at_succ

theorem Only.trans_on {S T : Nat → Prop} {a b c : World} (h : Only S a b) (k : Only T b c) (hs : ∀ n, n < a.heap.size → T n → S n) : Only S a c :=
  ⟨k.os.trans h.os, k.tape.trans h.tape, k.output.trans h.output, Nat.le_trans h.size k.size, fun i hi hn => by rw [k.block i (Nat.lt_of_lt_of_le hi h.size) (fun e => hn (hs i hi e)), h.block i hi hn]⟩

/-- Bytes of a value that is voted for here. -/
def Good (ys : List Int) : Prop := 1 ≤ ys.length ∧ ys.length ≤ 5 ∧ ∀ d ∈ ys, 0 ≤ d ∧ d ≤ 255

/-- What one that has asked the first i voters was told. -/
def Best (ep : Nat → Ep) (i : Nat) (b : Int) (v : List Int) : Prop :=
  (b = 0 ∧ v = [122] ∧ ∀ j, j < i → (ep j).ba ≤ 0) ∨ (0 < b ∧ ∃ j, j < i ∧ (ep j).ba = b ∧ (ep j).val = v ∧ ∀ j', j' < i → (ep j').ba ≤ b)
theorem Best.yes {ep : Nat → Ep} {i : Nat} {b : Int} {v : List Int} (h : Best ep i b v) (hlt : b < (ep i).ba) : Best ep (i + 1) (ep i).ba (ep i).val := by
  have h0 : 0 ≤ b ∧ ∀ j, j < i → (ep j).ba ≤ b := by
    rcases h with ⟨rfl, _, h⟩ | ⟨h0, _, _, _, _, h⟩
    · exact ⟨Int.le_refl _, h⟩
    · exact ⟨by omega, h⟩
  refine .inr ⟨by omega, i, by omega, rfl, rfl, fun j hj => ?_⟩
  by_cases e : j = i
  · subst e; exact Int.le_refl _
  · have := h0.2 j (by omega); omega
theorem Best.no {ep : Nat → Ep} {i : Nat} {b : Int} {v : List Int} (h : Best ep i b v) (hlt : ¬ b < (ep i).ba) : Best ep (i + 1) b v := by
  rcases h with ⟨rfl, h1, h⟩ | ⟨h0, j, h1, h2, h3, h⟩
  · refine .inl ⟨rfl, h1, fun j hj => ?_⟩
    by_cases e : j = i
    · subst e; omega
    · exact h j (by omega)
  · refine .inr ⟨h0, j, by omega, h2, h3, fun j' hj => ?_⟩
    by_cases e : j' = i
    · subst e; omega
    · exact h j' (by omega)
theorem Best.good {ep : Nat → Ep} {i n : Nat} {b : Int} {v : List Int} (h : Best ep i b v) (hi : i ≤ n) (hg : ∀ j, j < n → 0 < (ep j).ba → Good (ep j).val) : Good v := by
  rcases h with ⟨_, rfl, _⟩ | ⟨h0, j, h1, h2, h3, h⟩
  · exact ⟨by simp, by simp, by simp⟩
  · rw [← h3]; exact hg j (by omega) (by omega)

/-- Where one comes to from w by calls of voters. -/
structure Al (n : Nat) (w : World) (tag P : Nat → Nat) (t : Nat) (EE : Nat → Int → Ep) (wr : World) : Prop where
  ex : ∃ tag', Vots n wr tag' P t EE ∧ ∀ b, b < w.heap.size → tag' b = tag b
  only : Only (fun b => tag b < n) w wr
theorem Al.refl {n : Nat} {w : World} {tag P : Nat → Nat} {t : Nat} {EE : Nat → Int → Ep} (h : Vots n w tag P t EE) : Al n w tag P t EE w := ⟨⟨tag, h, fun _ _ => rfl⟩, Only.refl _ _⟩
theorem Al.bl {n : Nat} {w wr W : World} {tag P : Nat → Nat} {t : Nat} {EE : Nat → Int → Ep} (h : Al n w tag P t EE wr) (hb : Bl wr W) : Al n w tag P t EE W := by
  obtain ⟨⟨tag', h1, h2⟩, h3⟩ := h
  exact ⟨⟨tag', h1.bl hb, h2⟩, h3.trans (Only.of_bl hb)⟩
theorem Al.cell {n : Nat} {w wr : World} {tag P : Nat → Nat} {t : Nat} {EE : Nat → Int → Ep} (h : Al n w tag P t EE wr) {b o : Nat} (hb : b < w.heap.size) (ht : n ≤ tag b) : wr.cell? ⟨b, o, none⟩ = w.cell? ⟨b, o, none⟩ := h.only.cell hb (by omega)
theorem Al.mono {n : Nat} {w wr : World} {tag P : Nat → Nat} {t t' : Nat} {EE : Nat → Int → Ep} (h : Al n w tag P t EE wr) (ht : t ≤ t') : Al n w tag P t' EE wr := by
  obtain ⟨⟨tag', h1, h2⟩, h3⟩ := h
  exact ⟨⟨tag', h1.mono ht, h2⟩, h3⟩

theorem al_prep {n k : Nat} {w wr W : World} {tag P : Nat → Nat} {t : Nat} {EE : Nat → Int → Ep} (h : Al n w tag P t EE wr) (hW : Bl wr W) (hk : k < n) (e b : Int) (he : 1 ≤ e) (hwf : (Lit.int .i64 e).wf = true) (hbf : (Lit.int .i64 b).wf = true) (ht : t ≤ 1000000) (h1 : 1 ≤ b) (h2 : (EE k e).pr < b) :
    Calls Try.prog 16 #[.pointer (some ⟨P k, 0, none⟩), .int .i64 e, .int .i64 b] W fun en w' => ∃ va vc, en = .returned (voteR 1 b (EE k e).ba (.slice va (EE k e).val.length vc)) ∧ Sl w' (.slice va (EE k e).val.length vc) ((EE k e).val.map B8) ∧ Al n w tag P (t + 1) (upN EE k (updE (EE k) e ⟨b, (EE k e).ba, (EE k e).val⟩)) w' := by
  obtain ⟨⟨tag', g1, g2⟩, g3⟩ := h
  refine (vots_prep g1 hW hk e b he hwf hbf ht h1 h2).mono ?_
  rintro en w' ⟨va, vc, rfl, r1, r2, r3⟩
  have l1 := g3.size
  have l2 := hW.lt
  exact ⟨va, vc, rfl, ownsRow_sl r1, ⟨_, r2, fun b hb => by rw [tagTo_old _ _ _ _ (by omega), g2 b hb]⟩, (g3.trans (Only.of_bl hW)).trans_on r3 fun b hb e => by rw [← g2 b hb, e]; exact hk⟩
theorem al_acc {n k : Nat} {w wr W : World} {tag P : Nat → Nat} {t : Nat} {EE : Nat → Int → Ep} (h : Al n w tag P t EE wr) (hW : Bl wr W) (hk : k < n) (e b : Int) (he : 1 ≤ e) (hwf : (Lit.int .i64 e).wf = true) (hbf : (Lit.int .i64 b).wf = true) (ht : t ≤ 1000000) (h1 : 1 ≤ b) (h2 : (EE k e).pr ≤ b) (h3 : (EE k e).ba ≤ (EE k e).pr)
    (v : Value) (ys : List Int) (hv : Bs W v (ys.map B8)) (hvb : ∀ g, v.ownBlock = some g → wr.heap.size ≤ g ∧ g < W.heap.size) (hg : Good ys) :
    Calls Try.prog 17 #[.pointer (some ⟨P k, 0, none⟩), .int .i64 e, .int .i64 b, v] W fun en w' => en = .returned (voteR 1 b 0 (.slice none 0 0)) ∧ Al n w tag P (t + 1) (upN EE k (updE (EE k) e ⟨b, b, ys⟩)) w' := by
  obtain ⟨⟨tag', g1, g2⟩, g3⟩ := h
  refine (vots_acc g1 hW hk e b he hwf hbf ht h1 h2 h3 v ys hv hvb hg.1 hg.2.1 hg.2.2).mono ?_
  rintro en w' ⟨rfl, r2, r3⟩
  have l1 := g3.size
  have l2 := hW.lt
  exact ⟨rfl, ⟨_, r2, fun b hb => by rw [tagTo_old _ _ _ _ (by omega), g2 b hb]⟩, (g3.trans (Only.of_bl hW)).trans_on r3 fun b hb e => by rw [← g2 b hb, e]; exact hk⟩

/-- The first i have promised. -/
def EP (EE : Nat → Int → Ep) (e B : Int) (i : Nat) : Nat → Int → Ep := fun j => if j < i then updE (EE j) e ⟨B, (EE j e).ba, (EE j e).val⟩ else EE j
theorem EP_zero (EE : Nat → Int → Ep) (e B : Int) : EP EE e B 0 = EE := by funext j; simp [EP]
theorem EP_at (EE : Nat → Int → Ep) (e B : Int) (i : Nat) : EP EE e B i i = EE i := by simp [EP]
theorem EP_succ (EE : Nat → Int → Ep) (e B : Int) (i : Nat) : upN (EP EE e B i) i (updE (EE i) e ⟨B, (EE i e).ba, (EE i e).val⟩) = EP EE e B (i + 1) := by
  funext j
  unfold upN EP
  by_cases e1 : j = i
  · subst e1; simp
  · rw [if_neg e1]
    by_cases e2 : j < i
    · rw [if_pos e2, if_pos (by omega)]
    · rw [if_neg e2, if_neg (by omega)]
/-- The first i have voted. -/
def EA (EE : Nat → Int → Ep) (e B : Int) (n : Nat) (ys : List Int) (i : Nat) : Nat → Int → Ep := fun j => if j < i then updE (EP EE e B n j) e ⟨B, B, ys⟩ else EP EE e B n j
theorem EA_zero (EE : Nat → Int → Ep) (e B : Int) (n : Nat) (ys : List Int) : EA EE e B n ys 0 = EP EE e B n := by funext j; simp [EA]
theorem EA_at (EE : Nat → Int → Ep) (e B : Int) (n : Nat) (ys : List Int) (i : Nat) (hi : i < n) : EA EE e B n ys i i e = ⟨B, (EE i e).ba, (EE i e).val⟩ := by simp [EA, EP, hi, updE]
theorem EA_succ (EE : Nat → Int → Ep) (e B : Int) (n : Nat) (ys : List Int) (i : Nat) : upN (EA EE e B n ys i) i (updE (EA EE e B n ys i i) e ⟨B, B, ys⟩) = EA EE e B n ys (i + 1) := by
  funext j
  unfold upN EA
  by_cases e1 : j = i
  · subst e1; simp
  · rw [if_neg e1]
    by_cases e2 : j < i
    · rw [if_pos e2, if_pos (by omega)]
    · rw [if_neg e2, if_neg (by omega)]

set_option maxRecDepth 100000 in
set_option maxHeartbeats 4000000 in
theorem alone_any (n : Nat) (w : World) (tag P : Nat → Nat) (t : Nat) (EE : Nat → Int → Ep) (vb vc : Nat) (e B : Int) (hn : 1 ≤ n) (hn5 : n ≤ 5) (h : Vots n w tag P t EE) (hvb : vb < w.heap.size) (htv : n ≤ tag vb) (hvs : ∀ i, i < n → w.cell? ⟨vb, i, none⟩ = some (.pointer (some ⟨P i, 0, none⟩)))
    (he : 1 ≤ e) (hwf : (Lit.int .i64 e).wf = true) (hbf : (Lit.int .i64 B).wf = true) (ht : t ≤ 900000) (h1 : 1 ≤ B) (h2 : ∀ i, i < n → (EE i e).pr < B ∧ (EE i e).ba ≤ (EE i e).pr) (hg : ∀ i, i < n → 0 < (EE i e).ba → Good (EE i e).val) :
    Calls Try.prog 20 #[.slice (some ⟨vb, 0, none⟩) n vc, .int .i64 e, .int .i64 B] w fun en w' => ∃ b v, en = .returned (.string (strOf v)) ∧ Best (fun i => EE i e) n b v ∧ Good v ∧ Only (fun b => tag b < n) w w' := by
  have HA := hid (Al.refl h)
  have Hvs := hid hvs
  have H2 := hid h2
  have Hg := hid hg
  have Hwf := hid hwf
  have Hbf := hid hbf
  clear h hvs h2 hg hwf hbf
  go_enter Try.func20, Try.ntmps20
  go_wp2
  go_loopw [7, 8, 9] (fun bv sv iv wr => ∃ (i : Nat) (b : Int) (v : List Int), i ≤ n ∧ bv = .int .i64 b ∧ sv = .string (strOf v) ∧ iv = .int .i64 i ∧ Hid (Best (fun i => EE i e) i b v) ∧ Hid (Al n w tag P (t + i) (EP EE e B i) wr)) (fun _ _ iv _ => n - (intOf iv).toNat)
  case atStart => exact ⟨0, 0, [122], Nat.zero_le _, rfl, rfl, rfl, .inl ⟨rfl, rfl, fun j h => by omega⟩, by rw [EP_zero]; exact HA.out⟩
  case round =>
    obtain ⟨i, b, v, hi, rfl, rfl, rfl, HBe, HAl⟩ := hrel
    by_cases hlt : i < n
    · have hlt' : (i : Int) < (n : Int) := by omega
      have lvb : vb < wr.heap.size := Nat.lt_of_lt_of_le hvb HAl.out.only.size
      have q := (HAl.out.cell (o := i) hvb htv).trans (Hvs.out i hlt)
      have HP := hid (al_prep HAl.out (Bl.refl wr) hlt e B he Hwf.out Hbf.out (by omega) h1 (by rw [EP_at]; exact (H2.out i hlt).1))
      rw [EP_at, EP_succ] at HP
      have h2i := H2.out i hlt
      have hno : ¬ B ≤ (EE i e).ba := by omega
      have HY := hid (fun hlt => HBe.out.yes (ep := fun i => EE i e) hlt)
      have HN := hid (fun hlt => HBe.out.no (ep := fun i => EE i e) hlt)
      clear h2i
      generalize (EE i e).ba = ba at *
      generalize (EE i e).val = ev at *
      go_wp2_with fail
      refine HP.out.mono ?_
      rintro en w1 ⟨va, vcc, rfl, hs, hal⟩
      have HS := hid hs
      have HL := hid hal
      have kc := conv_any _ ev (w1.alloc (.cells #[.int .i64 1, .int .i64 B, .int .i64 ba, .slice va ev.length vcc] 48)) (hs.bl ((Bl.refl w1).alloc _))
      clear hs hal HP
      unfold voteR
      have HF := hid (HL.out.bl ((Bl.refl w1).alloc (.cells #[.int .i64 1, .int .i64 B, .int .i64 ba, .slice va ev.length vcc] 48)))
      by_cases hgt : b < ba
      · have HY' := hid (HY.out (by omega))
        clear HY HN
        go_wp2
        go_roundw
        case rel => exact ⟨i + 1, ba, ev, by omega, rfl, rfl, by go_num, HY'.out, HF.out⟩
        case measure => simp [intOf]; omega
      · have HN' := hid (HN.out (by omega))
        clear HY HN
        go_wp2
        go_roundw
        case rel => exact ⟨i + 1, b, v, by omega, rfl, rfl, by go_num, HN'.out, HF.out⟩
        case measure => simp [intOf]; omega
    · obtain rfl : i = n := by omega
      have HGo := hid (HBe.out.good (Nat.le_refl _) Hg.out)
      have HA2 := hid HAl.out
      clear HAl HA
      go_wp2
      go_loopw [11] (fun iv wr2 => ∃ (j : Nat), j ≤ i ∧ iv = .int .i64 j ∧ Hid (Al i w tag P (t + i + j) (EA EE e B i v j) wr2)) (fun iv _ => i - (intOf iv).toNat)
      case atStart => exact ⟨0, Nat.zero_le _, rfl, by rw [EA_zero]; exact HA2.out⟩
      case round =>
        obtain ⟨j, hj, rfl, HAl⟩ := hrel
        by_cases hlt : j < i
        · have hlt' : (j : Int) < (i : Int) := by omega
          have lvb : vb < wr.heap.size := Nat.lt_of_lt_of_le hvb HAl.out.only.size
          have q := (HAl.out.cell (o := j) hvb htv).trans (Hvs.out j hlt)
          have kc := run_bytes_of_string (P := Try.prog) wr 9 22 5 (strOf v) Try.underlying9 Try.underlying22 Try.underlying5
          rw [strOf_size] at kc
          have kb := bytes_of wr.drew v HGo.out.2.2 (grownCap wr v.length 0 5) ((bytesRow (strOf v) (grownCap wr v.length 0 5)).size, (bytesRow (strOf v) (grownCap wr v.length 0 5)).size + 1)
          have hat := EA_at EE e B i v j hlt
          have h2i := H2.out j hlt
          have HP := hid (al_acc HAl.out ((Bl.refl wr).drew.alloc (.cells (bytesRow (strOf v) (grownCap wr v.length 0 5)) 5 ((bytesRow (strOf v) (grownCap wr v.length 0 5)).size, (bytesRow (strOf v) (grownCap wr v.length 0 5)).size + 1))) hlt e B he Hwf.out Hbf.out (by omega) h1 (by rw [hat]; exact Int.le_refl _) (by rw [hat]; show (EE j e).ba ≤ B; omega) _ v kb (fun g e => by
            simp [Value.ownBlock] at e
            subst e
            simp) HGo.out)
          rw [EA_succ] at HP
          clear kb hat h2i
          go_wp2_with fail
          refine HP.out.mono ?_
          rintro en w1 ⟨rfl, hal⟩
          have HF := hid (hal.bl ((Bl.refl w1).alloc (.cells #[.int .i64 1, .int .i64 B, .int .i64 0, .slice none 0 0] 48)))
          clear hal HP kc
          unfold voteR
          go_wp2
          go_roundw
          case rel => exact ⟨j + 1, by omega, by go_num, HF.out⟩
          case measure => simp [intOf]; omega
        · obtain rfl : j = i := by omega
          have HO := hid HAl.out.only
          go_wp2
          go_ret
          exact ⟨b, v, rfl, HBe.out, HGo.out, HO.out⟩
end Go.Proofs.Ytbghhbpacijmmaa
