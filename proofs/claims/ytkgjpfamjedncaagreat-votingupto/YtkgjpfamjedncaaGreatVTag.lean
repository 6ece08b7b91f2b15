-- A voter whose blocks bear a mark: what its calls do.
import Derived.Test.YtkgjpfamjedncaaGreatApartStr
import Derived.Test.YtkgjpfamjedncaaGreatBackB
namespace Go.Proofs.YtkgjpfamjedncaaGreat
open Go.RowKit Go.Maps

/-- New blocks bear i, but those of v, which bear 1. -/
def tagV (tag : Nat → Nat) (N i : Nat) (v : Value) : Nat → Nat := fun b => if b < N then tag b else if v.ownBlock = some b then 1 else i
theorem tagV_old (tag : Nat → Nat) (N i : Nat) (v : Value) (b : Nat) (h : b < N) : tagV tag N i v b = tag b := by simp [tagV, h]
theorem tagV_own (tag : Nat → Nat) (N i : Nat) (v : Value) (b : Nat) (h : N ≤ b) (hb : v.ownBlock = some b) : tagV tag N i v b = 1 := by unfold tagV; rw [if_neg (by omega), if_pos hb]
theorem tagV_new (tag : Nat → Nat) (N i : Nat) (v : Value) (b : Nat) (h : N ≤ b) (hb : v.ownBlock ≠ some b) : tagV tag N i v b = i := by unfold tagV; rw [if_neg (by omega), if_neg hb]
def tagTo (tag : Nat → Nat) (N i : Nat) : Nat → Nat := fun b => if b < N then tag b else i
theorem tagTo_old (tag : Nat → Nat) (N i b : Nat) (h : b < N) : tagTo tag N i b = tag b := by simp [tagTo, h]
theorem tagTo_new (tag : Nat → Nat) (N i b : Nat) (h : N ≤ b) : tagTo tag N i b = i := by unfold tagTo; rw [if_neg (by omega)]

/-- The voter in block p, whose blocks bear the mark tg, has the records rs, with the states S. -/
def Vt (w : World) (tag : Nat → Nat) (tg p : Nat) (rs : List Rc) (S : Nat → Int → Ep) : Prop :=
  ∃ bm M vi, Vs 0 w p bm rs.length (S rs.length) (flat rs) M vi 132 ∧ VWay rs S ∧ tag p = tg ∧ tag bm = tg ∧ ∀ g, Foot M vi g → tag g = tg
theorem Vt.lt {w : World} {tag : Nat → Nat} {tg p : Nat} {rs : List Rc} {S : Nat → Int → Ep} (h : Vt w tag tg p rs S) : p < w.heap.size ∧ tag p = tg := by
  obtain ⟨bm, M, vi, hv, _, hp, _⟩ := h
  exact ⟨hv.lt, hp⟩
theorem Vt.way {w : World} {tag : Nat → Nat} {tg p : Nat} {rs : List Rc} {S : Nat → Int → Ep} (h : Vt w tag tg p rs S) : VWay rs S := by
  obtain ⟨bm, M, vi, _, hw, _⟩ := h
  exact hw
theorem Vt.only {T : Nat → Prop} {w w' : World} {tag tag' : Nat → Nat} {tg p : Nat} {rs : List Rc} {S : Nat → Int → Ep} (h : Vt w tag tg p rs S) (ho : Only T w w') (hs : ∀ b, b < w.heap.size → T b → tag b ≠ tg) (ht : ∀ b, b < w.heap.size → tag' b = tag b) : Vt w' tag' tg p rs S := by
  obtain ⟨bm, M, vi, hv, hw, hp, hb, hg⟩ := h
  exact ⟨bm, M, vi, hv.apart ho (fun e => hs p hv.lt e hp) (fun e => hs bm hv.mp.lt e hb) (fun g hl hF e => hs g hl e (hg g hF)), hw, by rw [ht p hv.lt, hp], by rw [ht bm hv.mp.lt, hb], fun g hF => by rw [ht g (hv.foot_lt hF).2, hg g hF]⟩
theorem Vt.bl {w w' : World} {tag : Nat → Nat} {tg p : Nat} {rs : List Rc} {S : Nat → Int → Ep} (h : Vt w tag tg p rs S) (hb : Bl w w') : Vt w' tag tg p rs S := h.only (Only.of_bl (S := fun _ => False) hb) (fun _ _ e => e.elim) (fun _ _ => rfl)
theorem Vt.vals {w : World} {tag : Nat → Nat} {tg p : Nat} {rs : List Rc} {S : Nat → Int → Ep} (h : Vt w tag tg p rs S) (e : Int) : (S rs.length e).val.length ≤ 255 ∧ ∀ d ∈ (S rs.length e).val, 0 ≤ d ∧ d ≤ 255 := h.way.vals _ (Nat.le_refl _) e
/-- The states, with one more. -/
def upS (S : Nat → Int → Ep) (n : Nat) (E' : Int → Ep) : Nat → Int → Ep := fun j => if j = n + 1 then E' else S j
theorem upS_last (S : Nat → Int → Ep) (rs : List Rc) (r : Rc) (E' : Int → Ep) : upS S rs.length E' (rs ++ [r]).length = E' := by simp [upS]
theorem upS_old (S : Nat → Int → Ep) (n k : Nat) (E' : Int → Ep) (h : k ≤ n) : upS S n E' k = S k := by unfold upS; rw [if_neg (by omega)]
/-- A call leaves a record. -/
theorem Vt.step {w w' : World} {tag : Nat → Nat} {tg p bm : Nat} {M M' : Int → Value} {vi vi' : Value} {rs : List Rc} {S : Nat → Int → Ep} {r : Rc} {E' : Int → Ep}
    (hv : Vs 0 w p bm rs.length (S rs.length) (flat rs) M vi 132) (hw : VWay rs S) (hp : tag p = tg) (hb : tag bm = tg) (hg : ∀ g, Foot M vi g → tag g = tg)
    (hpl : VPlays (S rs.length) r E') (ho : r.Ok vshs) (hv' : Vs 0 w' p bm (rs.length + 1) E' (flat rs ++ r.bytes) M' vi' 132) (hG : Gone p bm M vi M' vi' w w') :
    (∀ v : Value, (∀ g, v.ownBlock = some g → ¬ Foot M' vi' g) → Vt w' (tagV tag w.heap.size tg v) tg p (rs ++ [r]) (upS S rs.length E')) ∧ Only (fun b => tag b = tg) w w' := by
  have O : Only (fun b => tag b = tg) w w' := hG.only.mono fun b _ e => by
    rcases e with rfl | rfl | e
    · exact hp
    · exact hb
    · exact hg b (.inl e)
  refine ⟨fun v hd => ⟨bm, M', vi', ?_, hw.snoc hpl ho, by rw [tagV_old _ _ _ _ _ hv.lt, hp], by rw [tagV_old _ _ _ _ _ hv.mp.lt, hb], fun g hF => ?_⟩, O⟩
  · rw [upS_last, List.length_append, flat_append]
    simpa [flat] using hv'
  · rcases hG.lies g hF with h1 | h1
    · rw [tagV_old _ _ _ _ _ (hv.foot_lt h1).2, hg g h1]
    · exact tagV_new _ _ _ _ _ h1 fun e => hd g e hF
theorem tagV_nil (tag : Nat → Nat) (N i : Nat) : tagV tag N i (.slice none 0 0) = tagTo tag N i := by
  funext b
  unfold tagV tagTo
  simp [Value.ownBlock]

theorem vt_prepYes {w : World} {tag : Nat → Nat} {tg p : Nat} {rs : List Rc} {S : Nat → Int → Ep} (h : Vt w tag tg p rs S) (e b : Int) (hwf : (Lit.int .i64 e).wf = true) (hbf : (Lit.int .i64 b).wf = true) (hl : (flat rs).length ≤ 30000000) (hn : rs.length ≤ 30000000) (he : 1 ≤ e) (h1 : 1 ≤ b) (h2 : (S rs.length e).pr < b) :
    Calls Tryz.prog 52 #[.pointer (some ⟨p, 0, none⟩), .int .i64 e, .int .i64 b] w fun en w' => ∃ v, en = .returned (voteR 1 b (S rs.length e).ba v) ∧ w'.ownsRow w.heap.size 5 1 v (S rs.length e).val.length ((S rs.length e).val.map B8) ∧ Vt w' (tagV tag w.heap.size tg v) tg p (rs ++ [⟨1, [e, b], []⟩]) (upS S rs.length (updE (S rs.length) e ⟨b, (S rs.length e).ba, (S rs.length e).val⟩)) ∧ Only (fun b => tag b = tg) w w' := by
  have hV := h.vals e
  obtain ⟨bm, M, vi, hv, hw, hp, hb, hg⟩ := h
  refine (fprepare_yes 0 p bm rs.length (S rs.length) (flat rs) M vi 132 e b w hv (Nat.zero_le _) hl hn hwf hV.1 he h1 h2).mono ?_
  rintro en w' ⟨M', vi', v', rfl, hv', hvs, hG, hd⟩
  obtain ⟨r1, r2⟩ := Vt.step hv hw hp hb hg (VPlays.prep (S rs.length) e b he h1 h2) (vok_prep e b hwf hbf) hvs hG
  exact ⟨v', rfl, hv', r1 v' hd, r2⟩
theorem vt_prepNo {w : World} {tag : Nat → Nat} {tg p : Nat} {rs : List Rc} {S : Nat → Int → Ep} (h : Vt w tag tg p rs S) (e b : Int) (hwf : (Lit.int .i64 e).wf = true) (hno : e < 1 ∨ b < 1 ∨ b ≤ (S rs.length e).pr) :
    Calls Tryz.prog 52 #[.pointer (some ⟨p, 0, none⟩), .int .i64 e, .int .i64 b] w fun en w' => en = .returned (voteR 6 (S rs.length e).pr 0 (.slice none 0 0)) ∧ Bl w w' := by
  obtain ⟨bm, M, vi, hv, hw, hp, hb, hg⟩ := h
  refine (fprepare_no 0 p bm rs.length (S rs.length) (flat rs) M vi 132 e b w hv hwf hno).mono ?_
  rintro en w' ⟨rfl, _, hb⟩
  exact ⟨rfl, hb⟩
theorem vt_accNo {w : World} {tag : Nat → Nat} {tg p : Nat} {rs : List Rc} {S : Nat → Int → Ep} (h : Vt w tag tg p rs S) (e b : Int) (ua : Option Addr) (un uc : Nat) (hwf : (Lit.int .i64 e).wf = true) (hun : un ≤ 40000000) (hno : e < 1 ∨ b < 1 ∨ b < (S rs.length e).pr ∨ ¬ (1 ≤ un ∧ un ≤ 255)) :
    Calls Tryz.prog 54 #[.pointer (some ⟨p, 0, none⟩), .int .i64 e, .int .i64 b, .slice ua un uc] w fun en w' => en = .returned (voteR 6 (S rs.length e).pr 0 (.slice none 0 0)) ∧ Bl w w' := by
  obtain ⟨bm, M, vi, hv, hw, hp, hb, hg⟩ := h
  refine (faccept_no 0 p bm rs.length (S rs.length) (flat rs) M vi 132 e b ua un uc w hv hwf (by omega) hno).mono ?_
  rintro en w' ⟨rfl, _, hb⟩
  exact ⟨rfl, hb⟩
/-- A vote: it leaves a record, or it was there. -/
theorem vt_acc {w : World} {tag : Nat → Nat} {tg p : Nat} {rs : List Rc} {S : Nat → Int → Ep} (h : Vt w tag tg p rs S) (e b : Int) (v : Value) (ys : List Int) (hwf : (Lit.int .i64 e).wf = true) (hbf : (Lit.int .i64 b).wf = true) (hl : (flat rs).length ≤ 30000000) (hn : rs.length ≤ 30000000) (he : 1 ≤ e) (h1 : 1 ≤ b) (h2 : (S rs.length e).pr ≤ b) (h3 : (S rs.length e).ba ≤ (S rs.length e).pr)
    (hv : Bs w v (ys.map B8)) (hvb : ∀ g, v.ownBlock = some g → g < w.heap.size ∧ tag g ≠ tg) (hy1 : 1 ≤ ys.length) (hy5 : ys.length ≤ 255) (hys : Byt ys) :
    Calls Tryz.prog 54 #[.pointer (some ⟨p, 0, none⟩), .int .i64 e, .int .i64 b, v] w fun en w' => en = .returned (voteR 1 b 0 (.slice none 0 0)) ∧ Only (fun b => tag b = tg) w w' ∧ ((Bl w w' ∧ updE (S rs.length) e ⟨b, b, ys⟩ = S rs.length) ∨ Vt w' (tagTo tag w.heap.size tg) tg p (rs ++ [⟨2, [e, b], ys⟩]) (upS S rs.length (updE (S rs.length) e ⟨b, b, ys⟩))) := by
  have hV := h.vals e
  obtain ⟨bm, M, vi, hv0, hw, hp, hb, hg⟩ := h
  have hvb' : ∀ g, v.ownBlock = some g → g < w.heap.size ∧ vi.ownBlock ≠ some g ∧ g ≠ bm := fun g e => by
    obtain ⟨a1, a2⟩ := hvb g e
    exact ⟨a1, fun e' => a2 (hg g (.inl e')), fun e' => a2 (by rw [e']; exact hb)⟩
  by_cases hs : b = (S rs.length e).ba ∧ ys = (S rs.length e).val
  · refine (faccept_same 0 p bm rs.length (S rs.length) (flat rs) M vi 132 e b v ys w hv0 (Nat.zero_le _) hl hn hwf hv hy1 hy5 hvb' hys hV.2 he h1 h2 hs.1 hs.2).mono ?_
    rintro en w' ⟨rfl, _, hb⟩
    refine ⟨rfl, Only.of_bl hb, .inl ⟨hb, ?_⟩⟩
    funext j
    unfold updE
    split
    · rename_i ej
      subst ej
      have hpr : (S rs.length j).pr = b := by omega
      rw [hs.2]
      cases hx : S rs.length j with
      | mk a1 a2 a3 =>
        rw [hx] at hpr hs
        simp at hpr hs
        simp [hpr, ← hs.1]
    · rfl
  · have hne : b ≠ (S rs.length e).ba ∨ ys ≠ (S rs.length e).val := by
      by_cases e1 : b = (S rs.length e).ba
      · exact .inr fun e2 => hs ⟨e1, e2⟩
      · exact .inl e1
    refine (faccept_new 0 p bm rs.length (S rs.length) (flat rs) M vi 132 e b v ys w hv0 (Nat.zero_le _) hl hn hwf hv hy1 hy5 hvb' hys hV.2 he h1 h2 hne).mono ?_
    rintro en w' ⟨M', vi', rfl, hvs, hG⟩
    obtain ⟨r1, r2⟩ := Vt.step hv0 hw hp hb hg (VPlays.acc (S rs.length) e b ys he h1 h2 hy1 hy5 hys hne) (vok_acc e b ys hwf hbf hy5 hys) hvs hG
    refine ⟨rfl, r2, .inr ?_⟩
    rw [← tagV_nil]
    exact r1 _ fun g e => by simp [Value.ownBlock] at e
theorem vt_image {w : World} {tag : Nat → Nat} {tg p : Nat} {rs : List Rc} {S : Nat → Int → Ep} (h : Vt w tag tg p rs S) (hl : (flat rs).length ≤ 30000000) :
    Calls Tryz.prog 50 #[.pointer (some ⟨p, 0, none⟩)] w fun en w' => ∃ v, en = .returned v ∧ Bl w w' ∧ w'.ownsRow w.heap.size 5 1 v (flat rs).length ((flat rs).map B8) := by
  obtain ⟨bm, M, vi, hv, hw, hp, hb, hg⟩ := h
  exact fvimage_any 0 p bm rs.length (S rs.length) (flat rs) M vi 132 w hv hl
/-- It is opened from the beginning of an image: as behind the last record of which all is there. -/
theorem vt_open {w : World} {rs : List Rc} {S : Nat → Int → Ep} (hw : VWay rs S) (ad : Option Addr) (n cc : Nat) (hl : (flat rs).length ≤ 30000000) (hc : Cut w ad n cc rs) (tag : Nat → Nat) (tg : Nat) :
    Calls Tryz.prog 33 #[.slice ad n cc] w fun en w' => ∃ k p, en = .returned (.tuple #[.pointer (some ⟨p, 0, none⟩), .int .i64 0]) ∧ k ≤ rs.length ∧ off rs k ≤ n ∧ (∀ h : k < rs.length, n < off rs k + rs[k].bytes.length) ∧ w.heap.size ≤ p ∧ Bl w w' ∧ Vt w' (tagTo tag w.heap.size tg) tg p (rs.take k) S := by
  refine (openVoter_any ad n cc rs S w hw hl hc).mono ?_
  rintro en w' ⟨k, p, bm, M, vi, rfl, h1, h2, h3, h4, h5, h6, h7⟩
  have hk : (rs.take k).length = k := by rw [List.length_take]; omega
  have hw' : VWay (rs.take k) S := ⟨hw.zero, fun j hj => by
    rw [hk] at hj
    have := hw.step j (by omega)
    simpa [List.getElem_take] using this, fun r hr => hw.ok r (List.mem_of_mem_take hr)⟩
  refine ⟨k, p, rfl, h1, h2, h3, h4, h7, bm, M, vi, ?_, hw', tagTo_new _ _ _ _ h4, tagTo_new _ _ _ _ h5, fun g hF => tagTo_new _ _ _ _ (h6.foot_lt hF).1⟩
  rw [hk]
  exact h6.base0
end Go.Proofs.YtkgjpfamjedncaaGreat
