-- What was written, and what the cells have.
-- A voter whose blocks bear a mark: what its calls do.
-- OpenCells.
-- The calls of package furrow on cells.
import Derived.Test.YtkgjpfamjedncaaGreatSameRCopiedQ
import Derived.Test.YtkgjpfamjedncaaGreatRefYQ
import Derived.Test.YtkgjpfamjedncaaGreatVOpenVFurVCallsApartStrTailQ
import Derived.Test.YtkgjpfamjedncaaGreatLentBBackBOwnBBookBQ
import Derived.Test.YtkgjpfamjedncaaGreatVAgainVImgOpenOpensQ
import Derived.Deep.MidRow
namespace Go.Proofs.YtkgjpfamjedncaaGreat
open Go.RowKit Go.Maps

def no0 : Ct := ⟨0, 0, 0, []⟩
/-- The cell of an address. -/
def cel (a b c d x : Int) : Nat := (loc a b c d x).2.1.toNat
theorem mineC_iff (a b c d u x : Int) : mineC a b c d u x = true ↔ ((loc a b c d x).2.2 = 0 ∧ (loc a b c d x).1 = u / b) := by
  unfold mineC; simp
/-- Two addresses of a unit with one cell are one. -/
theorem cel_inj {a b c d u x x' : Int} (h : mineC a b c d u x = true) (h' : mineC a b c d u x' = true) (e : cel a b c d x = cel a b c d x') : x = x' := by
  rw [mineC_iff] at h h'
  unfold cel at e
  unfold loc at h h' e
  by_cases hf : fit a b c d = true
  · have hb := fit_bd hf
    simp only [hf, if_true] at h h' e
    by_cases h1 : x < 0 ∨ a * d ≤ x
    · rw [if_pos h1] at h; simp at h
    · by_cases h2 : x' < 0 ∨ a * d ≤ x'
      · rw [if_pos h2] at h'; simp at h'
      · rw [if_neg h1] at h e
        rw [if_neg h2] at h' e
        simp only at h h' e
        have e1 : x % a = x' % a := by rw [h.2, h'.2]
        have e2 : x / a = x' / a := by
          have p1 := Int.ediv_nonneg (show 0 ≤ x by omega) (show 0 ≤ a by omega)
          have p2 := Int.ediv_nonneg (show 0 ≤ x' by omega) (show 0 ≤ a by omega)
          omega
        have q1 := Int.mul_ediv_add_emod x a
        have q2 := Int.mul_ediv_add_emod x' a
        rw [e1, e2] at q1
        omega
  · simp [hf] at h

/-- What was written goes with what the cells have. -/
structure Mt (a b c d u : Int) (n : Nat) (F : Nat → Wq) (ct : Nat → Ct) : Prop where
  adr : ∀ i, i < n → mineC a b c d u (F i).adr = true
  con : ∀ i, i < n → (F i).kd ≠ 0
  dist : ∀ i j, i < n → j < n → (F i).adr = (F j).adr → i = j
  at' : ∀ i, i < n → ct (cel a b c d (F i).adr) = ⟨(F i).kd, (F i).cl, (F i).ca, (F i).ys⟩
  free : ∀ x, mineC a b c d u x = true → (∀ i, i < n → (F i).adr ≠ x) → ct (cel a b c d x) = no0
theorem lk_none (F : Nat → Wq) (x : Int) : ∀ n, lk F x n = none → ∀ i, i < n → (F i).adr ≠ x
  | 0, _, i, hi => by omega
  | n + 1, h, i, hi => by
    unfold lk at h
    split at h
    · simp at h
    · rename_i e
      by_cases ei : i = n
      · rw [ei]; exact e
      · exact lk_none F x n h i (by omega)
/-- Both look alike. -/
theorem Mt.look {B0 : Nat} {w : World} {y : Nat} {a b c d u ep mk : Int} {lv : Value} {n : Nat} {F : Nat → Wq} {ct : Nat → Ct} (hc : Cw B0 w y a b c d u ep mk lv n F) (h : Mt a b c d u n F ct) (x : Int) (hm : mineC a b c d u x = true) :
    ∃ va vn vc, lookR F x mk n = reply (lookC a b c d (u / b) mk ct x).1 0 (lookC a b c d (u / b) mk ct x).2.1 (lookC a b c d (u / b) mk ct x).2.2.kd (lookC a b c d (u / b) mk ct x).2.2.cl (lookC a b c d (u / b) mk ct x).2.2.ca (.slice va vn vc) ∧ w.ownsRow 0 5 1 (.slice va vn vc) (lookC a b c d (u / b) mk ct x).2.2.val.length ((lookC a b c d (u / b) mk ct x).2.2.val.map B8) := by
  have hmm := (mineC_iff a b c d u x).1 hm
  have hno : ¬ ((loc a b c d x).2.2 ≠ 0 ∨ (loc a b c d x).1 ≠ u / b) := by
    rintro (e | e)
    · exact e hmm.1
    · exact e hmm.2
  unfold lookC
  rw [if_neg hno]
  show ∃ va vn vc, lookR F x mk n = _ ∧ _
  unfold lookR
  cases hl : lk F x n with
  | none =>
    have hz := h.free x hm (lk_none F x n hl)
    unfold cel at hz
    rw [hz]
    by_cases hx : x < mk
    · rw [if_pos hx, if_pos hx]
      exact ⟨none, 0, 0, rfl, World.ownsRow_nil _ _ _ _⟩
    · rw [if_neg hx, if_neg hx, if_pos (show no0.kd = 0 from rfl)]
      exact ⟨none, 0, 0, rfl, World.ownsRow_nil _ _ _ _⟩
  | some i =>
    obtain ⟨hi, ha⟩ := lk_lt F x n i hl
    have hz := h.at' i hi
    rw [ha] at hz
    unfold cel at hz
    rw [hz]
    by_cases hx : x < mk
    · simp only [hx, if_true]
      exact ⟨none, 0, 0, rfl, World.ownsRow_nil _ _ _ _⟩
    · simp only [hx, if_false]
      rw [if_neg (h.con i hi)]
      obtain ⟨va, vc, e⟩ := (ownsRow_sl (hc.val i hi)).len
      have hv := hc.val i hi
      rw [e] at hv ⊢
      exact ⟨va, _, vc, rfl, hv⟩
/-- A content more. -/
theorem Mt.push {a b c d u : Int} {n : Nat} {F : Nat → Wq} {ct : Nat → Ct} (h : Mt a b c d u n F ct) (q : Wq) (hm : mineC a b c d u q.adr = true) (hk : q.kd ≠ 0) (hno : ∀ i, i < n → (F i).adr ≠ q.adr) (i : Nat) (hi : cel a b c d q.adr = i) : Mt a b c d u (n + 1) (upW F n q) (fun j => if j = i then ⟨q.kd, q.cl, q.ca, q.ys⟩ else ct j) where
  adr := fun j hj => by
    unfold upW
    split
    · exact hm
    · exact h.adr j (by omega)
  con := fun j hj => by
    unfold upW
    split
    · exact hk
    · exact h.con j (by omega)
  dist := fun j k hj hk' e => by
    unfold upW at e
    by_cases e1 : j = n
    · by_cases e2 : k = n
      · omega
      · rw [if_pos e1, if_neg e2] at e
        exact absurd e.symm (hno k (by omega))
    · by_cases e2 : k = n
      · rw [if_neg e1, if_pos e2] at e
        exact absurd e (hno j (by omega))
      · rw [if_neg e1, if_neg e2] at e
        exact h.dist j k (by omega) (by omega) e
  at' := fun j hj => by
    unfold upW
    by_cases e1 : j = n
    · rw [if_pos e1, if_pos hi]
    · rw [if_neg e1]
      have hne : cel a b c d (F j).adr ≠ i := fun e => hno j (by omega) (cel_inj (h.adr j (by omega)) hm (by rw [e, hi]))
      rw [if_neg hne]
      exact h.at' j (by omega)
  free := fun x hx hn => by
    have hxq : q.adr ≠ x := by
      have := hn n (by omega)
      unfold upW at this
      rw [if_pos rfl] at this
      exact this
    have hne : cel a b c d x ≠ i := fun e => hxq (cel_inj hm hx (by rw [hi, e]))
    show (if cel a b c d x = i then _ else ct (cel a b c d x)) = no0
    rw [if_neg hne]
    refine h.free x hx fun j hj => ?_
    have := hn j (by omega)
    unfold upW at this
    rw [if_neg (by omega)] at this
    exact this
theorem Mt.first (a b c d u : Int) (F : Nat → Wq) : Mt a b c d u 0 F (fun _ => no0) :=
  ⟨fun i hi => by omega, fun i hi => by omega, fun i j hi => by omega, fun i hi => by omega, fun _ _ _ => rfl⟩
end Go.Proofs.YtkgjpfamjedncaaGreat

namespace Go.Proofs.YtkgjpfamjedncaaGreat
open Go.RowKit Go.Maps

/-- New blocks bear i, but those of v, which bear 1. -/
def tagV (tag : Nat → Nat) (N i : Nat) (v : Value) : Nat → Nat := fun b => if b < N then tag b else if v.ownBlock = some b then 1 else i
theorem tagV_old (tag : Nat → Nat) (N i : Nat) (v : Value) (b : Nat) (h : b < N) : tagV tag N i v b = tag b := by simp [tagV, h]
theorem tagV_own (tag : Nat → Nat) (N i : Nat) (v : Value) (b : Nat) (h : N ≤ b) (hb : v.ownBlock = some b) : tagV tag N i v b = 1 := by unfold tagV; rw [if_neg (by omega), if_pos hb]
theorem tagV_new (tag : Nat → Nat) (N i : Nat) (v : Value) (b : Nat) (h : N ≤ b) (hb : v.ownBlock ≠ some b) : tagV tag N i v b = i := by unfold tagV; rw [if_neg (by omega), if_neg hb]
def tagTo (tag : Nat → Nat) (N i : Nat) : Nat → Nat := fun b => if b < N then tag b else i
theorem tagTo_old (tag : Nat → Nat) (N i b : Nat) (h : b < N) : tagTo tag N i b = tag b := by simp [tagTo, h]
theorem tagTo_new (tag : Nat → Nat) (N i b : Nat) (h : N ≤ b) : tagTo tag N i b = i := by unfold tagTo; rw [if_neg (by omega)]

/-- The voter in block p, whose blocks bear the mark tg, has the records rs, with the states S. -/
def Vt (w : World) (tag : Nat → Nat) (tg p : Nat) (rs : List Rc) (S : Nat → Int → Ep) : Prop :=
  ∃ bm M vi, Vs 0 w p bm rs.length (S rs.length) (flat rs) M vi 132 ∧ VWay rs S ∧ tag p = tg ∧ tag bm = tg ∧ ∀ g, Foot M vi g → tag g = tg
theorem Vt.lt {w : World} {tag : Nat → Nat} {tg p : Nat} {rs : List Rc} {S : Nat → Int → Ep} (h : Vt w tag tg p rs S) : p < w.heap.size ∧ tag p = tg := by
  obtain ⟨bm, M, vi, hv, _, hp, _⟩ := h
  exact ⟨hv.lt, hp⟩
theorem Vt.way {w : World} {tag : Nat → Nat} {tg p : Nat} {rs : List Rc} {S : Nat → Int → Ep} (h : Vt w tag tg p rs S) : VWay rs S := by
  obtain ⟨bm, M, vi, _, hw, _⟩ := h
  exact hw
theorem Vt.only {T : Nat → Prop} {w w' : World} {tag tag' : Nat → Nat} {tg p : Nat} {rs : List Rc} {S : Nat → Int → Ep} (h : Vt w tag tg p rs S) (ho : Only T w w') (hs : ∀ b, b < w.heap.size → T b → tag b ≠ tg) (ht : ∀ b, b < w.heap.size → tag' b = tag b) : Vt w' tag' tg p rs S := by
  obtain ⟨bm, M, vi, hv, hw, hp, hb, hg⟩ := h
  exact ⟨bm, M, vi, hv.apart ho (fun e => hs p hv.lt e hp) (fun e => hs bm hv.mp.lt e hb) (fun g hl hF e => hs g hl e (hg g hF)), hw, by rw [ht p hv.lt, hp], by rw [ht bm hv.mp.lt, hb], fun g hF => by rw [ht g (hv.foot_lt hF).2, hg g hF]⟩
theorem Vt.bl {w w' : World} {tag : Nat → Nat} {tg p : Nat} {rs : List Rc} {S : Nat → Int → Ep} (h : Vt w tag tg p rs S) (hb : Bl w w') : Vt w' tag tg p rs S := h.only (Only.of_bl (S := fun _ => False) hb) (fun _ _ e => e.elim) (fun _ _ => rfl)
theorem Vt.vals {w : World} {tag : Nat → Nat} {tg p : Nat} {rs : List Rc} {S : Nat → Int → Ep} (h : Vt w tag tg p rs S) (e : Int) : (S rs.length e).val.length ≤ 255 ∧ ∀ d ∈ (S rs.length e).val, 0 ≤ d ∧ d ≤ 255 := h.way.vals _ (Nat.le_refl _) e
/-- The states, with one more. -/
def upS (S : Nat → Int → Ep) (n : Nat) (E' : Int → Ep) : Nat → Int → Ep := fun j => if j = n + 1 then E' else S j
theorem upS_last (S : Nat → Int → Ep) (rs : List Rc) (r : Rc) (E' : Int → Ep) : upS S rs.length E' (rs ++ [r]).length = E' := by simp [upS]
theorem upS_old (S : Nat → Int → Ep) (n k : Nat) (E' : Int → Ep) (h : k ≤ n) : upS S n E' k = S k := by unfold upS; rw [if_neg (by omega)]
/-- A call leaves a record. -/
theorem Vt.step {w w' : World} {tag : Nat → Nat} {tg p bm : Nat} {M M' : Int → Value} {vi vi' : Value} {rs : List Rc} {S : Nat → Int → Ep} {r : Rc} {E' : Int → Ep}
    (hv : Vs 0 w p bm rs.length (S rs.length) (flat rs) M vi 132) (hw : VWay rs S) (hp : tag p = tg) (hb : tag bm = tg) (hg : ∀ g, Foot M vi g → tag g = tg)
    (hpl : VPlays (S rs.length) r E') (ho : r.Ok vshs) (hv' : Vs 0 w' p bm (rs.length + 1) E' (flat rs ++ r.bytes) M' vi' 132) (hG : Gone p bm M vi M' vi' w w') :
    (∀ v : Value, (∀ g, v.ownBlock = some g → ¬ Foot M' vi' g) → Vt w' (tagV tag w.heap.size tg v) tg p (rs ++ [r]) (upS S rs.length E')) ∧ Only (fun b => tag b = tg) w w' := by
  have O : Only (fun b => tag b = tg) w w' := hG.only.mono fun b _ e => by
    rcases e with rfl | rfl | e
    · exact hp
    · exact hb
    · exact hg b (.inl e)
  refine ⟨fun v hd => ⟨bm, M', vi', ?_, hw.snoc hpl ho, by rw [tagV_old _ _ _ _ _ hv.lt, hp], by rw [tagV_old _ _ _ _ _ hv.mp.lt, hb], fun g hF => ?_⟩, O⟩
  · rw [upS_last, List.length_append, flat_append]
    simpa [flat] using hv'
  · rcases hG.lies g hF with h1 | h1
    · rw [tagV_old _ _ _ _ _ (hv.foot_lt h1).2, hg g h1]
    · exact tagV_new _ _ _ _ _ h1 fun e => hd g e hF
theorem tagV_nil (tag : Nat → Nat) (N i : Nat) : tagV tag N i (.slice none 0 0) = tagTo tag N i := by
  funext b
  unfold tagV tagTo
  simp [Value.ownBlock]

theorem vt_prepYes {w : World} {tag : Nat → Nat} {tg p : Nat} {rs : List Rc} {S : Nat → Int → Ep} (h : Vt w tag tg p rs S) (e b : Int) (hwf : (Lit.int .i64 e).wf = true) (hbf : (Lit.int .i64 b).wf = true) (hl : (flat rs).length ≤ 30000000) (hn : rs.length ≤ 30000000) (he : 1 ≤ e) (h1 : 1 ≤ b) (h2 : (S rs.length e).pr < b) :
    Calls Tryz.prog 52 #[.pointer (some ⟨p, 0, none⟩), .int .i64 e, .int .i64 b] w fun en w' => ∃ v, en = .returned (voteR 1 b (S rs.length e).ba v) ∧ w'.ownsRow w.heap.size 5 1 v (S rs.length e).val.length ((S rs.length e).val.map B8) ∧ Vt w' (tagV tag w.heap.size tg v) tg p (rs ++ [⟨1, [e, b], []⟩]) (upS S rs.length (updE (S rs.length) e ⟨b, (S rs.length e).ba, (S rs.length e).val⟩)) ∧ Only (fun b => tag b = tg) w w' := by
  have hV := h.vals e
  obtain ⟨bm, M, vi, hv, hw, hp, hb, hg⟩ := h
  refine (fprepare_yes 0 p bm rs.length (S rs.length) (flat rs) M vi 132 e b w hv (Nat.zero_le _) hl hn hwf hV.1 he h1 h2).mono ?_
  rintro en w' ⟨M', vi', v', rfl, hv', hvs, hG, hd⟩
  obtain ⟨r1, r2⟩ := Vt.step hv hw hp hb hg (VPlays.prep (S rs.length) e b he h1 h2) (vok_prep e b hwf hbf) hvs hG
  exact ⟨v', rfl, hv', r1 v' hd, r2⟩
theorem vt_prepNo {w : World} {tag : Nat → Nat} {tg p : Nat} {rs : List Rc} {S : Nat → Int → Ep} (h : Vt w tag tg p rs S) (e b : Int) (hwf : (Lit.int .i64 e).wf = true) (hno : e < 1 ∨ b < 1 ∨ b ≤ (S rs.length e).pr) :
    Calls Tryz.prog 52 #[.pointer (some ⟨p, 0, none⟩), .int .i64 e, .int .i64 b] w fun en w' => en = .returned (voteR 6 (S rs.length e).pr 0 (.slice none 0 0)) ∧ Bl w w' := by
  obtain ⟨bm, M, vi, hv, hw, hp, hb, hg⟩ := h
  refine (fprepare_no 0 p bm rs.length (S rs.length) (flat rs) M vi 132 e b w hv hwf hno).mono ?_
  rintro en w' ⟨rfl, _, hb⟩
  exact ⟨rfl, hb⟩
theorem vt_accNo {w : World} {tag : Nat → Nat} {tg p : Nat} {rs : List Rc} {S : Nat → Int → Ep} (h : Vt w tag tg p rs S) (e b : Int) (ua : Option Addr) (un uc : Nat) (hwf : (Lit.int .i64 e).wf = true) (hun : un ≤ 40000000) (hno : e < 1 ∨ b < 1 ∨ b < (S rs.length e).pr ∨ ¬ (1 ≤ un ∧ un ≤ 255)) :
    Calls Tryz.prog 54 #[.pointer (some ⟨p, 0, none⟩), .int .i64 e, .int .i64 b, .slice ua un uc] w fun en w' => en = .returned (voteR 6 (S rs.length e).pr 0 (.slice none 0 0)) ∧ Bl w w' := by
  obtain ⟨bm, M, vi, hv, hw, hp, hb, hg⟩ := h
  refine (faccept_no 0 p bm rs.length (S rs.length) (flat rs) M vi 132 e b ua un uc w hv hwf (by omega) hno).mono ?_
  rintro en w' ⟨rfl, _, hb⟩
  exact ⟨rfl, hb⟩
/-- A vote: it leaves a record, or it was there. -/
theorem vt_acc {w : World} {tag : Nat → Nat} {tg p : Nat} {rs : List Rc} {S : Nat → Int → Ep} (h : Vt w tag tg p rs S) (e b : Int) (v : Value) (ys : List Int) (hwf : (Lit.int .i64 e).wf = true) (hbf : (Lit.int .i64 b).wf = true) (hl : (flat rs).length ≤ 30000000) (hn : rs.length ≤ 30000000) (he : 1 ≤ e) (h1 : 1 ≤ b) (h2 : (S rs.length e).pr ≤ b) (h3 : (S rs.length e).ba ≤ (S rs.length e).pr)
    (hv : Bs w v (ys.map B8)) (hvb : ∀ g, v.ownBlock = some g → g < w.heap.size ∧ tag g ≠ tg) (hy1 : 1 ≤ ys.length) (hy5 : ys.length ≤ 255) (hys : Byt ys) :
    Calls Tryz.prog 54 #[.pointer (some ⟨p, 0, none⟩), .int .i64 e, .int .i64 b, v] w fun en w' => en = .returned (voteR 1 b 0 (.slice none 0 0)) ∧ Only (fun b => tag b = tg) w w' ∧ ((Bl w w' ∧ updE (S rs.length) e ⟨b, b, ys⟩ = S rs.length) ∨ Vt w' (tagTo tag w.heap.size tg) tg p (rs ++ [⟨2, [e, b], ys⟩]) (upS S rs.length (updE (S rs.length) e ⟨b, b, ys⟩))) := by
  have hV := h.vals e
  obtain ⟨bm, M, vi, hv0, hw, hp, hb, hg⟩ := h
  have hvb' : ∀ g, v.ownBlock = some g → g < w.heap.size ∧ vi.ownBlock ≠ some g ∧ g ≠ bm := fun g e => by
    obtain ⟨a1, a2⟩ := hvb g e
    exact ⟨a1, fun e' => a2 (hg g (.inl e')), fun e' => a2 (by rw [e']; exact hb)⟩
  by_cases hs : b = (S rs.length e).ba ∧ ys = (S rs.length e).val
  · refine (faccept_same 0 p bm rs.length (S rs.length) (flat rs) M vi 132 e b v ys w hv0 (Nat.zero_le _) hl hn hwf hv hy1 hy5 hvb' hys hV.2 he h1 h2 hs.1 hs.2).mono ?_
    rintro en w' ⟨rfl, _, hb⟩
    refine ⟨rfl, Only.of_bl hb, .inl ⟨hb, ?_⟩⟩
    funext j
    unfold updE
    split
    · rename_i ej
      subst ej
      have hpr : (S rs.length j).pr = b := by omega
      rw [hs.2]
      cases hx : S rs.length j with
      | mk a1 a2 a3 =>
        rw [hx] at hpr hs
        simp at hpr hs
        simp [hpr, ← hs.1]
    · rfl
  · have hne : b ≠ (S rs.length e).ba ∨ ys ≠ (S rs.length e).val := by
      by_cases e1 : b = (S rs.length e).ba
      · exact .inr fun e2 => hs ⟨e1, e2⟩
      · exact .inl e1
    refine (faccept_new 0 p bm rs.length (S rs.length) (flat rs) M vi 132 e b v ys w hv0 (Nat.zero_le _) hl hn hwf hv hy1 hy5 hvb' hys hV.2 he h1 h2 hne).mono ?_
    rintro en w' ⟨M', vi', rfl, hvs, hG⟩
    obtain ⟨r1, r2⟩ := Vt.step hv0 hw hp hb hg (VPlays.acc (S rs.length) e b ys he h1 h2 hy1 hy5 hys hne) (vok_acc e b ys hwf hbf hy5 hys) hvs hG
    refine ⟨rfl, r2, .inr ?_⟩
    rw [← tagV_nil]
    exact r1 _ fun g e => by simp [Value.ownBlock] at e
theorem vt_image {w : World} {tag : Nat → Nat} {tg p : Nat} {rs : List Rc} {S : Nat → Int → Ep} (h : Vt w tag tg p rs S) (hl : (flat rs).length ≤ 30000000) :
    Calls Tryz.prog 50 #[.pointer (some ⟨p, 0, none⟩)] w fun en w' => ∃ v, en = .returned v ∧ Bl w w' ∧ w'.ownsRow w.heap.size 5 1 v (flat rs).length ((flat rs).map B8) := by
  obtain ⟨bm, M, vi, hv, hw, hp, hb, hg⟩ := h
  exact fvimage_any 0 p bm rs.length (S rs.length) (flat rs) M vi 132 w hv hl
/-- It is opened from the beginning of an image: as behind the last record of which all is there. -/
theorem vt_open {w : World} {rs : List Rc} {S : Nat → Int → Ep} (hw : VWay rs S) (ad : Option Addr) (n cc : Nat) (hl : (flat rs).length ≤ 30000000) (hc : Cut w ad n cc rs) (tag : Nat → Nat) (tg : Nat) :
    Calls Tryz.prog 33 #[.slice ad n cc] w fun en w' => ∃ k p, en = .returned (.tuple #[.pointer (some ⟨p, 0, none⟩), .int .i64 0]) ∧ k ≤ rs.length ∧ off rs k ≤ n ∧ (∀ h : k < rs.length, n < off rs k + rs[k].bytes.length) ∧ w.heap.size ≤ p ∧ Bl w w' ∧ Vt w' (tagTo tag w.heap.size tg) tg p (rs.take k) S := by
  refine (openVoter_any ad n cc rs S w hw hl hc).mono ?_
  rintro en w' ⟨k, p, bm, M, vi, rfl, h1, h2, h3, h4, h5, h6, h7⟩
  have hk : (rs.take k).length = k := by rw [List.length_take]; omega
  have hw' : VWay (rs.take k) S := ⟨hw.zero, fun j hj => by
    rw [hk] at hj
    have := hw.step j (by omega)
    simpa [List.getElem_take] using this, fun r hr => hw.ok r (List.mem_of_mem_take hr)⟩
  refine ⟨k, p, rfl, h1, h2, h3, h4, h7, bm, M, vi, ?_, hw', tagTo_new _ _ _ _ h4, tagTo_new _ _ _ _ h5, fun g hF => tagTo_new _ _ _ _ (h6.foot_lt hF).1⟩
  rw [hk]
  exact h6.base0
end Go.Proofs.YtkgjpfamjedncaaGreat

namespace Go.Proofs.YtkgjpfamjedncaaGreat
open Go.RowKit
attribute [local go_sem ↓] Go.wp_at_zero Go.wp_at_succ

theorem fill_size : ∀ (l : List Value) (k : Nat) (A : Array Value), (List.foldl (fun cs x => cs.setIfInBounds x.snd x.fst) A (l.zipIdx k)).size = A.size
  | [], _, _ => rfl
  | v :: l, k, A => by rw [List.zipIdx_cons, List.foldl_cons, fill_size l]; simp
theorem fill_at : ∀ (l : List Value) (k : Nat) (A : Array Value) (i : Nat), i < l.length → k + i < A.size → (List.foldl (fun cs x => cs.setIfInBounds x.snd x.fst) A (l.zipIdx k))[k + i]? = l[i]?
  | [], _, _, _, h, _ => by simp at h
  | v :: l, k, A, 0, _, hA => by
    rw [List.zipIdx_cons, List.foldl_cons]
    have key : ∀ (l : List Value) (k' : Nat) (A : Array Value) (j : Nat), j < k' → (List.foldl (fun cs x => cs.setIfInBounds x.snd x.fst) A (l.zipIdx k'))[j]? = A[j]? := by
      intro l
      induction l with
      | nil => intros; rfl
      | cons u l ih =>
        intro k' A j hj
        rw [List.zipIdx_cons, List.foldl_cons, ih _ _ _ (by omega), Array.getElem?_setIfInBounds_ne (by simp; omega)]
    rw [key _ _ _ _ (by omega)]
    simp at hA
    simp [hA]
  | v :: l, k, A, i + 1, h, hA => by
    rw [List.zipIdx_cons, List.foldl_cons, show k + (i + 1) = (k + 1) + i by omega, fill_at l (k + 1) _ i (by simpa using h) (by simp; omega)]
    simp

set_option maxRecDepth 100000 in
set_option maxHeartbeats 4000000 in
theorem openCells_any (a b c d u ch : Int) (ad : Option Addr) (n cc : Nat) (rs : List Rc) (S : Nat → St) (w : World) (hch : cha a b c d u = (ch, 0)) (hw : Way a b c d ch rs S) (hl : (flat rs).length ≤ 30000000) (hd : Cut w ad n cc rs) :
    Calls Tryz.prog 29 #[.agg #[.int .i64 a, .int .i64 b, .int .i64 c, .int .i64 d], .int .i64 u, .slice ad n cc] w fun e w' => ∃ k p K, e = .returned (.tuple #[.pointer (some ⟨p, 0, none⟩), .int .i64 0]) ∧ k ≤ rs.length ∧ off rs k ≤ n ∧ (∀ h : k < rs.length, n < off rs k + rs[k].bytes.length) ∧ w.heap.size ≤ p ∧ Ks w.heap.size w' p a b c d ch (S k).ep (S k).mark (S k).ct (flat (rs.take k)) K ∧ (k = 0 → ∀ B, Ks B w' p a b c d ch (S k).ep (S k).mark (S k).ct (flat (rs.take k)) K) ∧ Bl w w' := by
  have bA := hid ((Bl.refl w).alloc (.cells #[.int .i64 a, .int .i64 b, .int .i64 c, .int .i64 d] 38))
  have HO := hid (open_any a b c d u ch ad n cc rs S _ hch hw hl (hd.bl bA.out))
  clear hch hw hd
  go_enter Tryz.func29, Tryz.ntmps29
  go_wp2_with fail
  refine HO.out.mono ?_
  rintro e w1 ⟨k, p, K, rfl, r1, r2, r3, r4, r5, r7, r6⟩
  have R1 := hid r1
  have R2 := hid r2
  have R3 := hid r3
  have R4 := hid r4
  have R5 := hid r5
  have R6 := hid r6
  have R7 := hid r7
  have hp := r5.at'.lt
  clear r1 r2 r3 r4 r5 r6 r7 HO
  have hrg : Hid (w1.rangeAt p 0 ((List.range 72).map K)) := fun j v hv => by
    rw [List.getElem?_map, Option.map_eq_some_iff] at hv
    obtain ⟨i, hi, rfl⟩ := hv
    obtain ⟨h1, h2⟩ := List.getElem?_eq_some_iff.1 hi
    simp at h1 h2
    subst h2
    rw [Nat.zero_add]; exact R5.out.at'.cell j h1
  have hin : Hid ((Tryz.prog.info? 122).map (·.size) = some ((List.range 72).map K).length) := by
    unfold Hid
    rw [List.length_map, List.length_range]; kernel_rfl
  have hc72 : ((List.range 72).map K).length = 72 := by simp
  have hK : Hid (∀ i, i < 72 → ((List.range 72).map K)[i]? = some (K i)) := fun i hi => by
    rw [List.getElem?_map, List.getElem?_range hi]; rfl
  generalize (List.range 72).map K = cs at *
  go_wp2_with (refine wpList_load_mid rfl 122 (.tmp 21) rfl p 0 rfl cs _ hrg.out Tryz.underlying122 rfl hin.out ?_)
  go_ret2
  have hz70 : Tryz.zeroCells124.size = 72 := by kernel_rfl
  have bC := (Bl.refl w1).alloc (.cells (List.foldl (fun cs x => cs.setIfInBounds x.snd x.fst) Tryz.zeroCells124 cs.zipIdx) 124)
  have hat : At (w1.alloc (.cells (List.foldl (fun cs x => cs.setIfInBounds x.snd x.fst) Tryz.zeroCells124 cs.zipIdx) 124)) w1.heap.size K := ⟨_, 124, heap_alloc_new w1 _, .inr rfl, fun i hi => by
    have := fill_at cs 0 Tryz.zeroCells124 i (by omega) (by omega)
    rw [Nat.zero_add] at this
    rw [this]; exact hK.out i hi⟩
  refine ⟨k, w1.heap.size, K, rfl, R1.out, R2.out, R3.out, Nat.le_trans bA.out.lt R6.out.lt, ?_, ?_, (bA.out.trans R6.out).alloc _⟩
  · have h5 := (R5.out.bl bC).base (base' := w.heap.size) bA.out.lt
    exact ⟨hat, h5.k0, h5.k1, h5.k2, h5.k3, h5.k4, h5.k5, h5.k6, h5.own, h5.kd, h5.cl, h5.ca, h5.val, h5.apart⟩
  · intro e B
    have h5 := (R7.out e B).bl bC
    exact ⟨hat, h5.k0, h5.k1, h5.k2, h5.k3, h5.k4, h5.k5, h5.k6, h5.own, h5.kd, h5.cl, h5.ca, h5.val, h5.apart⟩
end Go.Proofs.YtkgjpfamjedncaaGreat

namespace Go.Proofs.YtkgjpfamjedncaaGreat
open Go.RowKit
attribute [local go_sem ↓] Go.wp_at_zero Go.wp_at_succ

/-- What a call of the cells answers, ahead of the answer's being laid into its own block. -/
def Inner (g : Nat) (Q : Int → Int → Int → Int → Int → Int → Value → World → Prop) (e : Ending) (w1 : World) : Prop :=
  ∃ wh ep mk kd cl ca ra rn rc, e = .returned (reply wh ep mk kd cl ca (.slice ra rn rc)) ∧ Q wh ep mk kd cl ca (.slice ra rn rc) w1 ∧ w1.heap[g]? = some (.cells blank 98 (0, 0))
def Outer (g : Nat) (Q : Int → Int → Int → Int → Int → Int → Value → World → Prop) (e : Ending) (w' : World) : Prop :=
  ∃ wh ep mk kd cl ca v w1, e = .returned (reply wh ep mk kd cl ca v) ∧ Q wh ep mk kd cl ca v w1 ∧ w1.heap[g]? = some (.cells blank 98 (0, 0)) ∧ Only (fun b => b = g) w1 w'

set_option maxRecDepth 100000 in
set_option maxHeartbeats 2000000 in
theorem wrap_read (p : Nat) (x y : Int) (w : World) (Q : Int → Int → Int → Int → Int → Int → Value → World → Prop)
    (h : Calls Tryz.prog 71 #[.pointer (some ⟨p, 0, none⟩), .int .i64 x, .int .i64 y] (w.alloc (.cells blank 98)) (Inner w.heap.size Q)) :
    Calls Tryz.prog 40 #[.pointer (some ⟨p, 0, none⟩), .int .i64 x, .int .i64 y] w (Outer w.heap.size Q) := by
  have H := hid h
  clear h
  go_enter Tryz.func40, Tryz.ntmps40
  go_wp2_with fail
  refine H.out.mono ?_
  rintro e w1 ⟨wh, ep, mk, kd, cl, ca, ra, rn, rc, rfl, hQ, hN⟩
  have lN : w.heap.size < w1.heap.size := (Array.getElem?_eq_some_iff.1 hN).1
  obtain ⟨n0, n1, n2, n3, n4, n5, n6, f0, f1, f2, f3, f4, f5, f6⟩ := blank_row hN
  have HN := hid hN
  have HQ := hid hQ
  clear hN hQ H
  unfold reply
  go_wp2
  have F := Only.set7 (w := w1) (S := fun b => b = w.heap.size) rfl (.int .i64 wh) (.int .i64 ep) (.int .i64 mk) (.int .i64 kd) (.int .i64 cl) (.int .i64 ca) (.slice ra rn rc)
  exact bodyPost_ret (v := reply wh ep mk kd cl ca (.slice ra rn rc)) (by simp [results, Tryz.results40, go_sem, reply, n0, n1, n2, n3, n4, n5, n6]) rfl ⟨wh, ep, mk, kd, cl, ca, _, w1, rfl, HQ.out, HN.out, F⟩

set_option maxRecDepth 100000 in
set_option maxHeartbeats 2000000 in
theorem wrap_trim (p : Nat) (x y : Int) (w : World) (Q : Int → Int → Int → Int → Int → Int → Value → World → Prop)
    (h : Calls Tryz.prog 77 #[.pointer (some ⟨p, 0, none⟩), .int .i64 x, .int .i64 y] (w.alloc (.cells blank 98)) (Inner w.heap.size Q)) :
    Calls Tryz.prog 45 #[.pointer (some ⟨p, 0, none⟩), .int .i64 x, .int .i64 y] w (Outer w.heap.size Q) := by
  have H := hid h
  clear h
  go_enter Tryz.func45, Tryz.ntmps45
  go_wp2_with fail
  refine H.out.mono ?_
  rintro e w1 ⟨wh, ep, mk, kd, cl, ca, ra, rn, rc, rfl, hQ, hN⟩
  have lN : w.heap.size < w1.heap.size := (Array.getElem?_eq_some_iff.1 hN).1
  obtain ⟨n0, n1, n2, n3, n4, n5, n6, f0, f1, f2, f3, f4, f5, f6⟩ := blank_row hN
  have HN := hid hN
  have HQ := hid hQ
  clear hN hQ H
  unfold reply
  go_wp2
  have F := Only.set7 (w := w1) (S := fun b => b = w.heap.size) rfl (.int .i64 wh) (.int .i64 ep) (.int .i64 mk) (.int .i64 kd) (.int .i64 cl) (.int .i64 ca) (.slice ra rn rc)
  exact bodyPost_ret (v := reply wh ep mk kd cl ca (.slice ra rn rc)) (by simp [results, Tryz.results45, go_sem, reply, n0, n1, n2, n3, n4, n5, n6]) rfl ⟨wh, ep, mk, kd, cl, ca, _, w1, rfl, HQ.out, HN.out, F⟩

set_option maxRecDepth 100000 in
set_option maxHeartbeats 2000000 in
theorem wrap_seal (p : Nat) (x : Int) (w : World) (Q : Int → Int → Int → Int → Int → Int → Value → World → Prop)
    (h : Calls Tryz.prog 78 #[.pointer (some ⟨p, 0, none⟩), .int .i64 x] (w.alloc (.cells blank 98)) (Inner w.heap.size Q)) :
    Calls Tryz.prog 47 #[.pointer (some ⟨p, 0, none⟩), .int .i64 x] w (Outer w.heap.size Q) := by
  have H := hid h
  clear h
  go_enter Tryz.func47, Tryz.ntmps47
  go_wp2_with fail
  refine H.out.mono ?_
  rintro e w1 ⟨wh, ep, mk, kd, cl, ca, ra, rn, rc, rfl, hQ, hN⟩
  have lN : w.heap.size < w1.heap.size := (Array.getElem?_eq_some_iff.1 hN).1
  obtain ⟨n0, n1, n2, n3, n4, n5, n6, f0, f1, f2, f3, f4, f5, f6⟩ := blank_row hN
  have HN := hid hN
  have HQ := hid hQ
  clear hN hQ H
  unfold reply
  go_wp2
  have F := Only.set7 (w := w1) (S := fun b => b = w.heap.size) rfl (.int .i64 wh) (.int .i64 ep) (.int .i64 mk) (.int .i64 kd) (.int .i64 cl) (.int .i64 ca) (.slice ra rn rc)
  exact bodyPost_ret (v := reply wh ep mk kd cl ca (.slice ra rn rc)) (by simp [results, Tryz.results47, go_sem, reply, n0, n1, n2, n3, n4, n5, n6]) rfl ⟨wh, ep, mk, kd, cl, ca, _, w1, rfl, HQ.out, HN.out, F⟩

set_option maxRecDepth 100000 in
set_option maxHeartbeats 2000000 in
theorem wrap_write (p : Nat) (x y kd' cl' ca' : Int) (va : Option Addr) (vn vc : Nat) (w : World) (Q : Int → Int → Int → Int → Int → Int → Value → World → Prop)
    (h : ∀ W, Bl w W → W.heap.size = w.heap.size + 2 → W.heap[w.heap.size + 1]? = some (.cells blank 98 (0, 0)) → Calls Tryz.prog 75 #[.pointer (some ⟨p, 0, none⟩), .int .i64 x, .int .i64 y, .agg #[.int .i64 kd', .int .i64 cl', .int .i64 ca', .slice va vn vc]] W (Inner (w.heap.size + 1) Q)) :
    Calls Tryz.prog 43 #[.pointer (some ⟨p, 0, none⟩), .int .i64 x, .int .i64 y, .agg #[.int .i64 kd', .int .i64 cl', .int .i64 ca', .slice va vn vc]] w (Outer (w.heap.size + 1) Q) := by
  have HW : Hid (∀ W, Bl ((w.alloc (.cells #[.int .i64 kd', .int .i64 cl', .int .i64 ca', .slice va vn vc] 42)).alloc (.cells blank 98)) W → W.heap.size = w.heap.size + 2 → _) := fun W hW hs => h W ((((Bl.refl w).alloc _).alloc _).trans hW) hs (by
    have := heap_alloc_new (w.alloc (.cells #[.int .i64 kd', .int .i64 cl', .int .i64 ca', .slice va vn vc] 42)) (.cells blank 98)
    rw [show (w.alloc (.cells #[.int .i64 kd', .int .i64 cl', .int .i64 ca', .slice va vn vc] 42)).heap.size = w.heap.size + 1 from by simp] at this
    rw [hW.heap (by simp)]; exact this)
  clear h
  go_enter Tryz.func43, Tryz.ntmps43
  go_wp2
  go_region_with (go_at_call 75; refine (HW.out _ (by exact (Bl.refl _).drewN _) (by simp)).mono ?_; rintro e w1 ⟨wh, ep, mk, kd, cl, ca, ra, rn, rc, rfl, hQ, hN⟩; have lN : w.heap.size + 1 < w1.heap.size := (Array.getElem?_eq_some_iff.1 hN).1; obtain ⟨n0, n1, n2, n3, n4, n5, n6, f0, f1, f2, f3, f4, f5, f6⟩ := blank_row hN; have HN := hid hN; have HQ := hid hQ; clear hN hQ; unfold reply)
  all_goals
    go_wp2
    have F := Only.set7 (w := w1) (S := fun b => b = w.heap.size + 1) rfl (.int .i64 wh) (.int .i64 ep) (.int .i64 mk) (.int .i64 kd) (.int .i64 cl) (.int .i64 ca) (.slice ra rn rc)
    exact bodyPost_ret (v := reply wh ep mk kd cl ca (.slice ra rn rc)) (by simp [results, Tryz.results43, go_sem, reply, n0, n1, n2, n3, n4, n5, n6]) rfl ⟨wh, ep, mk, kd, cl, ca, _, w1, rfl, HQ.out, HN.out, F⟩

set_option maxRecDepth 100000 in
set_option maxHeartbeats 1000000 in
theorem fimage_any (base p : Nat) (a b c d ch ep mk : Int) (ct : Nat → Ct) (img : List Int) (K : Nat → Value) (w : World) (h : Ks base w p a b c d ch ep mk ct img K) (hl : img.length ≤ 30000000) :
    Calls Tryz.prog 35 #[.pointer (some ⟨p, 0, none⟩)] w fun e w' => ∃ v', e = .returned v' ∧ Bl w w' ∧ w'.ownsRow w.heap.size 5 1 v' img.length (img.map B8) := by
  have H := hid h
  clear h
  go_enter Tryz.func35, Tryz.ntmps35
  go_wp2_with fail
  refine (image_any base p a b c d ch ep mk ct img K _ H.out hl).mono ?_
  rintro e w' ⟨v', rfl, hb, hv⟩
  have HB := hid hb
  have HV := hid hv
  clear hb hv
  go_wp2
  go_ret
  exact ⟨_, rfl, HB.out, HV.out⟩
end Go.Proofs.YtkgjpfamjedncaaGreat
