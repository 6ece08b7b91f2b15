-- Voters side by side.
import Derived.Test.YtbghhbpacijmmaaVCalls
import Derived.Test.YtbghhbpacijmmaaCount
namespace Go.Proofs.Ytbghhbpacijmmaa
open Go.RowKit Go.Maps

theorem Vs.apart {S : Nat → Prop} {base : Nat} {w w' : World} {p bm n : Nat} {E : Int → Ep} {img : List Int} {M : Int → Value} {vi : Value} {t : TypeId} (h : Vs base w p bm n E img M vi t) (ho : Only S w w') (h1 : ¬ S p) (h2 : ¬ S bm) (h3 : ∀ g, g < w.heap.size → Foot M vi g → ¬ S g) : Vs base w' p bm n E img M vi t := by
  refine ⟨(ho.block p h.lt h1).trans h.at', h.ty, h.mp.only ho h2, fun e => ?_, ho.owns h.own fun b e => h3 b (h.own.lt b e).2 (.inl e)⟩
  obtain ⟨vv, k1, k2, k3⟩ := h.ep e
  exact ⟨vv, k1, ho.owns k2 fun b e' => h3 b (k2.lt b e').2 (.inr ⟨e, by rw [k1]; exact e'⟩), k3⟩
theorem Vs.foot_lt {base : Nat} {w : World} {p bm n : Nat} {E : Int → Ep} {img : List Int} {M : Int → Value} {vi : Value} {t : TypeId} (h : Vs base w p bm n E img M vi t) {g : Nat} (hg : Foot M vi g) : base ≤ g ∧ g < w.heap.size := by
  rcases hg with hg | ⟨e, hg⟩
  · exact h.own.lt g hg
  · obtain ⟨vv, k1, k2, _⟩ := h.ep e
    rw [k1] at hg
    exact k2.lt g hg
theorem Vs.base0 {base : Nat} {w : World} {p bm n : Nat} {E : Int → Ep} {img : List Int} {M : Int → Value} {vi : Value} {t : TypeId} (h : Vs base w p bm n E img M vi t) : Vs 0 w p bm n E img M vi t := by
  refine ⟨h.at', h.ty, h.mp, fun e => ?_, ownsRow_base h.own fun _ _ => Nat.zero_le _⟩
  obtain ⟨vv, k1, k2, k3⟩ := h.ep e
  exact ⟨vv, k1, ownsRow_base k2 fun _ _ => Nat.zero_le _, k3⟩

/-- The voter i, whose blocks bear the mark i, is as E tells, and has at most t records. -/
def Vot (w : World) (tag : Nat → Nat) (i p t : Nat) (E : Int → Ep) : Prop :=
  ∃ bm M vi rs S, Vs 0 w p bm rs.length E (flat rs) M vi 78 ∧ VWay rs S ∧ S rs.length = E ∧ (flat rs).length ≤ 24 * rs.length ∧ rs.length ≤ t ∧ tag p = i ∧ tag bm = i ∧ ∀ g, Foot M vi g → tag g = i

def tagTo (tag : Nat → Nat) (N i : Nat) : Nat → Nat := fun b => if b < N then tag b else i
theorem tagTo_old (tag : Nat → Nat) (N i b : Nat) (h : b < N) : tagTo tag N i b = tag b := by simp [tagTo, h]
theorem tagTo_new (tag : Nat → Nat) (N i b : Nat) (h : N ≤ b) : tagTo tag N i b = i := by unfold tagTo; rw [if_neg (by omega)]

theorem Vot.lt {w : World} {tag : Nat → Nat} {i p t : Nat} {E : Int → Ep} (h : Vot w tag i p t E) : p < w.heap.size ∧ tag p = i := by
  obtain ⟨bm, M, vi, rs, S, hv, _, _, _, _, hp, _⟩ := h
  exact ⟨hv.lt, hp⟩
theorem Vot.mono {w : World} {tag : Nat → Nat} {i p t t' : Nat} {E : Int → Ep} (h : Vot w tag i p t E) (ht : t ≤ t') : Vot w tag i p t' E := by
  obtain ⟨bm, M, vi, rs, S, hv, hw, hS, hf, hl, hr⟩ := h
  exact ⟨bm, M, vi, rs, S, hv, hw, hS, hf, Nat.le_trans hl ht, hr⟩
theorem Vot.vals {w : World} {tag : Nat → Nat} {i p t : Nat} {E : Int → Ep} (h : Vot w tag i p t E) (e : Int) : (E e).val.length ≤ 255 ∧ ∀ d ∈ (E e).val, 0 ≤ d ∧ d ≤ 255 := by
  obtain ⟨bm, M, vi, rs, S, hv, hw, rfl, _⟩ := h
  exact hw.vals _ (Nat.le_refl _) e
theorem Vot.only {S : Nat → Prop} {w w' : World} {tag tag' : Nat → Nat} {i p t : Nat} {E : Int → Ep} (h : Vot w tag i p t E) (ho : Only S w w') (hs : ∀ b, b < w.heap.size → S b → tag b ≠ i) (ht : ∀ b, b < w.heap.size → tag' b = tag b) : Vot w' tag' i p t E := by
  obtain ⟨bm, M, vi, rs, S, hv, hw, hS, hf, hl, hp, hb, hg⟩ := h
  refine ⟨bm, M, vi, rs, S, hv.apart ho (fun e => hs p hv.lt e hp) (fun e => hs bm hv.mp.lt e hb) (fun g hl hF e => hs g hl e (hg g hF)), hw, hS, hf, hl, by rw [ht p hv.lt, hp], by rw [ht bm hv.mp.lt, hb], fun g hF => by rw [ht g (hv.foot_lt hF).2, hg g hF]⟩
theorem Vot.bl {w w' : World} {tag : Nat → Nat} {i p t : Nat} {E : Int → Ep} (h : Vot w tag i p t E) (hb : Bl w w') : Vot w' tag i p t E := h.only (Only.of_bl (S := fun _ => False) hb) (fun _ _ e => e.elim) (fun _ _ => rfl)

/-- n voters, the i-th in block P i. -/
def Vots (n : Nat) (w : World) (tag : Nat → Nat) (P : Nat → Nat) (t : Nat) (EE : Nat → Int → Ep) : Prop := ∀ i, i < n → Vot w tag i (P i) t (EE i)

theorem Vots.only {S : Nat → Prop} {n : Nat} {w w' : World} {tag tag' P : Nat → Nat} {t : Nat} {EE : Nat → Int → Ep} (h : Vots n w tag P t EE) (ho : Only S w w') (hs : ∀ b, b < w.heap.size → S b → n ≤ tag b) (ht : ∀ b, b < w.heap.size → tag' b = tag b) : Vots n w' tag' P t EE :=
  fun i hi => (h i hi).only ho (fun b hb hS => by have := hs b hb hS; omega) ht
theorem Vots.bl {n : Nat} {w w' : World} {tag P : Nat → Nat} {t : Nat} {EE : Nat → Int → Ep} (h : Vots n w tag P t EE) (hb : Bl w w') : Vots n w' tag P t EE := fun i hi => (h i hi).bl hb
theorem Vots.mono {n : Nat} {w : World} {tag P : Nat → Nat} {t t' : Nat} {EE : Nat → Int → Ep} (h : Vots n w tag P t EE) (ht : t ≤ t') : Vots n w tag P t' EE := fun i hi => (h i hi).mono ht

/-- A voter's call leaves a record. -/
theorem Vots.step {n k : Nat} {w w' : World} {tag P : Nat → Nat} {t bm : Nat} {EE : Nat → Int → Ep} {M M' : Int → Value} {vi vi' : Value} {rs : List Rc} {S : Nat → Int → Ep} {r : Rc} {E' : Int → Ep} (h : Vots n w tag P t EE) (hk : k < n)
    (hv : Vs 0 w (P k) bm rs.length (EE k) (flat rs) M vi 78) (hw : VWay rs S) (hS : S rs.length = EE k) (hf : (flat rs).length ≤ 24 * rs.length) (hl : rs.length ≤ t) (hp : tag (P k) = k) (hb : tag bm = k) (hg : ∀ g, Foot M vi g → tag g = k)
    (hpl : VPlays (EE k) r E') (ho : r.Ok vshs) (h24 : r.bytes.length ≤ 24) (hv' : Vs 0 w' (P k) bm (rs.length + 1) E' (flat rs ++ r.bytes) M' vi' 78) (hG : Gone (P k) bm M vi M' vi' w w') :
    Vots n w' (tagTo tag w.heap.size k) P (t + 1) (upN EE k E') ∧ Only (fun b => tag b = k) w w' := by
  have O : Only (fun b => tag b = k) w w' := hG.only.mono fun b _ e => by
    rcases e with rfl | rfl | e
    · exact hp
    · exact hb
    · exact hg b (.inl e)
  refine ⟨fun i hi => ?_, O⟩
  by_cases e : i = k
  · subst e
    rw [upN_same]
    refine ⟨bm, M', vi', rs ++ [r], _, ?_, hw.snoc (by rw [hS]; exact hpl) ho, VWay.last, ?_, by simp; omega, by rw [tagTo_old _ _ _ _ hv.lt, hp], by rw [tagTo_old _ _ _ _ hv.mp.lt, hb], fun g hF => ?_⟩
    · rw [List.length_append, flat_append]
      simpa [flat] using hv'
    · rw [flat_append, List.length_append, List.length_append]
      simp [flat] at hf ⊢
      omega
    · rcases hG.lies g hF with h1 | h1
      · rw [tagTo_old _ _ _ _ (hv.foot_lt h1).2, hg g h1]
      · exact tagTo_new _ _ _ _ h1
  · rw [upN_other _ _ _ _ e]
    exact ((h i hi).only O (fun b _ e1 e2 => e (by omega)) (fun b hb => tagTo_old _ _ _ _ hb)).mono (by omega)

theorem vots_prep {n k : Nat} {w0 w : World} {tag P : Nat → Nat} {t : Nat} {EE : Nat → Int → Ep} (h : Vots n w0 tag P t EE) (hW : Bl w0 w) (hk : k < n) (e b : Int) (he : 1 ≤ e) (hwf : (Lit.int .i64 e).wf = true) (hbf : (Lit.int .i64 b).wf = true) (ht : t ≤ 1000000) (h1 : 1 ≤ b) (h2 : (EE k e).pr < b) :
    Calls Try.prog 16 #[.pointer (some ⟨P k, 0, none⟩), .int .i64 e, .int .i64 b] w fun en w' => ∃ va vc, en = .returned (voteR 1 b (EE k e).ba (.slice va (EE k e).val.length vc)) ∧ w'.ownsRow w.heap.size 5 1 (.slice va (EE k e).val.length vc) (EE k e).val.length ((EE k e).val.map B8) ∧ Vots n w' (tagTo tag w.heap.size k) P (t + 1) (upN EE k (updE (EE k) e ⟨b, (EE k e).ba, (EE k e).val⟩)) ∧ Only (fun b => tag b = k) w w' := by
  have hh := h.bl hW
  obtain ⟨bm, M, vi, rs, S, hv, hw, hS, hf, hl, hp, hb, hg⟩ := hh k hk
  have hV := (hh k hk).vals e
  refine (fprepare_yes 0 (P k) bm rs.length (EE k) (flat rs) M vi 78 e b w hv (Nat.zero_le _) (by omega) (by omega) hwf hV.1 he h1 h2).mono ?_
  rintro en w' ⟨M', vi', v', rfl, hv', hvs, hG⟩
  obtain ⟨va, vc, rfl⟩ := owned_slice' hv'
  obtain ⟨r1, r2⟩ := hh.step hk hv hw hS hf hl hp hb hg (VPlays.prep (EE k) e b he h1 h2) (vok_prep e b hwf hbf) (by simp [Rc.bytes, recB_len]) hvs hG
  exact ⟨va, vc, rfl, hv', r1, r2⟩
theorem vots_prepNo {n k : Nat} {w0 w : World} {tag P : Nat → Nat} {t : Nat} {EE : Nat → Int → Ep} (h : Vots n w0 tag P t EE) (hW : Bl w0 w) (hk : k < n) (e b : Int) (hwf : (Lit.int .i64 e).wf = true) (hno : e < 1 ∨ b < 1 ∨ b ≤ (EE k e).pr) :
    Calls Try.prog 16 #[.pointer (some ⟨P k, 0, none⟩), .int .i64 e, .int .i64 b] w fun en w' => en = .returned (voteR 6 (EE k e).pr 0 (.slice none 0 0)) ∧ Vots n w' tag P t EE ∧ Bl w w' := by
  have hh := h.bl hW
  obtain ⟨bm, M, vi, rs, S, hv, hw, hS, hf, hl, hp, hb, hg⟩ := hh k hk
  refine (fprepare_no 0 (P k) bm rs.length (EE k) (flat rs) M vi 78 e b w hv hwf hno).mono ?_
  rintro en w' ⟨rfl, _, hb⟩
  exact ⟨rfl, hh.bl hb, hb⟩
theorem upN_self {α : Type} (f : Nat → α) (k : Nat) (v : α) (h : v = f k) : upN f k v = f := by
  funext j
  unfold upN
  split
  · rename_i e; rw [e, h]
  · rfl
theorem vots_acc {n k : Nat} {w0 w : World} {tag P : Nat → Nat} {t : Nat} {EE : Nat → Int → Ep} (h : Vots n w0 tag P t EE) (hW : Bl w0 w) (hk : k < n) (e b : Int) (he : 1 ≤ e) (hwf : (Lit.int .i64 e).wf = true) (hbf : (Lit.int .i64 b).wf = true) (ht : t ≤ 1000000) (h1 : 1 ≤ b) (h2 : (EE k e).pr ≤ b) (h3 : (EE k e).ba ≤ (EE k e).pr)
    (v : Value) (ys : List Int) (hv : Bs w v (ys.map B8)) (hvb : ∀ g, v.ownBlock = some g → w0.heap.size ≤ g ∧ g < w.heap.size) (hy1 : 1 ≤ ys.length) (hy5 : ys.length ≤ 5) (hys : ∀ d ∈ ys, 0 ≤ d ∧ d ≤ 255) :
    Calls Try.prog 17 #[.pointer (some ⟨P k, 0, none⟩), .int .i64 e, .int .i64 b, v] w fun en w' => en = .returned (voteR 1 b 0 (.slice none 0 0)) ∧ Vots n w' (tagTo tag w.heap.size k) P (t + 1) (upN EE k (updE (EE k) e ⟨b, b, ys⟩)) ∧ Only (fun b => tag b = k) w w' := by
  have hh := h.bl hW
  obtain ⟨bm, M, vi, rs, S, hv0, hw, hS, hf, hl, hp, hb, hg⟩ := h k hk
  have hV := (h k hk).vals e
  have hvv := hv0.bl hW
  have hvb' : ∀ g, v.ownBlock = some g → g < w.heap.size ∧ vi.ownBlock ≠ some g ∧ g ≠ bm := fun g e => by
    obtain ⟨a1, a2⟩ := hvb g e
    refine ⟨a2, fun e' => ?_, fun e' => ?_⟩
    · have := (hv0.own.lt g e').2; omega
    · have := hv0.mp.lt; omega
  by_cases hs : b = (EE k e).ba ∧ ys = (EE k e).val
  · refine (faccept_same 0 (P k) bm rs.length (EE k) (flat rs) M vi 78 e b v ys w hvv (Nat.zero_le _) (by omega) (by omega) hwf hv hy1 (by omega) hvb' hys hV.2 he h1 h2 hs.1 hs.2).mono ?_
    rintro en w' ⟨rfl, _, hb⟩
    refine ⟨rfl, ?_, Only.of_bl hb⟩
    have e1 : updE (EE k) e ⟨b, b, ys⟩ = EE k := by
      funext j
      unfold updE
      split
      · rename_i ej
        subst ej
        have hpr : (EE k j).pr = b := by omega
        rw [hs.2]
        cases hx : EE k j with
        | mk a1 a2 a3 =>
          rw [hx] at hpr hs
          simp at hpr hs
          simp [hpr, ← hs.1]
      · rfl
    rw [e1, upN_self _ _ _ rfl]
    exact ((hh.only (Only.of_bl (S := fun _ => False) hb) (fun _ _ e => e.elim) (fun b hb => tagTo_old _ _ _ _ hb))).mono (by omega)
  · refine (faccept_new 0 (P k) bm rs.length (EE k) (flat rs) M vi 78 e b v ys w hvv (Nat.zero_le _) (by omega) (by omega) hwf hv hy1 (by omega) hvb' hys hV.2 he h1 h2 (by
      by_cases e1 : b = (EE k e).ba
      · exact .inr fun e2 => hs ⟨e1, e2⟩
      · exact .inl e1)).mono ?_
    rintro en w' ⟨M', vi', rfl, hvs, hG⟩
    obtain ⟨r1, r2⟩ := hh.step hk hvv hw hS hf hl hp hb hg (VPlays.acc (EE k) e b ys he h1 h2 hy1 (by omega) hys (by
      by_cases e1 : b = (EE k e).ba
      · exact .inr fun e2 => hs ⟨e1, e2⟩
      · exact .inl e1)) (vok_acc e b ys hwf hbf (by omega) hys) (by simp [Rc.bytes, recB_len]; omega) hvs hG
    exact ⟨rfl, r1, r2⟩
theorem vots_accNo {n k : Nat} {w0 w : World} {tag P : Nat → Nat} {t : Nat} {EE : Nat → Int → Ep} (h : Vots n w0 tag P t EE) (hW : Bl w0 w) (hk : k < n) (e b : Int) (hwf : (Lit.int .i64 e).wf = true) (ua : Option Addr) (un uc : Nat) (hun : un ≤ 255) (hno : e < 1 ∨ b < 1 ∨ b < (EE k e).pr) :
    Calls Try.prog 17 #[.pointer (some ⟨P k, 0, none⟩), .int .i64 e, .int .i64 b, .slice ua un uc] w fun en w' => en = .returned (voteR 6 (EE k e).pr 0 (.slice none 0 0)) ∧ Vots n w' tag P t EE ∧ Bl w w' := by
  have hh := h.bl hW
  obtain ⟨bm, M, vi, rs, S, hv, hw, hS, hf, hl, hp, hb, hg⟩ := hh k hk
  refine (faccept_no 0 (P k) bm rs.length (EE k) (flat rs) M vi 78 e b ua un uc w hv hwf (by omega) (by rcases hno with h | h | h; exact .inl h; exact .inr (.inl h); exact .inr (.inr (.inl h)))).mono ?_
  rintro en w' ⟨rfl, _, hb⟩
  exact ⟨rfl, hh.bl hb, hb⟩

theorem cut_own {w : World} {base L c : Nat} {a : Option Addr} {rs : List Rc} (h : w.ownsRow base 5 1 (.slice a L c) L ((flat rs).map B8)) : Cut w a L c rs := by
  have hl := ownsRow_len h
  rw [List.length_map] at hl
  rcases h.2 with ⟨h', hz⟩ | ⟨g, cap, cur, h', hb, hg, hc, hm, hs, ht⟩
  · simp only [Value.slice.injEq] at h'
    obtain ⟨rfl, rfl, rfl⟩ := h'
    exact ⟨by omega, Nat.le_refl _, by decide, 0, 0, fun h => absurd h (by decide), fun j d h => absurd h (by omega)⟩
  · simp only [Value.slice.injEq] at h'
    obtain ⟨rfl, _, rfl⟩ := h'
    refine ⟨by omega, hc, by unfold maxLen at hm; omega, g, 0, fun _ => ⟨rfl, (h.lt g rfl).2⟩, fun j d hj hd => ?_⟩
    rw [Nat.zero_add, h.cellAt j (by omega), List.getElem?_map, hd]
    rfl

/-- A slice that holds the image of a voter that is as E tells. -/
def Rip (w : World) (ad : Option Addr) (nn cc t : Nat) (E : Int → Ep) : Prop :=
  ∃ rs S, VWay rs S ∧ S rs.length = E ∧ (flat rs).length ≤ 24 * rs.length ∧ rs.length ≤ t ∧ nn = (flat rs).length ∧ Cut w ad nn cc rs
theorem Rip.bl {w w' : World} {ad : Option Addr} {nn cc t : Nat} {E : Int → Ep} (h : Rip w ad nn cc t E) (hb : Bl w w') : Rip w' ad nn cc t E := by
  obtain ⟨rs, S, h1, h2, h3, h4, h5, h6⟩ := h
  exact ⟨rs, S, h1, h2, h3, h4, h5, h6.bl hb⟩
theorem rip_nil (w : World) : Rip w none 0 0 0 (fun _ => nop) :=
  ⟨[], fun _ _ => nop, ⟨rfl, fun j h => by simp at h, by simp⟩, rfl, by simp [flat], by simp, by simp [flat], ⟨by simp, by simp, by simp, 0, 0, fun h => by omega, fun j d h => by omega⟩⟩

theorem vots_image {n k : Nat} {w0 w : World} {tag P : Nat → Nat} {t : Nat} {EE : Nat → Int → Ep} (h : Vots n w0 tag P t EE) (hW : Bl w0 w) (hk : k < n) (ht : t ≤ 1000000) :
    Calls Try.prog 19 #[.pointer (some ⟨P k, 0, none⟩)] w fun en w' => ∃ ad nn cc, en = .returned (.slice ad nn cc) ∧ Bl w w' ∧ Rip w' ad nn cc t (EE k) := by
  have hh := h.bl hW
  obtain ⟨bm, M, vi, rs, S, hv, hw, hS, hf, hl, hp, hb, hg⟩ := hh k hk
  refine (fvimage_any 0 (P k) bm rs.length (EE k) (flat rs) M vi 78 w hv (by omega)).mono ?_
  rintro en w' ⟨v', rfl, hb, hv'⟩
  obtain ⟨va, vc, rfl⟩ := owned_slice' hv'
  exact ⟨va, _, vc, rfl, hb, rs, S, hw, hS, hf, hl, rfl, cut_own hv'⟩
theorem rip_open {w : World} {ad : Option Addr} {nn cc t : Nat} {E : Int → Ep} (h : Rip w ad nn cc t E) (ht : t ≤ 1000000) :
    Calls Try.prog 15 #[.slice ad nn cc] w fun en w' => ∃ p, en = .returned (.tuple #[.pointer (some ⟨p, 0, none⟩), .int .i64 0]) ∧ w.heap.size ≤ p ∧ p < w'.heap.size ∧ Bl w w' ∧ ∀ tag i, Vot w' (tagTo tag w.heap.size i) i p t E := by
  obtain ⟨rs, S, hw, rfl, hf, hl, rfl, hc⟩ := h
  refine (openVoter_any ad _ cc rs S w hw (by omega) hc).mono ?_
  rintro en w' ⟨k, p, bm, M, vi, rfl, h1, h2, h3, h4, h5, h6, h7⟩
  have hk : k = rs.length := by
    apply Classical.byContradiction
    intro hne
    have hlt : k < rs.length := by omega
    have h3 := h3 hlt
    rw [← off_succ rs k hlt, ← off_all] at h3
    have : off rs (k + 1) ≤ off rs rs.length := by
      rcases Nat.lt_or_ge (k + 1) rs.length with h | h
      · have := off_le rs (k + 1) h; rw [off_all]; omega
      · rw [show k + 1 = rs.length by omega]; exact Nat.le_refl _
    omega
  subst hk
  rw [List.take_of_length_le (Nat.le_refl _)] at h6
  refine ⟨p, rfl, h4, h6.lt, h7, fun tag i => ⟨bm, M, vi, rs, S, h6.base0, hw, rfl, hf, hl, tagTo_new _ _ _ _ h4, tagTo_new _ _ _ _ h5, fun g hF => tagTo_new _ _ _ _ (h6.foot_lt hF).1⟩⟩
end Go.Proofs.Ytbghhbpacijmmaa
