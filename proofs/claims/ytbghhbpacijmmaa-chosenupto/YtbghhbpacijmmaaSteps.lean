-- What Chosen keeps, step by step, without a program.
import Derived.Test.YtbghhbpacijmmaaProps
namespace Go.Proofs.Ytbghhbpacijmmaa

structure Sc (n i : Nat) (ep : Nat → Ep) (ps : Nat → PS) (round : Int) (ch : List Int) : Prop where
  inv : ∃ g, Inv n ⟨ep, ps, round, ch⟩ g
  r0 : 0 ≤ round
  r1 : round ≤ i
  pv : ∀ q, q < 3 → Good (ps q).value
  vv : ∀ k, k < n → 0 < (ep k).ba → Good (ep k).val
  cv : ch = [] ∨ Good ch
  far : ∀ q, q < 3 → ∀ k, n ≤ k → (ps q).prom k = false ∧ (ps q).vot k = false

theorem Sc.next {n i : Nat} {ep : Nat → Ep} {ps : Nat → PS} {round : Int} {ch : List Int} (h : Sc n i ep ps round ch) : Sc n (i + 1) ep ps round ch :=
  ⟨h.inv, h.r0, by have := h.r1; omega, h.pv, h.vv, h.cv, h.far⟩
def PS.fresh (b : Int) (q : Nat) : PS := ⟨false, b, fun _ => false, fun _ => false, 0, nm q⟩
theorem Sc.fresh {n i : Nat} {ep : Nat → Ep} {ps : Nat → PS} {round : Int} {ch : List Int} (h : Sc n i ep ps round ch) (q : Nat) (hq : q < 3) : Sc n (i + 1) ep (upN ps q (PS.fresh (3 * (round + 1) + q) q)) (round + 1) ch := by
  obtain ⟨g, hg⟩ := h.inv
  refine ⟨⟨g, hg.fresh q hq (nm q)⟩, by have := h.r0; omega, by have := h.r1; omega, fun j hj => ?_, h.vv, h.cv, fun j hj k hk => ?_⟩
  · by_cases e : j = q
    · subst e; rw [upN_same]; exact nm_good j hj
    · rw [upN_other _ _ _ _ e]; exact h.pv j hj
  · by_cases e : j = q
    · subst e; rw [upN_same]; exact ⟨rfl, rfl⟩
    · rw [upN_other _ _ _ _ e]; exact h.far j hj k hk
/-- A promise; what was told is no higher than what the proposer knows. -/
theorem Sc.promNo {n i : Nat} {ep : Nat → Ep} {ps : Nat → PS} {round : Int} {ch : List Int} (h : Sc n i ep ps round ch) (q k : Nat) (hq : q < 3) (hk : k < n) (ha : (ps q).asks = false) (hb : 0 < (ps q).ballot) (hp : (ep k).pr < (ps q).ballot) (hle : ¬ (ps q).best < (ep k).ba) :
    Sc n (i + 1) (upN ep k ⟨(ps q).ballot, (ep k).ba, (ep k).val⟩) (upN ps q { ps q with prom := upN (ps q).prom k true }) round ch := by
  obtain ⟨g, hg⟩ := h.inv
  refine ⟨⟨g, hg.promise q k hq hk ha hb hp (ps q).best (ps q).value (by simp only; rw [if_neg hle])⟩, h.r0, by have := h.r1; omega, fun j hj => ?_, fun j hj => ?_, h.cv, fun j hj x hx => ?_⟩
  · by_cases e : j = q
    · subst e; rw [upN_same]; exact h.pv j hj
    · rw [upN_other _ _ _ _ e]; exact h.pv j hj
  · by_cases e : j = k
    · subst e; rw [upN_same]; exact h.vv j hj
    · rw [upN_other _ _ _ _ e]; exact h.vv j hj
  · by_cases e : j = q
    · subst e; rw [upN_same]; refine ⟨?_, (h.far j hj x hx).2⟩
      show upN (ps j).prom k true x = false
      rw [upN_other _ _ _ _ (by omega)]; exact (h.far j hj x hx).1
    · rw [upN_other _ _ _ _ e]; exact h.far j hj x hx
theorem Sc.promYes {n i : Nat} {ep : Nat → Ep} {ps : Nat → PS} {round : Int} {ch : List Int} (h : Sc n i ep ps round ch) (q k : Nat) (hq : q < 3) (hk : k < n) (ha : (ps q).asks = false) (hb : 0 < (ps q).ballot) (hp : (ep k).pr < (ps q).ballot) (hle : (ps q).best < (ep k).ba) :
    Sc n (i + 1) (upN ep k ⟨(ps q).ballot, (ep k).ba, (ep k).val⟩) (upN ps q { ps q with prom := upN (ps q).prom k true, best := (ep k).ba, value := (ep k).val }) round ch := by
  obtain ⟨g, hg⟩ := h.inv
  have hpos : 0 < (ep k).ba := by
    have hz : (ps q).best = 0 ∨ _ := hg.p2 q hq
    rcases hz with hz | ⟨hz, _⟩
    · omega
    · have : 0 < (ps q).best := hz
      omega
  refine ⟨⟨g, hg.promise q k hq hk ha hb hp (ep k).ba (ep k).val (by simp only; rw [if_pos hle])⟩, h.r0, by have := h.r1; omega, fun j hj => ?_, fun j hj => ?_, h.cv, fun j hj x hx => ?_⟩
  · by_cases e : j = q
    · subst e; rw [upN_same]; exact h.vv k hk hpos
    · rw [upN_other _ _ _ _ e]; exact h.pv j hj
  · by_cases e : j = k
    · subst e; rw [upN_same]; exact h.vv j hj
    · rw [upN_other _ _ _ _ e]; exact h.vv j hj
  · by_cases e : j = q
    · subst e; rw [upN_same]; refine ⟨?_, (h.far j hj x hx).2⟩
      show upN (ps j).prom k true x = false
      rw [upN_other _ _ _ _ (by omega)]; exact (h.far j hj x hx).1
    · rw [upN_other _ _ _ _ e]; exact h.far j hj x hx
/-- It begins to ask, or goes on. -/
theorem Sc.ask {n i : Nat} {ep : Nat → Ep} {ps : Nat → PS} {round : Int} {ch : List Int} (h : Sc n i ep ps round ch) (q : Nat) (hq : q < 3) (hm : n < 2 * cnt n (ps q).prom) : Sc n i ep (upN ps q { ps q with asks := true }) round ch := by
  obtain ⟨g, hg⟩ := h.inv
  have hinv : ∃ g', Inv n ⟨ep, upN ps q { ps q with asks := true }, round, ch⟩ g' := by
    cases ha : (ps q).asks with
    | false => exact hg.ask q hq ha hm
    | true =>
      refine ⟨g, ?_⟩
      rw [upN_self ps q _ (by cases hx : ps q; rw [hx] at ha; simp at ha; simp [ha])]
      exact hg
  refine ⟨hinv, h.r0, h.r1, fun j hj => ?_, h.vv, h.cv, fun j hj k hk => ?_⟩
  · by_cases e : j = q
    · subst e; rw [upN_same]; exact h.pv j hj
    · rw [upN_other _ _ _ _ e]; exact h.pv j hj
  · by_cases e : j = q
    · subst e; rw [upN_same]; exact h.far j hj k hk
    · rw [upN_other _ _ _ _ e]; exact h.far j hj k hk
theorem Sc.vote {n i : Nat} {ep : Nat → Ep} {ps : Nat → PS} {round : Int} {ch : List Int} (h : Sc n i ep ps round ch) (q k : Nat) (hq : q < 3) (hk : k < n) (ha : (ps q).asks = true) (hp : (ep k).pr ≤ (ps q).ballot) :
    Sc n i (upN ep k ⟨(ps q).ballot, (ps q).ballot, (ps q).value⟩) (upN ps q { ps q with vot := upN (ps q).vot k true }) round ch := by
  obtain ⟨g, hg⟩ := h.inv
  refine ⟨hg.vote q k hq hk ha hp, h.r0, h.r1, fun j hj => ?_, fun j hj => ?_, h.cv, fun j hj x hx => ?_⟩
  · by_cases e : j = q
    · subst e; rw [upN_same]; exact h.pv j hj
    · rw [upN_other _ _ _ _ e]; exact h.pv j hj
  · by_cases e : j = k
    · subst e; rw [upN_same]; exact fun _ => h.pv q hq
    · rw [upN_other _ _ _ _ e]; exact h.vv j hj
  · by_cases e : j = q
    · subst e; rw [upN_same]; refine ⟨(h.far j hj x hx).1, ?_⟩
      show upN (ps j).vot k true x = false
      rw [upN_other _ _ _ _ (by omega)]; exact (h.far j hj x hx).2
    · rw [upN_other _ _ _ _ e]; exact h.far j hj x hx
theorem Sc.choose {n i : Nat} {ep : Nat → Ep} {ps : Nat → PS} {round : Int} {ch : List Int} (h : Sc n i ep ps round ch) (q : Nat) (hq : q < 3) (ha : (ps q).asks = true) (hm : n < 2 * cnt n (ps q).vot) : Sc n i ep ps round (ps q).value := by
  obtain ⟨g, hg⟩ := h.inv
  exact ⟨⟨g, hg.choose q hq ha hm⟩, h.r0, h.r1, h.pv, h.vv, .inr (h.pv q hq), h.far⟩
theorem Sc.agree {n i : Nat} {ep : Nat → Ep} {ps : Nat → PS} {round : Int} {ch : List Int} (h : Sc n i ep ps round ch) (q : Nat) (hq : q < 3) (ha : (ps q).asks = true) (hm : n < 2 * cnt n (ps q).vot) (hc : ch ≠ []) : ch = (ps q).value := by
  obtain ⟨g, hg⟩ := h.inv
  exact hg.agree q hq ha hm hc
theorem Sc.cntP {n i : Nat} {ep : Nat → Ep} {ps : Nat → PS} {round : Int} {ch : List Int} (h : Sc n i ep ps round ch) (hn : n ≤ 5) (q : Nat) (hq : q < 3) : cnt 5 (ps q).prom = cnt n (ps q).prom := cnt_five hn fun k hk => (h.far q hq k hk).1
theorem Sc.cntV {n i : Nat} {ep : Nat → Ep} {ps : Nat → PS} {round : Int} {ch : List Int} (h : Sc n i ep ps round ch) (hn : n ≤ 5) (q : Nat) (hq : q < 3) : cnt 5 (ps q).vot = cnt n (ps q).vot := cnt_five hn fun k hk => (h.far q hq k hk).2
theorem Sc.bal {n i : Nat} {ep : Nat → Ep} {ps : Nat → PS} {round : Int} {ch : List Int} (h : Sc n i ep ps round ch) (q : Nat) (hq : q < 3) : 0 ≤ (ps q).ballot ∧ (ps q).ballot ≤ 3 * i + 2 := by
  obtain ⟨g, hg⟩ := h.inv
  have h1 := h.r0
  have h2 := h.r1
  have h3 : (ps q).ballot = 0 ∨ (0 < (ps q).ballot ∧ _ ∧ (ps q).ballot ≤ 3 * round + 2) := hg.p0 q hq
  rcases h3 with h3 | ⟨h3, _, h4⟩ <;> omega
theorem Sc.low {n i : Nat} {ep : Nat → Ep} {ps : Nat → PS} {round : Int} {ch : List Int} (h : Sc n i ep ps round ch) (k : Nat) (hk : k < n) : 0 ≤ (ep k).ba ∧ (ep k).ba ≤ (ep k).pr ∧ (ep k).pr ≤ 3 * round + 2 := by
  obtain ⟨g, hg⟩ := h.inv
  exact hg.v0 k hk
/-- The last one comes to what was chosen. -/
theorem Sc.last {n i : Nat} {ep : Nat → Ep} {ps : Nat → PS} {round : Int} {ch : List Int} (h : Sc n i ep ps round ch) {b : Int} {v : List Int} (hb : Best ep n b v) (hn : 1 ≤ n) (hc : ch ≠ []) : v = ch := by
  obtain ⟨g, hg⟩ := h.inv
  rcases hb with ⟨_, _, hz⟩ | ⟨h0, j, h1, h2, h3, hmax⟩
  · exfalso
    obtain ⟨hp, _⟩ := hg.last hc 0 (by omega) fun j hj => by
      have a1 : (ep j).ba ≤ 0 := hz j hj
      have a2 := h.low 0 (by omega)
      show (ep j).ba ≤ (ep 0).ba
      omega
    have : 0 < (ep 0).ba := hp
    have := hz 0 (by omega)
    omega
  · obtain ⟨_, hv⟩ := hg.last hc j h1 fun k hk => by
      show (ep k).ba ≤ (ep j).ba
      rw [h2]; exact hmax k hk
    rw [← h3]; exact hv
theorem Sc.start (n : Nat) (ep : Nat → Ep) (hep : ∀ k, ep k = nop) : Sc n 0 ep (fun q => PS.fresh 0 q) 0 [] := by
  refine ⟨⟨⟨fun _ => [], fun _ _ => false, fun _ => 0, fun _ _ => false, fun _ => false⟩, ?_⟩, by omega, by omega, fun q hq => nm_good q hq, fun k hk h => by rw [hep k] at h; simp [nop] at h, .inl rfl, fun _ _ _ _ => ⟨rfl, rfl⟩⟩
  refine ⟨by simp, fun i hi => by simp [hep i, nop], fun i hi h => by simp [hep i, nop] at h, fun i B hi h => by simp at h, fun B h => by simp at h, fun q hq => .inl rfl, fun q k hq hk h => by simp [PS.fresh] at h, fun q hq => .inl rfl, fun q hq => ⟨fun h => by simp [PS.fresh] at h, fun _ => rfl⟩, fun q k hq hk h => by simp [PS.fresh] at h, fun h => by simp at h⟩
end Go.Proofs.Ytbghhbpacijmmaa
