-- Voters choose one value: the reckoning, without a program.
import Derived.Test.YtbghhbpacijmmaaVote
namespace Go.Proofs.Ytbghhbpacijmmaa

def cnt (n : Nat) (f : Nat → Bool) : Nat := (List.range n).countP f
theorem countP_apart (f g : Nat → Bool) : ∀ l : List Nat, (∀ k ∈ l, ¬ (f k = true ∧ g k = true)) → l.countP f + l.countP g ≤ l.length := by
  intro l
  induction l with
  | nil => intro _; simp
  | cons a l ih =>
    intro h
    have h1 := ih fun k hk => h k (List.mem_cons_of_mem _ hk)
    have h2 := h a (List.mem_cons_self ..)
    rw [List.countP_cons, List.countP_cons, List.length_cons]
    by_cases e1 : f a = true <;> by_cases e2 : g a = true <;> simp [e1, e2] at h2 ⊢ <;> omega
/-- Two majorities meet. -/
theorem meet {n : Nat} {f g : Nat → Bool} (hf : n < 2 * cnt n f) (hg : n < 2 * cnt n g) : ∃ k, k < n ∧ f k = true ∧ g k = true := by
  apply Classical.byContradiction
  intro hno
  have := countP_apart f g (List.range n) fun k hk hc => hno ⟨k, by simpa using hk, hc⟩
  unfold cnt at hf hg
  simp at this
  omega
theorem cnt_mono {n : Nat} {f g : Nat → Bool} (h : ∀ k, k < n → f k = true → g k = true) : cnt n f ≤ cnt n g := by
  unfold cnt
  refine List.countP_mono_left fun k hk hf => h k (by simpa using hk) hf

structure PS where
  asks : Bool
  ballot : Int
  prom : Nat → Bool
  vot : Nat → Bool
  best : Int
  value : List Int
structure GS where
  ep : Nat → Ep
  ps : Nat → PS
  round : Int
  chosen : List Int
/-- What has been asked for, and who has voted for it. -/
structure Gh where
  prop : Int → List Int
  acc : Nat → Int → Bool
  bst : Int → Int
  qs : Int → Nat → Bool
  asked : Int → Bool

structure Asked (n : Nat) (s : GS) (g : Gh) (B : Int) : Prop where
  pos : 0 < B
  le : B ≤ 3 * s.round + 2
  maj : n < 2 * cnt n (g.qs B)
  prom : ∀ k, k < n → g.qs B k = true → B ≤ (s.ep k).pr ∧ ∀ B', B' < B → g.acc k B' = true → B' ≤ g.bst B
  best : g.bst B = 0 ∨ (0 < g.bst B ∧ g.bst B < B ∧ g.asked (g.bst B) = true ∧ g.prop B = g.prop (g.bst B))

structure Inv (n : Nat) (s : GS) (g : Gh) : Prop where
  r0 : 0 ≤ s.round
  v0 : ∀ i, i < n → 0 ≤ (s.ep i).ba ∧ (s.ep i).ba ≤ (s.ep i).pr ∧ (s.ep i).pr ≤ 3 * s.round + 2
  v1 : ∀ i, i < n → 0 < (s.ep i).ba → g.acc i (s.ep i).ba = true ∧ (s.ep i).val = g.prop (s.ep i).ba
  v2 : ∀ i B, i < n → g.acc i B = true → B ≤ (s.ep i).ba ∧ g.asked B = true
  a1 : ∀ B, g.asked B = true → Asked n s g B
  p0 : ∀ q, q < 3 → (s.ps q).ballot = 0 ∨ (0 < (s.ps q).ballot ∧ (s.ps q).ballot % 3 = (q : Int) ∧ (s.ps q).ballot ≤ 3 * s.round + 2)
  p1 : ∀ q k, q < 3 → k < n → (s.ps q).prom k = true → 0 < (s.ps q).ballot ∧ (s.ps q).ballot ≤ (s.ep k).pr ∧ ∀ B', B' < (s.ps q).ballot → g.acc k B' = true → B' ≤ (s.ps q).best
  p2 : ∀ q, q < 3 → (s.ps q).best = 0 ∨ (0 < (s.ps q).best ∧ (s.ps q).best < (s.ps q).ballot ∧ g.asked (s.ps q).best = true ∧ (s.ps q).value = g.prop (s.ps q).best)
  p3 : ∀ q, q < 3 → ((s.ps q).asks = true → g.asked (s.ps q).ballot = true ∧ (s.ps q).value = g.prop (s.ps q).ballot) ∧ ((s.ps q).asks = false → g.asked (s.ps q).ballot = false)
  p4 : ∀ q k, q < 3 → k < n → (s.ps q).vot k = true → g.acc k (s.ps q).ballot = true
  c0 : s.chosen ≠ [] → ∃ B, g.asked B = true ∧ n < 2 * cnt n (fun k => g.acc k B) ∧ g.prop B = s.chosen

/-- What a majority has voted for is what is asked for later. -/
theorem Inv.safe {n : Nat} {s : GS} {g : Gh} (h : Inv n s g) {B' : Int} (hm : n < 2 * cnt n (fun k => g.acc k B')) : ∀ (m : Nat) (B : Int), B.toNat ≤ m → g.asked B = true → B' ≤ B → g.prop B = g.prop B' := by
  intro m
  induction m with
  | zero => intro B hB ha; have := (h.a1 B ha).pos; omega
  | succ m ih =>
    intro B hB ha hle
    by_cases e : B' = B
    · rw [e]
    · have A := h.a1 B ha
      obtain ⟨k, hk, h1, h2⟩ := meet A.maj hm
      have h3 := (A.prom k hk h1).2 B' (by omega) h2
      have hp := (h.a1 B' (h.v2 k B' hk h2).2).pos
      rcases A.best with hb | ⟨b1, b2, b3, b4⟩
      · omega
      · rw [b4]
        exact ih _ (by omega) b3 h3
theorem Inv.one {n : Nat} {s : GS} {g : Gh} (h : Inv n s g) {B B' : Int} (hB : g.asked B = true) (hB' : g.asked B' = true) (hm : n < 2 * cnt n (fun k => g.acc k B)) (hm' : n < 2 * cnt n (fun k => g.acc k B')) : g.prop B = g.prop B' := by
  by_cases e : B' ≤ B
  · exact h.safe hm' B.toNat B (Nat.le_refl _) hB e
  · exact (h.safe hm B'.toNat B' (Nat.le_refl _) hB' (by omega)).symm

def upN {α : Type} (f : Nat → α) (k : Nat) (v : α) : Nat → α := fun j => if j = k then v else f j
theorem upN_same {α : Type} (f : Nat → α) (k : Nat) (v : α) : upN f k v k = v := by simp [upN]
theorem upN_other {α : Type} (f : Nat → α) (k j : Nat) (v : α) (h : j ≠ k) : upN f k v j = f j := by simp [upN, h]

/-- A proposer takes a new ballot. -/
theorem Inv.fresh {n : Nat} {s : GS} {g : Gh} (h : Inv n s g) (q : Nat) (hq : q < 3) (v : List Int) : Inv n { s with round := s.round + 1, ps := upN s.ps q ⟨false, 3 * (s.round + 1) + q, fun _ => false, fun _ => false, 0, v⟩ } g where
  r0 := by have := h.r0; simp; omega
  v0 := fun i hi => by have := h.v0 i hi; simp only; omega
  v1 := h.v1
  v2 := h.v2
  a1 := fun B hB => by
    have A := h.a1 B hB
    exact ⟨A.pos, by have := A.le; simp only; omega, A.maj, A.prom, A.best⟩
  p0 := fun j hj => by
    have r := h.r0
    by_cases e : j = q
    · subst e; simp only [upN_same]; right; omega
    · simp only [upN_other _ _ _ _ e]
      rcases h.p0 j hj with h1 | h1
      · exact .inl h1
      · right; omega
  p1 := fun j k hj hk hp => by
    by_cases e : j = q
    · subst e; simp [upN_same] at hp
    · simp only [upN_other _ _ _ _ e] at hp ⊢; exact h.p1 j k hj hk hp
  p2 := fun j hj => by
    by_cases e : j = q
    · subst e; simp [upN_same]
    · simp only [upN_other _ _ _ _ e]; exact h.p2 j hj
  p3 := fun j hj => by
    by_cases e : j = q
    · subst e
      simp only [upN_same]
      refine ⟨fun h => by simp at h, fun _ => ?_⟩
      cases ha : g.asked (3 * (s.round + 1) + (j : Int)) with
      | false => rfl
      | true => have := (h.a1 _ ha).le; omega
    · simp only [upN_other _ _ _ _ e]; exact h.p3 j hj
  p4 := fun j k hj hk hp => by
    by_cases e : j = q
    · subst e; simp [upN_same] at hp
    · simp only [upN_other _ _ _ _ e] at hp ⊢; exact h.p4 j k hj hk hp
  c0 := h.c0

/-- A voter promises. -/
theorem Inv.promise {n : Nat} {s : GS} {g : Gh} (h : Inv n s g) (q k : Nat) (hq : q < 3) (hk : k < n) (ha : (s.ps q).asks = false) (hb : 0 < (s.ps q).ballot) (hp : (s.ep k).pr < (s.ps q).ballot) (best : Int) (value : List Int)
    (hbv : (best, value) = if (s.ps q).best < (s.ep k).ba then ((s.ep k).ba, (s.ep k).val) else ((s.ps q).best, (s.ps q).value)) :
    Inv n { s with ep := upN s.ep k ⟨(s.ps q).ballot, (s.ep k).ba, (s.ep k).val⟩, ps := upN s.ps q { s.ps q with prom := upN (s.ps q).prom k true, best := best, value := value } } g := by
  have hvk := h.v0 k hk
  have hle : (s.ps q).best ≤ best ∧ (s.ep k).ba ≤ best := by
    split at hbv <;> (injection hbv with e1 e2; omega)
  refine ⟨h.r0, fun i hi => ?_, fun i hi => ?_, fun i B hi => ?_, fun B hB => ?_, fun j hj => ?_, fun j i hj hi hpr => ?_, fun j hj => ?_, fun j hj => ?_, fun j i hj hi hvo => ?_, h.c0⟩
  · by_cases e : i = k
    · subst e; simp only [upN_same]; have := h.p0 q hq; omega
    · simp only [upN_other _ _ _ _ e]; exact h.v0 i hi
  · by_cases e : i = k
    · subst e; simp only [upN_same]; exact h.v1 i hi
    · simp only [upN_other _ _ _ _ e]; exact h.v1 i hi
  · by_cases e : i = k
    · subst e; simp only [upN_same]; exact h.v2 i B hi
    · simp only [upN_other _ _ _ _ e]; exact h.v2 i B hi
  · have A := h.a1 B hB
    refine ⟨A.pos, A.le, A.maj, fun i hi hqs => ?_, A.best⟩
    have := A.prom i hi hqs
    by_cases e : i = k
    · subst e; simp only [upN_same]; exact ⟨by omega, this.2⟩
    · simp only [upN_other _ _ _ _ e]; exact this
  · by_cases e : j = q
    · subst e; simp only [upN_same]; exact h.p0 j hj
    · simp only [upN_other _ _ _ _ e]; exact h.p0 j hj
  · by_cases e : j = q
    · subst e
      simp only [upN_same] at hpr ⊢
      by_cases e2 : i = k
      · subst e2
        simp only [upN_same]
        exact ⟨hb, Int.le_refl _, fun B' _ hacc => by have := (h.v2 i B' hi hacc).1; omega⟩
      · rw [upN_other _ _ _ _ e2] at hpr
        simp only [upN_other _ _ _ _ e2]
        obtain ⟨h1, h2, h3⟩ := h.p1 j i hj hi hpr
        exact ⟨h1, h2, fun B' hB' hacc => by have := h3 B' hB' hacc; omega⟩
    · simp only [upN_other _ _ _ _ e] at hpr ⊢
      obtain ⟨h1, h2, h3⟩ := h.p1 j i hj hi hpr
      by_cases e2 : i = k
      · subst e2; simp only [upN_same]; exact ⟨h1, by omega, h3⟩
      · simp only [upN_other _ _ _ _ e2]; exact ⟨h1, h2, h3⟩
  · by_cases e : j = q
    · subst e
      simp only [upN_same]
      split at hbv
      · rename_i hlt
        injection hbv with e1 e2
        subst e1 e2
        have hpos : 0 < (s.ep k).ba := by
          rcases h.p2 j hj with hz | hz <;> omega
        obtain ⟨a1, a2⟩ := h.v1 k hk hpos
        exact .inr ⟨hpos, by omega, (h.v2 k _ hk a1).2, a2⟩
      · injection hbv with e1 e2
        subst e1 e2
        exact h.p2 j hj
    · simp only [upN_other _ _ _ _ e]; exact h.p2 j hj
  · by_cases e : j = q
    · subst e
      simp only [upN_same]
      exact ⟨fun h' => by rw [ha] at h'; simp at h', (h.p3 j hj).2⟩
    · simp only [upN_other _ _ _ _ e]; exact h.p3 j hj
  · by_cases e : j = q
    · subst e; simp only [upN_same] at hvo ⊢; exact h.p4 j i hj hi hvo
    · simp only [upN_other _ _ _ _ e] at hvo ⊢; exact h.p4 j i hj hi hvo

theorem Inv.apart {n : Nat} {s : GS} {g : Gh} (h : Inv n s g) {q j : Nat} (hq : q < 3) (hj : j < 3) (hne : j ≠ q) (hb : 0 < (s.ps q).ballot) : (s.ps j).ballot ≠ (s.ps q).ballot := by
  rcases h.p0 q hq with h1 | h1 <;> rcases h.p0 j hj with h2 | h2 <;> omega

/-- A proposer that a majority has promised begins to ask for votes. -/
theorem Inv.ask {n : Nat} {s : GS} {g : Gh} (h : Inv n s g) (q : Nat) (hq : q < 3) (ha : (s.ps q).asks = false) (hm : n < 2 * cnt n (s.ps q).prom) : ∃ g', Inv n { s with ps := upN s.ps q { s.ps q with asks := true } } g' := by
  obtain ⟨k0, hk0, hp0, _⟩ := meet hm hm
  have hb := (h.p1 q k0 hq hk0 hp0).1
  have hno := (h.p3 q hq).2 ha
  have hle : (s.ps q).ballot ≤ 3 * s.round + 2 := by rcases h.p0 q hq with e | e <;> omega
  let B0 := (s.ps q).ballot
  have hB : ∀ B, g.asked B = true → B ≠ B0 := fun B hB e => by rw [e] at hB; exact absurd (hB.symm.trans hno) (by simp)
  refine ⟨⟨fun B => if B = B0 then (s.ps q).value else g.prop B, g.acc, fun B => if B = B0 then (s.ps q).best else g.bst B, fun B => if B = B0 then (s.ps q).prom else g.qs B, fun B => decide (B = B0) || g.asked B⟩, ?_⟩
  refine ⟨h.r0, h.v0, fun i hi hpos => ?_, fun i B hi hacc => ?_, fun B hA => ?_, fun j hj => ?_, fun j k hj hk hp => ?_, fun j hj => ?_, fun j hj => ?_, fun j k hj hk hv => ?_, fun hc => ?_⟩
  · obtain ⟨h1, h2⟩ := h.v1 i hi hpos
    have := hB _ (h.v2 i _ hi h1).2
    exact ⟨h1, by simp only [if_neg this]; exact h2⟩
  · obtain ⟨h1, h2⟩ := h.v2 i B hi hacc
    exact ⟨h1, by simp [h2]⟩
  · by_cases e : B = B0
    · subst e
      refine ⟨hb, hle, by simpa using hm, fun k hk hqs => ?_, ?_⟩
      · simp only [if_true] at hqs ⊢
        obtain ⟨_, h2, h3⟩ := h.p1 q k hq hk hqs
        exact ⟨h2, h3⟩
      · simp only [if_true]
        rcases h.p2 q hq with hz | ⟨z1, z2, z3, z4⟩
        · exact .inl hz
        · have := hB _ z3
          exact .inr ⟨z1, z2, by simp [z3], by simp only [if_neg this]; exact z4⟩
    · simp only [e, decide_false, Bool.false_or] at hA
      have A := h.a1 B hA
      refine ⟨A.pos, A.le, by simp only [if_neg e]; exact A.maj, by simp only [if_neg e]; exact A.prom, ?_⟩
      simp only [if_neg e]
      rcases A.best with hz | ⟨z1, z2, z3, z4⟩
      · exact .inl hz
      · have := hB _ z3
        exact .inr ⟨z1, z2, by simp [z3], by simp only [if_neg this]; exact z4⟩
  · by_cases e : j = q
    · subst e; simp only [upN_same]; exact h.p0 j hj
    · simp only [upN_other _ _ _ _ e]; exact h.p0 j hj
  · by_cases e : j = q
    · subst e; simp only [upN_same] at hp ⊢; exact h.p1 j k hj hk hp
    · simp only [upN_other _ _ _ _ e] at hp ⊢; exact h.p1 j k hj hk hp
  · have key : ∀ x : PS, (x.best = 0 ∨ (0 < x.best ∧ x.best < x.ballot ∧ g.asked x.best = true ∧ x.value = g.prop x.best)) → (x.best = 0 ∨ (0 < x.best ∧ x.best < x.ballot ∧ (decide (x.best = B0) || g.asked x.best) = true ∧ x.value = if x.best = B0 then (s.ps q).value else g.prop x.best)) := fun x hx => by
      rcases hx with hz | ⟨z1, z2, z3, z4⟩
      · exact .inl hz
      · have := hB _ z3
        exact .inr ⟨z1, z2, by simp [z3], by simp only [if_neg this]; exact z4⟩
    by_cases e : j = q
    · subst e; simp only [upN_same]; exact key _ (h.p2 j hj)
    · simp only [upN_other _ _ _ _ e]; exact key _ (h.p2 j hj)
  · by_cases e : j = q
    · subst e
      simp only [upN_same]
      refine ⟨fun _ => ⟨?_, ?_⟩, fun h' => by simp at h'⟩
      · simp [B0]
      · simp [B0]
    · simp only [upN_other _ _ _ _ e]
      have hne := h.apart hq hj e hb
      obtain ⟨p1, p2⟩ := h.p3 j hj
      refine ⟨fun ht => ?_, fun hf => ?_⟩
      · obtain ⟨a1, a2⟩ := p1 ht
        exact ⟨by simp [a1], by simp only [B0, if_neg hne]; exact a2⟩
      · simp [B0, hne, p2 hf]
  · by_cases e : j = q
    · subst e; simp only [upN_same] at hv ⊢; exact h.p4 j k hj hk hv
    · simp only [upN_other _ _ _ _ e] at hv ⊢; exact h.p4 j k hj hk hv
  · obtain ⟨B, h1, h2, h3⟩ := h.c0 hc
    have := hB _ h1
    exact ⟨B, by simp [h1], h2, by simp only [if_neg this]; exact h3⟩

/-- A voter votes. -/
theorem Inv.vote {n : Nat} {s : GS} {g : Gh} (h : Inv n s g) (q k : Nat) (hq : q < 3) (hk : k < n) (ha : (s.ps q).asks = true) (hp : (s.ep k).pr ≤ (s.ps q).ballot) :
    ∃ g', Inv n { s with ep := upN s.ep k ⟨(s.ps q).ballot, (s.ps q).ballot, (s.ps q).value⟩, ps := upN s.ps q { s.ps q with vot := upN (s.ps q).vot k true } } g' := by
  obtain ⟨hA, hV⟩ := (h.p3 q hq).1 ha
  have A := h.a1 _ hA
  have hvk := h.v0 k hk
  let B0 := (s.ps q).ballot
  have old : ∀ {i : Nat} {B : Int}, (decide (i = k ∧ B = B0) || g.acc i B) = true → (i = k ∧ B = B0) ∨ g.acc i B = true := fun {i B} hx => by simpa using hx
  refine ⟨⟨g.prop, fun i B => decide (i = k ∧ B = B0) || g.acc i B, g.bst, g.qs, g.asked⟩, ?_⟩
  refine ⟨h.r0, fun i hi => ?_, fun i hi hpos => ?_, fun i B hi hacc => ?_, fun B hB => ?_, fun j hj => ?_, fun j i hj hi hpr => ?_, fun j hj => ?_, fun j hj => ?_, fun j i hj hi hvo => ?_, fun hc => ?_⟩
  · by_cases e : i = k
    · subst e; simp only [upN_same]; have := A.le; have := A.pos; omega
    · simp only [upN_other _ _ _ _ e]; exact h.v0 i hi
  · by_cases e : i = k
    · subst e; simp only [upN_same]; exact ⟨by simp [B0], hV⟩
    · simp only [upN_other _ _ _ _ e] at hpos ⊢
      obtain ⟨h1, h2⟩ := h.v1 i hi hpos
      exact ⟨by simp [h1], h2⟩
  · rcases old hacc with ⟨rfl, rfl⟩ | hacc
    · simp only [upN_same]; exact ⟨Int.le_refl _, hA⟩
    · obtain ⟨h1, h2⟩ := h.v2 i B hi hacc
      by_cases e : i = k
      · subst e; simp only [upN_same]; exact ⟨by omega, h2⟩
      · simp only [upN_other _ _ _ _ e]; exact ⟨h1, h2⟩
  · have AB := h.a1 B hB
    refine ⟨AB.pos, AB.le, AB.maj, fun i hi hqs => ?_, AB.best⟩
    obtain ⟨h1, h2⟩ := AB.prom i hi hqs
    by_cases e : i = k
    · subst e
      simp only [upN_same]
      refine ⟨by omega, fun B' hB' hacc => ?_⟩
      have hx : B' = B0 ∨ g.acc i B' = true := by simpa using hacc
      rcases hx with hx | hacc
      · omega
      · exact h2 B' hB' hacc
    · simp only [upN_other _ _ _ _ e]
      refine ⟨h1, fun B' hB' hacc => ?_⟩
      rcases old hacc with ⟨rfl, _⟩ | hacc
      · exact absurd rfl e
      · exact h2 B' hB' hacc
  · by_cases e : j = q
    · subst e; simp only [upN_same]; exact h.p0 j hj
    · simp only [upN_other _ _ _ _ e]; exact h.p0 j hj
  · have key : ∀ x : PS, (0 < x.ballot ∧ x.ballot ≤ (s.ep i).pr ∧ ∀ B', B' < x.ballot → g.acc i B' = true → B' ≤ x.best) → (0 < x.ballot ∧ x.ballot ≤ (upN s.ep k ⟨(s.ps q).ballot, (s.ps q).ballot, (s.ps q).value⟩ i).pr ∧ ∀ B', B' < x.ballot → (decide (i = k ∧ B' = B0) || g.acc i B') = true → B' ≤ x.best) := fun x ⟨h1, h2, h3⟩ => by
      by_cases e : i = k
      · subst e
        simp only [upN_same]
        refine ⟨h1, by omega, fun B' hB' hacc => ?_⟩
        have hx : B' = B0 ∨ g.acc i B' = true := by simpa using hacc
        rcases hx with hx | hacc
        · omega
        · exact h3 B' hB' hacc
      · rw [upN_other _ _ _ _ e]
        refine ⟨h1, h2, fun B' hB' hacc => ?_⟩
        rcases old hacc with ⟨rfl, _⟩ | hacc
        · exact absurd rfl e
        · exact h3 B' hB' hacc
    by_cases e : j = q
    · subst e; simp only [upN_same] at hpr ⊢; exact key _ (h.p1 j i hj hi hpr)
    · simp only [upN_other _ _ _ _ e] at hpr ⊢; exact key _ (h.p1 j i hj hi hpr)
  · by_cases e : j = q
    · subst e; simp only [upN_same]; exact h.p2 j hj
    · simp only [upN_other _ _ _ _ e]; exact h.p2 j hj
  · by_cases e : j = q
    · subst e; simp only [upN_same]; exact h.p3 j hj
    · simp only [upN_other _ _ _ _ e]; exact h.p3 j hj
  · by_cases e : j = q
    · subst e
      simp only [upN_same] at hvo ⊢
      by_cases e2 : i = k
      · subst e2; simp [B0]
      · rw [upN_other _ _ _ _ e2] at hvo
        simp [h.p4 j i hj hi hvo]
    · simp only [upN_other _ _ _ _ e] at hvo ⊢
      simp [h.p4 j i hj hi hvo]
  · obtain ⟨B, h1, h2, h3⟩ := h.c0 hc
    exact ⟨B, h1, Nat.lt_of_lt_of_le h2 (Nat.mul_le_mul_left 2 (cnt_mono fun i _ hi => by simp [hi])), h3⟩

theorem Inv.majority {n : Nat} {s : GS} {g : Gh} (h : Inv n s g) {q : Nat} (hq : q < 3) (hm : n < 2 * cnt n (s.ps q).vot) : n < 2 * cnt n (fun k => g.acc k (s.ps q).ballot) :=
  Nat.lt_of_lt_of_le hm (Nat.mul_le_mul_left 2 (cnt_mono fun i hi hv => h.p4 q i hq hi hv))
/-- What a majority has voted for is chosen. -/
theorem Inv.choose {n : Nat} {s : GS} {g : Gh} (h : Inv n s g) (q : Nat) (hq : q < 3) (ha : (s.ps q).asks = true) (hm : n < 2 * cnt n (s.ps q).vot) : Inv n { s with chosen := (s.ps q).value } g :=
  ⟨h.r0, h.v0, h.v1, h.v2, fun B hB => by have A := h.a1 B hB; exact ⟨A.pos, A.le, A.maj, A.prom, A.best⟩, h.p0, h.p1, h.p2, h.p3, h.p4, fun _ => by
    obtain ⟨h1, h2⟩ := (h.p3 q hq).1 ha
    exact ⟨_, h1, h.majority hq hm, h2.symm⟩⟩
theorem Inv.agree {n : Nat} {s : GS} {g : Gh} (h : Inv n s g) (q : Nat) (hq : q < 3) (ha : (s.ps q).asks = true) (hm : n < 2 * cnt n (s.ps q).vot) (hc : s.chosen ≠ []) : s.chosen = (s.ps q).value := by
  obtain ⟨B, h1, h2, h3⟩ := h.c0 hc
  obtain ⟨a1, a2⟩ := (h.p3 q hq).1 ha
  rw [← h3, a2]
  exact h.one h1 a1 h2 (h.majority hq hm)
/-- Whoever asks all voters is told what was chosen. -/
theorem Inv.last {n : Nat} {s : GS} {g : Gh} (h : Inv n s g) (hc : s.chosen ≠ []) (i : Nat) (hi : i < n) (hmax : ∀ j, j < n → (s.ep j).ba ≤ (s.ep i).ba) : 0 < (s.ep i).ba ∧ (s.ep i).val = s.chosen := by
  obtain ⟨B, h1, h2, h3⟩ := h.c0 hc
  obtain ⟨k, hk, hacc, _⟩ := meet h2 h2
  have hB := (h.v2 k B hk hacc).1
  have hpos := (h.a1 B h1).pos
  have hm := hmax k hk
  have hb : 0 < (s.ep i).ba := by omega
  obtain ⟨v1, v2⟩ := h.v1 i hi hb
  refine ⟨hb, ?_⟩
  rw [v2, ← h3]
  exact h.safe h2 _ _ (Nat.le_refl _) (h.v2 i _ hi v1).2 (by omega)
end Go.Proofs.Ytbghhbpacijmmaa
