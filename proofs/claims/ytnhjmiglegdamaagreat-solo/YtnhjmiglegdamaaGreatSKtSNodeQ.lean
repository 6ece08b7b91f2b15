-- A unit at the level of its own package, whose blocks bear a mark.
-- Nodes that are units.
import Derived.Test.YtnhjmiglegdamaaGreatOpenOpensQ
namespace Go.Proofs.YtnhjmiglegdamaaGreat
open Go.RowKit Go.Maps

def Byt (ys : List Int) : Prop := ∀ d ∈ ys, 0 ≤ d ∧ d ≤ 255
def cel (a b c d x : Int) : Nat := (loc a b c d x).2.1.toNat
def tagV (tag : Nat → Nat) (N i : Nat) (v : Value) : Nat → Nat := fun b => if b < N then tag b else if v.ownBlock = some b then 1 else i
theorem tagV_old (tag : Nat → Nat) (N i : Nat) (v : Value) (b : Nat) (h : b < N) : tagV tag N i v b = tag b := by simp [tagV, h]
theorem tagV_own (tag : Nat → Nat) (N i : Nat) (v : Value) (b : Nat) (h : N ≤ b) (hb : v.ownBlock = some b) : tagV tag N i v b = 1 := by unfold tagV; rw [if_neg (by omega), if_pos hb]
theorem tagV_new (tag : Nat → Nat) (N i : Nat) (v : Value) (b : Nat) (h : N ≤ b) (hb : v.ownBlock ≠ some b) : tagV tag N i v b = i := by unfold tagV; rw [if_neg (by omega), if_neg hb]
def tagTo (tag : Nat → Nat) (N i : Nat) : Nat → Nat := fun b => if b < N then tag b else i
theorem tagTo_old (tag : Nat → Nat) (N i b : Nat) (h : b < N) : tagTo tag N i b = tag b := by simp [tagTo, h]
theorem tagTo_new (tag : Nat → Nat) (N i b : Nat) (h : N ≤ b) : tagTo tag N i b = i := by unfold tagTo; rw [if_neg (by omega)]
theorem tagV_nil (tag : Nat → Nat) (N i : Nat) : tagV tag N i (.slice none 0 0) = tagTo tag N i := by
  funext b
  unfold tagV tagTo
  simp [Value.ownBlock]

theorem Ks.ne {base : Nat} {w : World} {p : Nat} {a b c d ch ep mk : Int} {ct : Nat → Ct} {img : List Int} {K : Nat → Value} (h : Ks base w p a b c d ch ep mk ct img K) {g : Nat} (hg : w.heap.size ≤ g) : ¬ (g = p ∨ (K 71).ownBlock = some g) := by
  have := h.at'.lt
  rintro (e | e)
  · omega
  · have := (h.own.lt _ e).2; omega

theorem owned_slice {w : World} {B n : Nat} {v : Value} {xs : List Value} (h : w.ownsRow B 5 1 v n xs) : ∃ a c, v = .slice a n c := by
  obtain ⟨a', c', e'⟩ := (ownsRow_sl h).len
  rw [ownsRow_len h] at e'
  exact ⟨a', c', e'⟩

abbrev nilS : Value := .slice none 0 0


theorem Ks.away {S : Nat → Prop} {base : Nat} {w w' : World} {p : Nat} {a b c d ch ep mk : Int} {ct : Nat → Ct} {img : List Int} {K : Nat → Value} (h : Ks base w p a b c d ch ep mk ct img K) (ho : Only S w w') (h1 : ¬ S p) (h2 : ∀ g, g < w.heap.size → KF K g → ¬ S g) : Ks base w' p a b c d ch ep mk ct img K :=
  ⟨h.at'.only ho h1, h.k0, h.k1, h.k2, h.k3, h.k4, h.k5, h.k6, ho.owns h.own fun g e => h2 g (h.own.lt g e).2 (.inl e), h.kd, h.cl, h.ca, fun i hi => ho.owns (h.val i hi) fun g e => h2 g ((h.val i hi).lt g e).2 (.inr ⟨i, hi, e⟩), h.apart⟩
theorem Ks.zero {base : Nat} {w : World} {p : Nat} {a b c d ch ep mk : Int} {ct : Nat → Ct} {img : List Int} {K : Nat → Value} (h : Ks base w p a b c d ch ep mk ct img K) : Ks 0 w p a b c d ch ep mk ct img K :=
  ⟨h.at', h.k0, h.k1, h.k2, h.k3, h.k4, h.k5, h.k6, ownsRow_base h.own fun _ _ => Nat.zero_le _, h.kd, h.cl, h.ca, fun i hi => ownsRow_base (h.val i hi) fun _ _ => Nat.zero_le _, h.apart⟩

/-- The unit in block p, whose blocks bear the mark tg, has the records rs, with the states S. -/
def Kt (w : World) (tag : Nat → Nat) (tg p : Nat) (a b c d ch : Int) (rs : List Rc) (S : Nat → St) : Prop :=
  ∃ K, Ks 0 w p a b c d ch (S rs.length).ep (S rs.length).mark (S rs.length).ct (flat rs) K ∧ Way a b c d ch rs S ∧ tag p = tg ∧ ∀ g, KF K g → tag g = tg
section
variable {w w' : World} {tag tag' : Nat → Nat} {tg p : Nat} {a b c d ch : Int} {rs : List Rc} {S : Nat → St}
theorem Kt.lt (h : Kt w tag tg p a b c d ch rs S) : p < w.heap.size ∧ tag p = tg := by
  obtain ⟨K, hk, _, hp, _⟩ := h
  exact ⟨hk.at'.lt, hp⟩
theorem Kt.way (h : Kt w tag tg p a b c d ch rs S) : Way a b c d ch rs S := by
  obtain ⟨K, _, hw, _⟩ := h
  exact hw
theorem Kt.only {T : Nat → Prop} (h : Kt w tag tg p a b c d ch rs S) (ho : Only T w w') (hs : ∀ b, b < w.heap.size → T b → tag b ≠ tg) (ht : ∀ b, b < w.heap.size → tag' b = tag b) : Kt w' tag' tg p a b c d ch rs S := by
  obtain ⟨K, hk, hw, hp, hg⟩ := h
  exact ⟨K, hk.away ho (fun e => hs p hk.at'.lt e hp) (fun g hl hF e => hs g hl e (hg g hF)), hw, by rw [ht p hk.at'.lt, hp], fun g hF => by rw [ht g (hk.foot hF).2, hg g hF]⟩
theorem Kt.bl (h : Kt w tag tg p a b c d ch rs S) (hb : Bl w w') : Kt w' tag tg p a b c d ch rs S := h.only (Only.of_bl (S := fun _ => False) hb) (fun _ _ e => e.elim) (fun _ _ => rfl)
/-- The states, with one more. -/
def upK (S : Nat → St) (n : Nat) (s : St) : Nat → St := fun j => if j = n + 1 then s else S j
theorem upK_last (S : Nat → St) (rs : List Rc) (r : Rc) (s : St) : upK S rs.length s (rs ++ [r]).length = s := by simp [upK]
theorem upK_old (S : Nat → St) (n k : Nat) (s : St) (h : k ≤ n) : upK S n s k = S k := by unfold upK; rw [if_neg (by omega)]
theorem Way.snoc (h : Way a b c d ch rs S) {r : Rc} {s : St} (hp : Plays a b c d ch (S rs.length) r s) (ho : r.Ok shs) : Way a b c d ch (rs ++ [r]) (upK S rs.length s) where
  zero := by rw [upK_old _ _ _ _ (Nat.zero_le _)]; exact h.zero
  step := fun j hj => by
    rw [List.length_append, List.length_singleton] at hj
    by_cases e : j < rs.length
    · rw [upK_old _ _ _ _ (by omega), upK_old _ _ _ _ (by omega), List.getElem_append_left e]
      exact h.step j e
    · obtain rfl : j = rs.length := by omega
      rw [upK_old _ _ _ _ (Nat.le_refl _)]
      unfold upK
      rw [if_pos rfl]
      simpa using hp
  ok := fun x hx => by
    rcases List.mem_append.1 hx with hx | hx
    · exact h.ok x hx
    · simp at hx; subst hx; exact ho
/-- A call leaves a record. -/
theorem Kt.step {K K' : Nat → Value} {r : Rc} {s : St} (hk : Ks 0 w p a b c d ch (S rs.length).ep (S rs.length).mark (S rs.length).ct (flat rs) K) (hw : Way a b c d ch rs S) (hp : tag p = tg) (hg : ∀ g, KF K g → tag g = tg)
    (hpl : Plays a b c d ch (S rs.length) r s) (ho : r.Ok shs) (hk' : Ks 0 w' p a b c d ch s.ep s.mark s.ct (flat rs ++ r.bytes) K') (hG : Gk p K K' w w') :
    (∀ v : Value, (∀ g, v.ownBlock = some g → ¬ KF K' g) → Kt w' (tagV tag w.heap.size tg v) tg p a b c d ch (rs ++ [r]) (upK S rs.length s)) ∧ Only (fun b => tag b = tg) w w' := by
  have O : Only (fun b => tag b = tg) w w' := hG.only.mono fun b _ e => by
    rcases e with rfl | e
    · exact hp
    · exact hg b (.inl e)
  refine ⟨fun v hd => ⟨K', ?_, hw.snoc hpl ho, by rw [tagV_old _ _ _ _ _ hk.at'.lt, hp], fun g hF => ?_⟩, O⟩
  · rw [upK_last, flat_append]
    simpa [flat] using hk'
  · rcases hG.lies g hF with h1 | h1
    · rw [tagV_old _ _ _ _ _ (hk.foot h1).2, hg g h1]
    · exact tagV_new _ _ _ _ _ h1 fun e => hd g e hF

theorem kok_seal (e : Int) (he : (Lit.int .i64 e).wf = true) : Rc.Ok shs ⟨1, [e], []⟩ :=
  ⟨by simp, by simp, by simp, by simp, by simp, by simp; exact he, by simp, (1, 1, 0), by decide, rfl, rfl, by simp⟩
theorem kok_trim (e m : Int) (he : (Lit.int .i64 e).wf = true) (hm : (Lit.int .i64 m).wf = true) : Rc.Ok shs ⟨2, [e, m], []⟩ :=
  ⟨by simp, by simp, by simp, by simp, by simp, by simp; exact ⟨he, hm⟩, by simp, (2, 2, 0), by decide, rfl, rfl, by simp⟩
theorem kok_write (e x kd cl ca : Int) (ys : List Int) (he : (Lit.int .i64 e).wf = true) (hx : (Lit.int .i64 x).wf = true) (hk : (Lit.int .i64 kd).wf = true) (hc : (Lit.int .i64 cl).wf = true) (ha : (Lit.int .i64 ca).wf = true) (hy : ys.length ≤ 8) (hys : ∀ d ∈ ys, 0 ≤ d ∧ d ≤ 255) : Rc.Ok shs ⟨3, [e, x, kd, cl, ca], ys⟩ :=
  ⟨by simp, by simp, by simp, by simp, by simp; omega, by simp; exact ⟨he, hx, hk, hc, ha⟩, hys, (3, 5, 8), by decide, rfl, rfl, by simp; omega⟩
theorem kt_image (h : Kt w tag tg p a b c d ch rs S) (hl : (flat rs).length ≤ 30000000) :
    Calls Tryz.prog 167 #[.pointer (some ⟨p, 0, none⟩)] w fun en w' => ∃ v, en = .returned v ∧ Bl w w' ∧ w'.ownsRow w.heap.size 5 1 v (flat rs).length ((flat rs).map B8) := by
  obtain ⟨K, hk, _⟩ := h
  exact image_any 0 p a b c d ch _ _ _ (flat rs) K w hk hl
/-- It is opened from the beginning of an image: as behind the last record of which all is there. -/
theorem kt_open (hw : Way a b c d ch rs S) (u : Int) (hch : cha a b c d u = (ch, 0)) (ad : Option Addr) (n cc : Nat) (hl : (flat rs).length ≤ 30000000) (hc : Cut w ad n cc rs) (tag : Nat → Nat) (tg : Nat) :
    Calls Tryz.prog 145 #[.agg #[.int .i64 a, .int .i64 b, .int .i64 c, .int .i64 d], .int .i64 u, .slice ad n cc] w fun en w' => ∃ k p, en = .returned (.tuple #[.pointer (some ⟨p, 0, none⟩), .int .i64 0]) ∧ k ≤ rs.length ∧ off rs k ≤ n ∧ (∀ h : k < rs.length, n < off rs k + rs[k].bytes.length) ∧ w.heap.size ≤ p ∧ Bl w w' ∧ Kt w' (tagTo tag w.heap.size tg) tg p a b c d ch (rs.take k) S := by
  refine (open_any a b c d u ch ad n cc rs S w hch hw hl hc).mono ?_
  rintro en w' ⟨k, p, K, rfl, h1, h2, h3, h4, h5, _, h7⟩
  have hk : (rs.take k).length = k := by rw [List.length_take]; omega
  have hw' : Way a b c d ch (rs.take k) S := ⟨hw.zero, fun j hj => by
    rw [hk] at hj
    have := hw.step j (by omega)
    simpa [List.getElem_take] using this, fun r hr => hw.ok r (List.mem_of_mem_take hr)⟩
  refine ⟨k, p, rfl, h1, h2, h3, h4, h7, K, ?_, hw', tagTo_new _ _ _ _ h4, fun g hF => tagTo_new _ _ _ _ (h5.foot hF).1⟩
  rw [hk]
  exact h5.zero
end

/-- The records go on by one at most. -/
def MoreK (rs : List Rc) (S : Nat → St) (rs' : List Rc) (S' : Nat → St) : Prop :=
  (rs' = rs ∧ S' = S) ∨ ∃ r s, rs' = rs ++ [r] ∧ S' = upK S rs.length s
section
variable {w w' : World} {tag tag' : Nat → Nat} {tg p : Nat} {a b c d ch : Int} {rs : List Rc} {S : Nat → St}
/-- A call leaves no record. -/
theorem Kt.same {K K' : Nat → Value} (hk : Ks 0 w p a b c d ch (S rs.length).ep (S rs.length).mark (S rs.length).ct (flat rs) K) (hw : Way a b c d ch rs S) (hp : tag p = tg) (hg : ∀ g, KF K g → tag g = tg)
    (hk' : Ks 0 w' p a b c d ch (S rs.length).ep (S rs.length).mark (S rs.length).ct (flat rs) K') (hG : Gk p K K' w w') :
    (∀ v : Value, (∀ g, v.ownBlock = some g → ¬ KF K' g) → Kt w' (tagV tag w.heap.size tg v) tg p a b c d ch rs S) ∧ Only (fun b => tag b = tg) w w' := by
  have O : Only (fun b => tag b = tg) w w' := hG.only.mono fun b _ e => by
    rcases e with rfl | e
    · exact hp
    · exact hg b (.inl e)
  refine ⟨fun v hd => ⟨K', hk', hw, by rw [tagV_old _ _ _ _ _ hk.at'.lt, hp], fun g hF => ?_⟩, O⟩
  rcases hG.lies g hF with h1 | h1
  · rw [tagV_old _ _ _ _ _ (hk.foot h1).2, hg g h1]
  · exact tagV_new _ _ _ _ _ h1 fun e => hd g e hF
theorem nilS_own (K' : Nat → Value) : ∀ g, (Value.slice none 0 0).ownBlock = some g → ¬ KF K' g := fun g e => by simp [Value.ownBlock] at e
/-- A call that reaches an epoch, and does nothing else. -/
theorem Kt.reach {K K' : Nat → Value} {e : Int} (hk : Ks 0 w p a b c d ch (S rs.length).ep (S rs.length).mark (S rs.length).ct (flat rs) K) (hw : Way a b c d ch rs S) (hp : tag p = tg) (hg : ∀ g, KF K g → tag g = tg) (hwf : (Lit.int .i64 e).wf = true) (he : ¬ e < (S rs.length).ep)
    (hk' : Ks 0 w' p a b c d ch e (S rs.length).mark (S rs.length).ct (flat rs ++ if e = (S rs.length).ep then [] else recB 1 [e] []) K') (hG : Gk p K K' w w') :
    ∃ rs' S', MoreK rs S rs' S' ∧ S' rs'.length = ⟨e, (S rs.length).mark, (S rs.length).ct⟩ ∧ (flat rs').length ≤ (flat rs).length + 24 ∧ (∀ v : Value, (∀ g, v.ownBlock = some g → ¬ KF K' g) → Kt w' (tagV tag w.heap.size tg v) tg p a b c d ch rs' S') ∧ Only (fun b => tag b = tg) w w' := by
  by_cases hq : e = (S rs.length).ep
  · rw [if_pos hq, List.append_nil, hq] at hk'
    obtain ⟨r1, r2⟩ := Kt.same hk hw hp hg hk' hG
    exact ⟨rs, S, .inl ⟨rfl, rfl⟩, by rw [hq], by omega, r1, r2⟩
  · rw [if_neg hq] at hk'
    obtain ⟨r1, r2⟩ := Kt.step (s := ⟨e, (S rs.length).mark, (S rs.length).ct⟩) hk hw hp hg (Plays.sealed (S rs.length) e (by omega)) (kok_seal e hwf) hk' hG
    refine ⟨_, _, .inr ⟨_, _, rfl, rfl⟩, upK_last _ _ _ _, ?_, r1, r2⟩
    rw [flat_append, List.length_append]
    simp [flat, Rc.bytes, recB_len]

theorem kp_seal (h : Kt w tag tg p a b c d ch rs S) (e : Int) (hwf : (Lit.int .i64 e).wf = true) (hl : (flat rs).length ≤ 30000000) :
    Calls Tryz.prog 176 #[.pointer (some ⟨p, 0, none⟩), .int .i64 e] w fun en w' => ∃ rs' S', en = .returned (if e < (S rs.length).ep then reply 5 (S rs.length).ep 0 0 0 0 nilS else reply 1 e 0 0 0 0 nilS) ∧ MoreK rs S rs' S' ∧ S' rs'.length = (if e < (S rs.length).ep then S rs.length else ⟨e, (S rs.length).mark, (S rs.length).ct⟩) ∧ (flat rs').length ≤ (flat rs).length + 24 ∧ Kt w' (tagTo tag w.heap.size tg) tg p a b c d ch rs' S' ∧ Only (fun b => tag b = tg) w w' := by
  obtain ⟨K, hk, hw, hp, hg⟩ := h
  refine (seal_any 0 p a b c d ch _ _ _ (flat rs) K e w hk (Nat.zero_le _) hl).mono ?_
  rintro en w' ⟨K', rfl, hk', hG⟩
  by_cases he : e < (S rs.length).ep
  · rw [if_pos he, if_pos (.inl he)] at hk'
    obtain ⟨r1, r2⟩ := Kt.same hk hw hp hg hk' hG
    refine ⟨rs, S, rfl, .inl ⟨rfl, rfl⟩, by rw [if_pos he], by omega, ?_, r2⟩
    rw [← tagV_nil]
    exact r1 _ (nilS_own K')
  · rw [if_neg he] at hk'
    have hk2 : Ks 0 w' p a b c d ch e (S rs.length).mark (S rs.length).ct (flat rs ++ if e = (S rs.length).ep then [] else recB 1 [e] []) K' := by
      by_cases hq : e = (S rs.length).ep
      · rw [if_pos (.inr hq)] at hk'
        rw [if_pos hq, List.append_nil]; exact hk'
      · rw [if_neg (by rintro (h | h); exact he h; exact hq h)] at hk'
        rw [if_neg hq]; exact hk'
    obtain ⟨rs', S', r0, r1, r2, r3, r4⟩ := Kt.reach hk hw hp hg hwf he hk2 hG
    refine ⟨rs', S', rfl, r0, by rw [if_neg he]; exact r1, r2, ?_, r4⟩
    rw [← tagV_nil]
    exact r3 _ (nilS_own K')

theorem kp_trim (h : Kt w tag tg p a b c d ch rs S) (e m : Int) (hwf : (Lit.int .i64 e).wf = true) (hmf : (Lit.int .i64 m).wf = true) (hl : (flat rs).length ≤ 30000000) :
    Calls Tryz.prog 175 #[.pointer (some ⟨p, 0, none⟩), .int .i64 e, .int .i64 m] w fun en w' => ∃ rs' S', en = .returned (if e < (S rs.length).ep then reply 5 (S rs.length).ep 0 0 0 0 nilS else reply 1 0 (if (S rs.length).mark < m then m else (S rs.length).mark) 0 0 0 nilS) ∧ MoreK rs S rs' S' ∧ S' rs'.length = (if e < (S rs.length).ep then S rs.length else ⟨e, if (S rs.length).mark < m then m else (S rs.length).mark, (S rs.length).ct⟩) ∧ (flat rs').length ≤ (flat rs).length + 24 ∧ Kt w' (tagTo tag w.heap.size tg) tg p a b c d ch rs' S' ∧ Only (fun b => tag b = tg) w w' := by
  have hh := h
  obtain ⟨K, hk, hw, hp, hg⟩ := h
  by_cases he : e < (S rs.length).ep
  · refine (trimOld_any 0 p a b c d ch _ _ _ (flat rs) K e m w hk he).mono ?_
    rintro en w' ⟨rfl, _, hb⟩
    refine ⟨rs, S, by rw [if_pos he], .inl ⟨rfl, rfl⟩, by rw [if_pos he], by omega, ?_, Only.of_bl hb⟩
    exact hh.only (Only.of_bl (S := fun _ => False) hb) (fun _ _ e => e.elim) (fun b hb => tagTo_old _ _ _ _ hb)
  · refine (trimNew_any 0 p a b c d ch _ _ _ (flat rs) K e m w hk (Nat.zero_le _) hl he).mono ?_
    rintro en w' ⟨K', rfl, hk', hG⟩
    by_cases hm : (S rs.length).mark < m
    · rw [if_pos hm, if_pos hm] at hk'
      obtain ⟨r1, r2⟩ := Kt.step (s := ⟨e, m, (S rs.length).ct⟩) hk hw hp hg (Plays.trim (S rs.length) e m he hm) (kok_trim e m hwf hmf) hk' hG
      refine ⟨rs ++ [⟨2, [e, m], []⟩], _, by rw [if_neg he], .inr ⟨_, _, rfl, rfl⟩, by rw [if_neg he, if_pos hm]; exact upK_last _ _ _ _, ?_, ?_, r2⟩
      · rw [flat_append, List.length_append]
        simp [flat, Rc.bytes, recB_len]
      · rw [← tagV_nil]
        exact r1 _ (nilS_own K')
    · rw [if_neg hm, if_neg hm] at hk'
      obtain ⟨rs', S', r0, r1, r2, r3, r4⟩ := Kt.reach hk hw hp hg hwf he hk' hG
      refine ⟨rs', S', by rw [if_neg he], r0, by rw [if_neg he, if_neg hm]; exact r1, r2, ?_, r4⟩
      rw [← tagV_nil]
      exact r3 _ (nilS_own K')

theorem kp_read (h : Kt w tag tg p a b c d ch rs S) (e x : Int) (hwf : (Lit.int .i64 e).wf = true) (hl : (flat rs).length ≤ 30000000) (he : ¬ e < (S rs.length).ep) :
    Calls Tryz.prog 169 #[.pointer (some ⟨p, 0, none⟩), .int .i64 e, .int .i64 x] w fun en w' => ∃ v rs' S', en = .returned (reply (lookC a b c d ch (S rs.length).mark (S rs.length).ct x).1 0 (lookC a b c d ch (S rs.length).mark (S rs.length).ct x).2.1 (lookC a b c d ch (S rs.length).mark (S rs.length).ct x).2.2.kd (lookC a b c d ch (S rs.length).mark (S rs.length).ct x).2.2.cl (lookC a b c d ch (S rs.length).mark (S rs.length).ct x).2.2.ca v) ∧
      w'.ownsRow w.heap.size 5 1 v (lookC a b c d ch (S rs.length).mark (S rs.length).ct x).2.2.val.length ((lookC a b c d ch (S rs.length).mark (S rs.length).ct x).2.2.val.map B8) ∧ MoreK rs S rs' S' ∧ S' rs'.length = ⟨e, (S rs.length).mark, (S rs.length).ct⟩ ∧ (flat rs').length ≤ (flat rs).length + 24 ∧ Kt w' (tagV tag w.heap.size tg v) tg p a b c d ch rs' S' ∧ Only (fun b => tag b = tg) w w' := by
  obtain ⟨K, hk, hw, hp, hg⟩ := h
  refine (readNew_any 0 p a b c d ch _ _ _ (flat rs) K e x w hk (Nat.zero_le _) hl (hw.vals _ (Nat.le_refl _)) he _ _ _ rfl).mono ?_
  rintro en w' ⟨K', v, rfl, hv, hk', hG, _, hd⟩
  obtain ⟨rs', S', r0, r1, r2, r3, r4⟩ := Kt.reach hk hw hp hg hwf he hk' hG
  exact ⟨v, rs', S', rfl, hv, r0, r1, r2, r3 v hd, r4⟩
end

section
variable {w : World} {tag : Nat → Nat} {tg p : Nat} {a b c d ch : Int} {rs : List Rc} {S : Nat → St}
theorem kp_writeTold (h : Kt w tag tg p a b c d ch rs S) (e x kd cl ca : Int) (va : Option Addr) (vn vc : Nat) (hwf : (Lit.int .i64 e).wf = true) (hl : (flat rs).length ≤ 30000000) (he : ¬ e < (S rs.length).ep) (hc : isC kd vn = true) (hwh : (lookC a b c d ch (S rs.length).mark (S rs.length).ct x).1 ≠ 3) :
    Calls Tryz.prog 173 #[.pointer (some ⟨p, 0, none⟩), .int .i64 e, .int .i64 x, .agg #[.int .i64 kd, .int .i64 cl, .int .i64 ca, .slice va vn vc]] w fun en w' => ∃ v rs' S', en = .returned (reply (lookC a b c d ch (S rs.length).mark (S rs.length).ct x).1 0 (lookC a b c d ch (S rs.length).mark (S rs.length).ct x).2.1 (lookC a b c d ch (S rs.length).mark (S rs.length).ct x).2.2.kd (lookC a b c d ch (S rs.length).mark (S rs.length).ct x).2.2.cl (lookC a b c d ch (S rs.length).mark (S rs.length).ct x).2.2.ca v) ∧
      w'.ownsRow w.heap.size 5 1 v (lookC a b c d ch (S rs.length).mark (S rs.length).ct x).2.2.val.length ((lookC a b c d ch (S rs.length).mark (S rs.length).ct x).2.2.val.map B8) ∧ MoreK rs S rs' S' ∧ S' rs'.length = ⟨e, (S rs.length).mark, (S rs.length).ct⟩ ∧ (flat rs').length ≤ (flat rs).length + 24 ∧ Kt w' (tagV tag w.heap.size tg v) tg p a b c d ch rs' S' ∧ Only (fun b => tag b = tg) w w' := by
  obtain ⟨K, hk, hw, hp, hg⟩ := h
  have h8 := isC_len hc
  refine (writeTold_any 0 p a b c d ch _ _ _ (flat rs) K e x kd cl ca va vn vc w hk (Nat.zero_le _) hl (hw.vals _ (Nat.le_refl _)) (by omega) he _ _ _ rfl hwh hc).mono ?_
  rintro en w' ⟨K', v, rfl, hv, hk', hG, _, hd⟩
  obtain ⟨rs', S', r0, r1, r2, r3, r4⟩ := Kt.reach hk hw hp hg hwf he hk' hG
  exact ⟨v, rs', S', rfl, hv, r0, r1, r2, r3 v hd, r4⟩
theorem kp_writeNew (h : Kt w tag tg p a b c d ch rs S) (e x kd cl ca : Int) (v : Value) (ys : List Int) (i : Nat) (hwf : (Lit.int .i64 e).wf = true) (hxf : (Lit.int .i64 x).wf = true) (hkf : (Lit.int .i64 kd).wf = true) (hcf : (Lit.int .i64 cl).wf = true) (haf : (Lit.int .i64 ca).wf = true) (hl : (flat rs).length ≤ 30000000) (hv : Bs w v (ys.map B8)) (hvb : ∀ g, v.ownBlock = some g → g < w.heap.size ∧ tag g ≠ tg) (hys : Byt ys) (he : ¬ e < (S rs.length).ep) (hi : i < 16) (hloc : loc a b c d x = (ch, (i : Int), 0)) (hlook : lookC a b c d ch (S rs.length).mark (S rs.length).ct x = (3, 0, ⟨0, 0, 0, []⟩)) (hc : isC kd ys.length = true) :
    Calls Tryz.prog 173 #[.pointer (some ⟨p, 0, none⟩), .int .i64 e, .int .i64 x, .agg #[.int .i64 kd, .int .i64 cl, .int .i64 ca, v]] w fun en w' => ∃ rs' S', en = .returned (reply 1 0 0 0 0 0 nilS) ∧ MoreK rs S rs' S' ∧ S' rs'.length = ⟨e, (S rs.length).mark, fun j => if j = i then ⟨kd, cl, ca, ys⟩ else (S rs.length).ct j⟩ ∧ (flat rs').length ≤ (flat rs).length + 60 ∧ Kt w' (tagTo tag w.heap.size tg) tg p a b c d ch rs' S' ∧ Only (fun b => tag b = tg) w w' := by
  obtain ⟨K, hk, hw, hp, hg⟩ := h
  have h8 := isC_len hc
  refine (writeEmpty_any 0 p a b c d ch _ _ _ (flat rs) K e x kd cl ca v ys i w hk (Nat.zero_le _) hl (hw.vals _ (Nat.le_refl _)) hv (by omega) (fun g e => ⟨(hvb g e).1, fun e' => (hvb g e).2 (hg g (.inl e')), fun e' => (hvb g e).2 (by rw [e']; exact hp)⟩) he hi hloc hlook hc).mono ?_
  rintro en w' ⟨K', rfl, hk', hG⟩
  obtain ⟨r1, r2⟩ := Kt.step (s := ⟨e, (S rs.length).mark, fun j => if j = i then ⟨kd, cl, ca, ys⟩ else (S rs.length).ct j⟩) hk hw hp hg (Plays.write (S rs.length) e x kd cl ca ys i he hi hloc hlook hc) (kok_write e x kd cl ca ys hwf hxf hkf hcf haf h8 hys) hk' hG
  refine ⟨rs ++ [⟨3, [e, x, kd, cl, ca], ys⟩], _, rfl, .inr ⟨_, _, rfl, rfl⟩, upK_last _ _ _ _, ?_, ?_, r2⟩
  · rw [flat_append, List.length_append]
    simp [flat, Rc.bytes, recB_len]
    omega
  · rw [← tagV_nil]
    exact r1 _ (nilS_own K')
end

theorem cha_ok {a b c d u ch : Int} (h : cha a b c d u = (ch, 0)) : fit a b c d = true ∧ 0 ≤ u ∧ u ≤ 1000 ∧ ch = u / b := by
  unfold cha at h
  by_cases hf : fit a b c d = true
  · rw [if_pos hf] at h
    by_cases hu : u < 0 ∨ a * b ≤ u
    · rw [if_pos hu] at h; simp at h
    · rw [if_neg hu] at h
      have hb := fit_bd hf
      have hb2 := fit_bd2 hf
      have hm := mul_bd hb.1 hb.2.1 hb2.1 (by omega)
      simp at h
      exact ⟨hf, by omega, by omega, h.symm⟩
  · rw [if_neg hf] at h; simp at h

structure An where
  wh : Int
  ep : Int
  mark : Int
  ct : Ct
def An.val (A : An) (v : Value) : Value := reply A.wh A.ep A.mark A.ct.kd A.ct.cl A.ct.ca v
def an (wh ep mk : Int) : An := ⟨wh, ep, mk, ⟨0, 0, 0, []⟩⟩
/-- An answer, and the state behind it. -/
def sealA (s : St) (e : Int) : An × St := if e < s.ep then (an 5 s.ep 0, s) else (an 1 e 0, ⟨e, s.mark, s.ct⟩)
def trimA (s : St) (e m : Int) : An × St := if e < s.ep then (an 5 s.ep 0, s) else (an 1 0 (if s.mark < m then m else s.mark), ⟨e, if s.mark < m then m else s.mark, s.ct⟩)
def lookA (a b c d ch : Int) (s : St) (x : Int) : An := ⟨(lookC a b c d ch s.mark s.ct x).1, 0, (lookC a b c d ch s.mark s.ct x).2.1, (lookC a b c d ch s.mark s.ct x).2.2⟩
def readA (a b c d ch : Int) (s : St) (e x : Int) : An × St := if e < s.ep then (an 5 s.ep 0, s) else (lookA a b c d ch s x, ⟨e, s.mark, s.ct⟩)
def writeA (a b c d ch : Int) (s : St) (e x kd cl ca : Int) (ys : List Int) : An × St :=
  if e < s.ep then (an 5 s.ep 0, s) else if isC kd ys.length = false then (an 6 0 0, ⟨e, s.mark, s.ct⟩)
  else if (lookC a b c d ch s.mark s.ct x).1 = 3 then (an 1 0 0, ⟨e, s.mark, fun j => if j = cel a b c d x then ⟨kd, cl, ca, ys⟩ else s.ct j⟩) else (lookA a b c d ch s x, ⟨e, s.mark, s.ct⟩)

/-- The program's call f. -/
def KCall (f : Nat) (args : Array Value) (w : World) (tag : Nat → Nat) (tg p : Nat) (a b c d ch : Int) (rs : List Rc) (S : Nat → St) (R : An × St) : Prop :=
  Calls Tryz.prog f args w fun en w' => ∃ v rs' S', en = .returned (R.1.val v) ∧ w'.ownsRow w.heap.size 5 1 v R.1.ct.val.length (R.1.ct.val.map B8) ∧ MoreK rs S rs' S' ∧ S' rs'.length = R.2 ∧ (flat rs').length ≤ (flat rs).length + 60 ∧ Kt w' (tagV tag w.heap.size tg v) tg p a b c d ch rs' S' ∧ Only (fun g => tag g = tg) w w'

section
variable {w w' : World} {tag tag' : Nat → Nat} {tg p : Nat} {a b c d ch : Int} {rs : List Rc} {S : Nat → St}
theorem Kt.old (h : Kt w tag tg p a b c d ch rs S) (hb : Bl w w') : ∃ v rs' S', Ending.returned (reply 5 (S rs.length).ep 0 0 0 0 nilS) = Ending.returned (An.val (an 5 (S rs.length).ep 0) v) ∧ w'.ownsRow w.heap.size 5 1 v 0 [] ∧ MoreK rs S rs' S' ∧ S' rs'.length = S rs.length ∧ (flat rs').length ≤ (flat rs).length + 60 ∧ Kt w' (tagV tag w.heap.size tg v) tg p a b c d ch rs' S' ∧ Only (fun g => tag g = tg) w w' :=
  ⟨nilS, rs, S, rfl, World.ownsRow_nil _ _ _ _, .inl ⟨rfl, rfl⟩, rfl, by omega, h.only (Only.of_bl (S := fun _ => False) hb) (fun _ _ e => e.elim) (fun g hg => tagV_old _ _ _ _ _ hg), Only.of_bl hb⟩

theorem kc_seal (h : Kt w tag tg p a b c d ch rs S) (e : Int) (hwf : (Lit.int .i64 e).wf = true) (hl : (flat rs).length ≤ 30000000) :
    KCall 176 #[.pointer (some ⟨p, 0, none⟩), .int .i64 e] w tag tg p a b c d ch rs S (sealA (S rs.length) e) := by
  refine (kp_seal h e hwf hl).mono ?_
  rintro en w' ⟨rs', S', rfl, h1, h2, h3, h4, h5⟩
  rw [← tagV_nil] at h4
  refine ⟨nilS, rs', S', ?_, ?_, h1, ?_, by omega, h4, h5⟩
  · unfold sealA; split <;> rfl
  · unfold sealA; split <;> exact World.ownsRow_nil _ _ _ _
  · rw [h2]; unfold sealA; split <;> rfl
theorem kc_trim (h : Kt w tag tg p a b c d ch rs S) (e m : Int) (hwf : (Lit.int .i64 e).wf = true) (hmf : (Lit.int .i64 m).wf = true) (hl : (flat rs).length ≤ 30000000) :
    KCall 175 #[.pointer (some ⟨p, 0, none⟩), .int .i64 e, .int .i64 m] w tag tg p a b c d ch rs S (trimA (S rs.length) e m) := by
  refine (kp_trim h e m hwf hmf hl).mono ?_
  rintro en w' ⟨rs', S', rfl, h1, h2, h3, h4, h5⟩
  rw [← tagV_nil] at h4
  refine ⟨nilS, rs', S', ?_, ?_, h1, ?_, by omega, h4, h5⟩
  · unfold trimA; split <;> rfl
  · unfold trimA; split <;> exact World.ownsRow_nil _ _ _ _
  · rw [h2]; unfold trimA; split <;> rfl
theorem kc_read (h : Kt w tag tg p a b c d ch rs S) (e x : Int) (hwf : (Lit.int .i64 e).wf = true) (hl : (flat rs).length ≤ 30000000) :
    KCall 169 #[.pointer (some ⟨p, 0, none⟩), .int .i64 e, .int .i64 x] w tag tg p a b c d ch rs S (readA a b c d ch (S rs.length) e x) := by
  unfold readA
  by_cases he : e < (S rs.length).ep
  · rw [if_pos he]
    obtain ⟨K, hk, hr⟩ := h
    refine (readOld_any 0 p a b c d ch _ _ _ (flat rs) K e x w hk he).mono ?_
    rintro en w' ⟨rfl, _, hb⟩
    exact Kt.old ⟨K, hk, hr⟩ hb
  · rw [if_neg he]
    refine (kp_read h e x hwf hl he).mono ?_
    rintro en w' ⟨v, rs', S', rfl, h0, h1, h2, h3, h4, h5⟩
    exact ⟨v, rs', S', rfl, h0, h1, h2, by omega, h4, h5⟩
theorem kc_write (h : Kt w tag tg p a b c d ch rs S) (e x kd cl ca : Int) (va : Option Addr) (vc : Nat) (ys : List Int) (hwf : (Lit.int .i64 e).wf = true) (hxf : (Lit.int .i64 x).wf = true) (hkf : (Lit.int .i64 kd).wf = true) (hcf : (Lit.int .i64 cl).wf = true) (haf : (Lit.int .i64 ca).wf = true) (hl : (flat rs).length ≤ 30000000) (hv : Bs w (.slice va ys.length vc) (ys.map B8)) (hvb : ∀ g, (Value.slice va ys.length vc).ownBlock = some g → g < w.heap.size ∧ tag g ≠ tg) (hys : Byt ys) (hc : isC kd ys.length = true) :
    KCall 173 #[.pointer (some ⟨p, 0, none⟩), .int .i64 e, .int .i64 x, .agg #[.int .i64 kd, .int .i64 cl, .int .i64 ca, .slice va ys.length vc]] w tag tg p a b c d ch rs S (writeA a b c d ch (S rs.length) e x kd cl ca ys) := by
  unfold writeA
  by_cases he : e < (S rs.length).ep
  · rw [if_pos he]
    obtain ⟨K, hk, hr⟩ := h
    refine (writeOld_any 0 p a b c d ch _ _ _ (flat rs) K e x kd cl ca va ys.length vc w hk he).mono ?_
    rintro en w' ⟨rfl, _, hb⟩
    exact Kt.old ⟨K, hk, hr⟩ hb
  · rw [if_neg he]
    rw [if_neg (by rw [hc]; decide)]
    by_cases h3 : (lookC a b c d ch (S rs.length).mark (S rs.length).ct x).1 = 3
    · rw [if_pos h3]
      have hlk : lookC a b c d ch (S rs.length).mark (S rs.length).ct x = (3, 0, ⟨0, 0, 0, []⟩) ∧ (loc a b c d x).2.2 = 0 ∧ (loc a b c d x).1 = ch := by
        unfold lookC at h3 ⊢
        by_cases q1 : (loc a b c d x).2.2 ≠ 0 ∨ (loc a b c d x).1 ≠ ch
        · rw [if_pos q1] at h3; exact absurd h3 (show ¬ (6 : Int) = 3 by decide)
        · rw [if_neg q1] at h3 ⊢
          have q1' : (loc a b c d x).2.2 = 0 ∧ (loc a b c d x).1 = ch := ⟨Classical.byContradiction fun e => q1 (.inl e), Classical.byContradiction fun e => q1 (.inr e)⟩
          by_cases q2 : x < (S rs.length).mark
          · rw [if_pos q2] at h3; exact absurd h3 (show ¬ (4 : Int) = 3 by decide)
          · rw [if_neg q2] at h3 ⊢
            by_cases q3 : ((S rs.length).ct (loc a b c d x).2.1.toNat).kd = 0
            · rw [if_pos q3]; exact ⟨rfl, q1'⟩
            · rw [if_neg q3] at h3; exact absurd h3 (show ¬ (2 : Int) = 3 by decide)
      obtain ⟨i, hi, hloc⟩ := loc_cell hlk.2.1
      have hcel : cel a b c d x = i := by unfold cel; rw [hloc]; rfl
      refine (kp_writeNew h e x kd cl ca _ ys i hwf hxf hkf hcf haf hl hv hvb hys he hi (by rw [hloc, hlk.2.2]) hlk.1 hc).mono ?_
      rintro en w' ⟨rs', S', rfl, h1, h2, h3, h4, h5⟩
      rw [← tagV_nil] at h4
      exact ⟨nilS, rs', S', rfl, World.ownsRow_nil _ _ _ _, h1, by rw [h2, hcel], by omega, h4, h5⟩
    · rw [if_neg h3]
      refine (kp_writeTold h e x kd cl ca va ys.length vc hwf hl he hc h3).mono ?_
      rintro en w' ⟨v, rs', S', rfl, h0, h1, h2, h3, h4, h5⟩
      exact ⟨v, rs', S', rfl, h0, h1, h2, by omega, h4, h5⟩

end
end Go.Proofs.YtnhjmiglegdamaaGreat

namespace Go.Proofs.YtnhjmiglegdamaaGreat
open Go.RowKit Go.Maps
attribute [local go_sem ↓] Go.wp_at_zero Go.wp_at_succ

def SK0 : Nat → St := fun _ => St.first
theorem way_nil (a b c d ch : Int) : Way a b c d ch [] SK0 := ⟨rfl, fun j h => by simp at h, fun r h => by simp at h⟩
theorem cut_nil (w : World) : Cut w none 0 0 [] := ⟨by simp [flat], Nat.le_refl _, by decide, 0, 0, fun h => absurd h (by decide), fun j d h => absurd h (by omega)⟩
theorem tagTo_two (tag : Nat → Nat) (N M i : Nat) (h : N ≤ M) (g : Nat) : tagTo tag N i g = tagTo (tagTo tag N i) M i g := by
  unfold tagTo
  by_cases h1 : g < N
  · rw [if_pos h1, if_pos (by omega)]
  · by_cases h2 : g < M
    · rw [if_neg h1, if_pos h2]
    · rw [if_neg h1, if_neg h2]
set_option maxRecDepth 100000 in
set_option maxHeartbeats 2000000 in
theorem openUnit_yes (a b c d u ch : Int) (w : World) (hch : cha a b c d u = (ch, 0)) (tag : Nat → Nat) (tg : Nat) :
    Calls Tryz.prog 82 #[.agg #[.int .i64 a, .int .i64 b, .int .i64 c, .int .i64 d], .int .i64 u, .slice none 0 0] w fun e w' => ∃ p, e = .returned (.tuple #[.iface 228 (.agg #[.pointer (some ⟨p, 0, none⟩)]), .int .i64 0]) ∧ w.heap.size ≤ p ∧ Bl w w' ∧ Kt w' (tagTo tag w.heap.size tg) tg p a b c d ch [] SK0 := by
  have bA := (Bl.refl w).alloc (.cells #[.int .i64 a, .int .i64 b, .int .i64 c, .int .i64 d] 27)
  have HO := hid (kt_open (w := w.alloc (.cells #[.int .i64 a, .int .i64 b, .int .i64 c, .int .i64 d] 27)) (way_nil a b c d ch) u hch none 0 0 (by simp [flat]) (cut_nil _) (tagTo tag w.heap.size tg) tg)
  have HA := hid bA
  clear bA
  go_enter Tryz.func82, Tryz.ntmps82
  go_wp2_with fail
  refine HO.out.mono ?_
  rintro e w1 ⟨k, p, rfl, k1, _, _, hp, hb, hk⟩
  rw [List.take_nil] at hk
  have HB := hid (HA.out.trans hb)
  have HK := hid hk
  have hp' : w.heap.size ≤ p := by simp at hp; omega
  clear HO hb hk k1 HA
  go_wp2
  go_ret2
  exact ⟨p, rfl, hp', HB.out, HK.out.only (Only.refl (fun _ => False) _) (fun _ _ e => e.elim) (fun g _ => tagTo_two _ _ _ _ (by simp) g)⟩

set_option maxRecDepth 100000 in
theorem isVoter_not (a b c d x : Int) (w : World) (hx : x < 100) :
    Calls Tryz.prog 83 #[.agg #[.int .i64 a, .int .i64 b, .int .i64 c, .int .i64 d], .int .i64 x] w fun e w' => e = .returned (.bool false) ∧ Bl w w' := by
  have hA := (Bl.refl w).alloc (.cells #[.int .i64 a, .int .i64 b, .int .i64 c, .int .i64 d] 27)
  go_enter Tryz.func83, Tryz.ntmps83
  go_wp2
  go_ret
  exact ⟨rfl, hA⟩

set_option maxRecDepth 100000 in
set_option maxHeartbeats 2000000 in
theorem nodesOpen_unit (a b c d u ch : Int) (w : World) (hf : fit a b c d = true) (hu : u < 100) (hch : cha a b c d u = (ch, 0)) (tag : Nat → Nat) (tg : Nat) :
    Calls Tryz.prog 44 #[.agg #[.int .i64 a, .int .i64 b, .int .i64 c, .int .i64 d], .int .i64 u, .slice none 0 0] w fun e w' => ∃ g p, e = .returned (.tuple #[.pointer (some ⟨g, 0, none⟩), .int .i64 0]) ∧ w'.heap[g]? = some (.cells #[.iface 228 (.agg #[.pointer (some ⟨p, 0, none⟩)]), .slice none 0 0] 122 (0, 0)) ∧ w.heap.size ≤ g ∧ w.heap.size ≤ p ∧ Bl w w' ∧ Kt w' (tagTo tag w.heap.size tg) tg p a b c d ch [] SK0 := by
  have HV := hid (valid_any a b c d)
  rw [hf] at HV
  have hA := (Bl.refl w).alloc (.cells #[.int .i64 a, .int .i64 b, .int .i64 c, .int .i64 d] 27)
  have hN := heap_alloc_new w (.cells #[.int .i64 a, .int .i64 b, .int .i64 c, .int .i64 d] 27)
  have HA := hid hA
  have HN := hid hN
  clear hA hN
  go_enter Tryz.func44, Tryz.ntmps44
  go_wp2_with fail
  refine (HV.out _).mono ?_
  rintro e w1 ⟨rfl, hb1⟩
  have hN1 := (hb1.heap (by simp)).trans HN.out
  have c0 : w1.cell? ⟨w.heap.size, 0, none⟩ = some (.int .i64 a) := cell_of_row w1 w.heap.size 0 _ 27 (0, 0) hN1
  have c1 : w1.cell? ⟨w.heap.size, 1, none⟩ = some (.int .i64 b) := cell_of_row w1 w.heap.size 1 _ 27 (0, 0) hN1
  have c2 : w1.cell? ⟨w.heap.size, 2, none⟩ = some (.int .i64 c) := cell_of_row w1 w.heap.size 2 _ 27 (0, 0) hN1
  have c3 : w1.cell? ⟨w.heap.size, 3, none⟩ = some (.int .i64 d) := cell_of_row w1 w.heap.size 3 _ 27 (0, 0) hN1
  have l1 := (Array.getElem?_eq_some_iff.1 hN1).1
  have HB1 := hid (HA.out.trans hb1)
  clear hb1 hN1 HN HA HV
  go_wp2_with fail
  refine (isVoter_not a b c d u w1 hu).mono ?_
  rintro e w2 ⟨rfl, hb2⟩
  have d0 := (hb2.cell l1).trans c0
  have d1 := (hb2.cell l1).trans c1
  have d2 := (hb2.cell l1).trans c2
  have d3 := (hb2.cell l1).trans c3
  have l2 := Nat.lt_of_lt_of_le l1 hb2.lt
  have HB2 := hid (HB1.out.trans hb2)
  have HO := hid (openUnit_yes a b c d u ch w2 hch (tagTo tag w.heap.size tg) tg)
  clear hb2 c0 c1 c2 c3 HB1
  go_wp2_with fail
  refine HO.out.mono ?_
  rintro e w3 ⟨p, rfl, hp, hb3, hk3⟩
  have HB3 := hid (HB2.out.trans hb3)
  have HK3 := hid hk3
  have hw2 := HB2.out.lt
  have Hp : Hid (w.heap.size ≤ p) := by unfold Hid; omega
  have Hs : Hid (w.heap.size ≤ w3.heap.size) := by unfold Hid; have := hb3.lt; omega
  have Hw2 := hid hw2
  clear HO hb3 hk3 d0 d1 d2 d3 HB2 hp
  go_wp2
  go_ret2
  have bX := (Bl.refl w3).alloc (.cells #[.iface 228 (.agg #[.pointer (some ⟨p, 0, none⟩)]), .slice none 0 0] 122)
  exact ⟨_, p, rfl, heap_alloc_new w3 _, Hs.out, Hp.out, HB3.out.trans bX, HK3.out.only (Only.of_bl (S := fun _ => False) bX) (fun _ _ e => e.elim) (fun g _ => tagTo_two _ _ _ _ Hw2.out g)⟩

set_option maxRecDepth 100000 in
set_option maxHeartbeats 2000000 in
theorem openNode_unit (a b c d u ch : Int) (w : World) (hf : fit a b c d = true) (hu : u < 100) (hch : cha a b c d u = (ch, 0)) (tag : Nat → Nat) (tg : Nat) :
    Calls Tryz.prog 17 #[.agg #[.int .i64 a, .int .i64 b, .int .i64 c, .int .i64 d], .int .i64 u, .slice none 0 0] w fun e w' => ∃ g p, e = .returned (.tuple #[.pointer (some ⟨g, 0, none⟩), .int .i64 0]) ∧ w'.heap[g]? = some (.cells #[.iface 228 (.agg #[.pointer (some ⟨p, 0, none⟩)]), .slice none 0 0] 124 (0, 0)) ∧ w.heap.size ≤ g ∧ Bl w w' ∧ Kt w' (tagTo tag w.heap.size tg) tg p a b c d ch [] SK0 := by
  have hA := (Bl.refl w).alloc (.cells #[.int .i64 a, .int .i64 b, .int .i64 c, .int .i64 d] 27)
  have HO := hid (nodesOpen_unit a b c d u ch (w.alloc (.cells #[.int .i64 a, .int .i64 b, .int .i64 c, .int .i64 d] 27)) hf hu hch (tagTo tag w.heap.size tg) tg)
  have HA := hid hA
  clear hA
  go_enter Tryz.func17, Tryz.ntmps17
  go_wp2_with fail
  refine HO.out.mono ?_
  rintro e w3 ⟨g, p, rfl, hg, lg, lp, hb3, hk3⟩
  have c0 : w3.cell? ⟨g, 0, none⟩ = some (.iface 228 (.agg #[.pointer (some ⟨p, 0, none⟩)])) := cell_of_row w3 g 0 _ 122 (0, 0) hg
  have c1 : w3.cell? ⟨g, 1, none⟩ = some (.slice none 0 0) := cell_of_row w3 g 1 _ 122 (0, 0) hg
  have l3 := (Array.getElem?_eq_some_iff.1 hg).1
  have HB3 := hid (HA.out.trans hb3)
  have HK3 := hid hk3
  have Hs : Hid (w.heap.size ≤ w3.heap.size) := HB3.out.lt
  clear HO hb3 hk3 hg lg lp HA
  go_wp2
  go_ret2
  have bX := (Bl.refl w3).alloc (.cells #[.iface 228 (.agg #[.pointer (some ⟨p, 0, none⟩)]), .slice none 0 0] 124)
  exact ⟨_, p, rfl, heap_alloc_new w3 _, Hs.out, HB3.out.trans bX, HK3.out.only (Only.of_bl (S := fun _ => False) bX) (fun _ _ e => e.elim) (fun g _ => tagTo_two _ _ _ _ (by simp) g)⟩
end Go.Proofs.YtnhjmiglegdamaaGreat
