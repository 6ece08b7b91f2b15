-- What a unit answers, and what it has then.
-- What a unit answers to a write, and what it has then.
-- The document's cells, whose blocks bear the marks of a unit.
-- The document's cells with marks: reading and writing.
import Derived.Test.YtkgjpfamjedncaaGreatFurKTagFurB
import Derived.Test.YtkgjpfamjedncaaGreatMatchVTagOpenCWrap
namespace Go.Proofs.YtkgjpfamjedncaaGreat
open Go.RowKit Go.Maps

/-- The records go on by one at most. -/
def MoreK (rs : List Rc) (S : Nat → St) (rs' : List Rc) (S' : Nat → St) : Prop :=
  (rs' = rs ∧ S' = S) ∨ ∃ r s, rs' = rs ++ [r] ∧ S' = upK S rs.length s
section
variable {w w' : World} {tag tag' : Nat → Nat} {tg p : Nat} {a b c d ch : Int} {rs : List Rc} {S : Nat → St}
/-- A call leaves no record. -/
theorem Kt.same {K K' : Nat → Value} (hk : Ks 0 w p a b c d ch (S rs.length).ep (S rs.length).mark (S rs.length).ct (flat rs) K) (hw : Way a b c d ch rs S) (hp : tag p = tg) (hg : ∀ g, KF K g → tag g = tg)
    (hk' : Ks 0 w' p a b c d ch (S rs.length).ep (S rs.length).mark (S rs.length).ct (flat rs) K') (hG : Gk p K K' w w') :
    (∀ v : Value, (∀ g, v.ownBlock = some g → ¬ KF K' g) → Kt w' (tagV tag w.heap.size tg v) tg p a b c d ch rs S) ∧ Only (fun b => tag b = tg) w w' := by
  have O : Only (fun b => tag b = tg) w w' := hG.only.mono fun b _ e => by
    rcases e with rfl | e
    · exact hp
    · exact hg b (.inl e)
  refine ⟨fun v hd => ⟨K', hk', hw, by rw [tagV_old _ _ _ _ _ hk.at'.lt, hp], fun g hF => ?_⟩, O⟩
  rcases hG.lies g hF with h1 | h1
  · rw [tagV_old _ _ _ _ _ (hk.foot h1).2, hg g h1]
  · exact tagV_new _ _ _ _ _ h1 fun e => hd g e hF
theorem nilS_own (K' : Nat → Value) : ∀ g, (Value.slice none 0 0).ownBlock = some g → ¬ KF K' g := fun g e => by simp [Value.ownBlock] at e
/-- A call that reaches an epoch, and does nothing else. -/
theorem Kt.reach {K K' : Nat → Value} {e : Int} (hk : Ks 0 w p a b c d ch (S rs.length).ep (S rs.length).mark (S rs.length).ct (flat rs) K) (hw : Way a b c d ch rs S) (hp : tag p = tg) (hg : ∀ g, KF K g → tag g = tg) (hwf : (Lit.int .i64 e).wf = true) (he : ¬ e < (S rs.length).ep)
    (hk' : Ks 0 w' p a b c d ch e (S rs.length).mark (S rs.length).ct (flat rs ++ if e = (S rs.length).ep then [] else recB 1 [e] []) K') (hG : Gk p K K' w w') :
    ∃ rs' S', MoreK rs S rs' S' ∧ S' rs'.length = ⟨e, (S rs.length).mark, (S rs.length).ct⟩ ∧ (flat rs').length ≤ (flat rs).length + 24 ∧ (∀ v : Value, (∀ g, v.ownBlock = some g → ¬ KF K' g) → Kt w' (tagV tag w.heap.size tg v) tg p a b c d ch rs' S') ∧ Only (fun b => tag b = tg) w w' := by
  by_cases hq : e = (S rs.length).ep
  · rw [if_pos hq, List.append_nil, hq] at hk'
    obtain ⟨r1, r2⟩ := Kt.same hk hw hp hg hk' hG
    exact ⟨rs, S, .inl ⟨rfl, rfl⟩, by rw [hq], by omega, r1, r2⟩
  · rw [if_neg hq] at hk'
    obtain ⟨r1, r2⟩ := Kt.step (s := ⟨e, (S rs.length).mark, (S rs.length).ct⟩) hk hw hp hg (Plays.sealed (S rs.length) e (by omega)) (kok_seal e hwf) hk' hG
    refine ⟨_, _, .inr ⟨_, _, rfl, rfl⟩, upK_last _ _ _ _, ?_, r1, r2⟩
    rw [flat_append, List.length_append]
    simp [flat, Rc.bytes, recB_len]

theorem kp_seal (h : Kt w tag tg p a b c d ch rs S) (e : Int) (hwf : (Lit.int .i64 e).wf = true) (hl : (flat rs).length ≤ 30000000) :
    Calls Tryz.prog 47 #[.pointer (some ⟨p, 0, none⟩), .int .i64 e] w fun en w' => ∃ rs' S', en = .returned (if e < (S rs.length).ep then reply 5 (S rs.length).ep 0 0 0 0 nilS else reply 1 e 0 0 0 0 nilS) ∧ MoreK rs S rs' S' ∧ S' rs'.length = (if e < (S rs.length).ep then S rs.length else ⟨e, (S rs.length).mark, (S rs.length).ct⟩) ∧ (flat rs').length ≤ (flat rs).length + 24 ∧ Kt w' (tagTo tag w.heap.size tg) tg p a b c d ch rs' S' ∧ Only (fun b => tag b = tg) w w' := by
  obtain ⟨K, hk, hw, hp, hg⟩ := h
  refine (fseal_any 0 p a b c d ch _ _ _ (flat rs) K e w hk (Nat.zero_le _) hl).mono ?_
  rintro en w' ⟨K', rfl, hk', hG⟩
  by_cases he : e < (S rs.length).ep
  · rw [if_pos he, if_pos (.inl he)] at hk'
    obtain ⟨r1, r2⟩ := Kt.same hk hw hp hg hk' hG
    refine ⟨rs, S, rfl, .inl ⟨rfl, rfl⟩, by rw [if_pos he], by omega, ?_, r2⟩
    rw [← tagV_nil]
    exact r1 _ (nilS_own K')
  · rw [if_neg he] at hk'
    have hk2 : Ks 0 w' p a b c d ch e (S rs.length).mark (S rs.length).ct (flat rs ++ if e = (S rs.length).ep then [] else recB 1 [e] []) K' := by
      by_cases hq : e = (S rs.length).ep
      · rw [if_pos (.inr hq)] at hk'
        rw [if_pos hq, List.append_nil]; exact hk'
      · rw [if_neg (by rintro (h | h); exact he h; exact hq h)] at hk'
        rw [if_neg hq]; exact hk'
    obtain ⟨rs', S', r0, r1, r2, r3, r4⟩ := Kt.reach hk hw hp hg hwf he hk2 hG
    refine ⟨rs', S', rfl, r0, by rw [if_neg he]; exact r1, r2, ?_, r4⟩
    rw [← tagV_nil]
    exact r3 _ (nilS_own K')

theorem kp_trim (h : Kt w tag tg p a b c d ch rs S) (e m : Int) (hwf : (Lit.int .i64 e).wf = true) (hmf : (Lit.int .i64 m).wf = true) (hl : (flat rs).length ≤ 30000000) :
    Calls Tryz.prog 45 #[.pointer (some ⟨p, 0, none⟩), .int .i64 e, .int .i64 m] w fun en w' => ∃ rs' S', en = .returned (if e < (S rs.length).ep then reply 5 (S rs.length).ep 0 0 0 0 nilS else reply 1 0 (if (S rs.length).mark < m then m else (S rs.length).mark) 0 0 0 nilS) ∧ MoreK rs S rs' S' ∧ S' rs'.length = (if e < (S rs.length).ep then S rs.length else ⟨e, if (S rs.length).mark < m then m else (S rs.length).mark, (S rs.length).ct⟩) ∧ (flat rs').length ≤ (flat rs).length + 24 ∧ Kt w' (tagTo tag w.heap.size tg) tg p a b c d ch rs' S' ∧ Only (fun b => tag b = tg) w w' := by
  have hh := h
  obtain ⟨K, hk, hw, hp, hg⟩ := h
  by_cases he : e < (S rs.length).ep
  · refine (ftrim_old 0 p a b c d ch _ _ _ (flat rs) K e m w hk he).mono ?_
    rintro en w' ⟨rfl, _, hb⟩
    refine ⟨rs, S, by rw [if_pos he], .inl ⟨rfl, rfl⟩, by rw [if_pos he], by omega, ?_, Only.of_bl hb⟩
    exact hh.only (Only.of_bl (S := fun _ => False) hb) (fun _ _ e => e.elim) (fun b hb => tagTo_old _ _ _ _ hb)
  · refine (ftrim_any 0 p a b c d ch _ _ _ (flat rs) K e m w hk (Nat.zero_le _) hl he).mono ?_
    rintro en w' ⟨K', rfl, hk', hG⟩
    by_cases hm : (S rs.length).mark < m
    · rw [if_pos hm, if_pos hm] at hk'
      obtain ⟨r1, r2⟩ := Kt.step (s := ⟨e, m, (S rs.length).ct⟩) hk hw hp hg (Plays.trim (S rs.length) e m he hm) (kok_trim e m hwf hmf) hk' hG
      refine ⟨rs ++ [⟨2, [e, m], []⟩], _, by rw [if_neg he], .inr ⟨_, _, rfl, rfl⟩, by rw [if_neg he, if_pos hm]; exact upK_last _ _ _ _, ?_, ?_, r2⟩
      · rw [flat_append, List.length_append]
        simp [flat, Rc.bytes, recB_len]
      · rw [← tagV_nil]
        exact r1 _ (nilS_own K')
    · rw [if_neg hm, if_neg hm] at hk'
      obtain ⟨rs', S', r0, r1, r2, r3, r4⟩ := Kt.reach hk hw hp hg hwf he hk' hG
      refine ⟨rs', S', by rw [if_neg he], r0, by rw [if_neg he, if_neg hm]; exact r1, r2, ?_, r4⟩
      rw [← tagV_nil]
      exact r3 _ (nilS_own K')

theorem kp_read (h : Kt w tag tg p a b c d ch rs S) (e x : Int) (hwf : (Lit.int .i64 e).wf = true) (hl : (flat rs).length ≤ 30000000) (he : ¬ e < (S rs.length).ep) :
    Calls Tryz.prog 40 #[.pointer (some ⟨p, 0, none⟩), .int .i64 e, .int .i64 x] w fun en w' => ∃ v rs' S', en = .returned (reply (lookC a b c d ch (S rs.length).mark (S rs.length).ct x).1 0 (lookC a b c d ch (S rs.length).mark (S rs.length).ct x).2.1 (lookC a b c d ch (S rs.length).mark (S rs.length).ct x).2.2.kd (lookC a b c d ch (S rs.length).mark (S rs.length).ct x).2.2.cl (lookC a b c d ch (S rs.length).mark (S rs.length).ct x).2.2.ca v) ∧
      w'.ownsRow w.heap.size 5 1 v (lookC a b c d ch (S rs.length).mark (S rs.length).ct x).2.2.val.length ((lookC a b c d ch (S rs.length).mark (S rs.length).ct x).2.2.val.map B8) ∧ MoreK rs S rs' S' ∧ S' rs'.length = ⟨e, (S rs.length).mark, (S rs.length).ct⟩ ∧ (flat rs').length ≤ (flat rs).length + 24 ∧ Kt w' (tagV tag w.heap.size tg v) tg p a b c d ch rs' S' ∧ Only (fun b => tag b = tg) w w' := by
  obtain ⟨K, hk, hw, hp, hg⟩ := h
  refine (fread_new 0 p a b c d ch _ _ _ (flat rs) K e x w hk (Nat.zero_le _) hl (hw.vals _ (Nat.le_refl _)) he _ _ _ rfl).mono ?_
  rintro en w' ⟨K', v, rfl, hv, hk', hG, _, hd⟩
  obtain ⟨rs', S', r0, r1, r2, r3, r4⟩ := Kt.reach hk hw hp hg hwf he hk' hG
  exact ⟨v, rs', S', rfl, hv, r0, r1, r2, r3 v hd, r4⟩
end
end Go.Proofs.YtkgjpfamjedncaaGreat

namespace Go.Proofs.YtkgjpfamjedncaaGreat
open Go.RowKit Go.Maps

section
variable {w : World} {tag : Nat → Nat} {tg p : Nat} {a b c d ch : Int} {rs : List Rc} {S : Nat → St}
theorem kp_writeNot (h : Kt w tag tg p a b c d ch rs S) (e x kd cl ca : Int) (va : Option Addr) (vn vc : Nat) (hwf : (Lit.int .i64 e).wf = true) (hl : (flat rs).length ≤ 30000000) (hvn : vn ≤ 255) (he : ¬ e < (S rs.length).ep) (hc : isC kd vn = false) :
    Calls Tryz.prog 43 #[.pointer (some ⟨p, 0, none⟩), .int .i64 e, .int .i64 x, .agg #[.int .i64 kd, .int .i64 cl, .int .i64 ca, .slice va vn vc]] w fun en w' => ∃ rs' S', en = .returned (reply 6 0 0 0 0 0 nilS) ∧ MoreK rs S rs' S' ∧ S' rs'.length = ⟨e, (S rs.length).mark, (S rs.length).ct⟩ ∧ (flat rs').length ≤ (flat rs).length + 24 ∧ Kt w' (tagTo tag w.heap.size tg) tg p a b c d ch rs' S' ∧ Only (fun b => tag b = tg) w w' := by
  obtain ⟨K, hk, hw, hp, hg⟩ := h
  refine (fwrite_not 0 p a b c d ch _ _ _ (flat rs) K e x kd cl ca va vn vc w hk (Nat.zero_le _) hl (hw.vals _ (Nat.le_refl _)) hvn he _ _ _ rfl hc).mono ?_
  rintro en w' ⟨K', rfl, hk', hG⟩
  obtain ⟨rs', S', r0, r1, r2, r3, r4⟩ := Kt.reach hk hw hp hg hwf he hk' hG
  refine ⟨rs', S', rfl, r0, r1, r2, ?_, r4⟩
  rw [← tagV_nil]
  exact r3 _ (nilS_own K')
theorem kp_writeTold (h : Kt w tag tg p a b c d ch rs S) (e x kd cl ca : Int) (va : Option Addr) (vn vc : Nat) (hwf : (Lit.int .i64 e).wf = true) (hl : (flat rs).length ≤ 30000000) (he : ¬ e < (S rs.length).ep) (hc : isC kd vn = true) (hwh : (lookC a b c d ch (S rs.length).mark (S rs.length).ct x).1 ≠ 3) :
    Calls Tryz.prog 43 #[.pointer (some ⟨p, 0, none⟩), .int .i64 e, .int .i64 x, .agg #[.int .i64 kd, .int .i64 cl, .int .i64 ca, .slice va vn vc]] w fun en w' => ∃ v rs' S', en = .returned (reply (lookC a b c d ch (S rs.length).mark (S rs.length).ct x).1 0 (lookC a b c d ch (S rs.length).mark (S rs.length).ct x).2.1 (lookC a b c d ch (S rs.length).mark (S rs.length).ct x).2.2.kd (lookC a b c d ch (S rs.length).mark (S rs.length).ct x).2.2.cl (lookC a b c d ch (S rs.length).mark (S rs.length).ct x).2.2.ca v) ∧
      w'.ownsRow w.heap.size 5 1 v (lookC a b c d ch (S rs.length).mark (S rs.length).ct x).2.2.val.length ((lookC a b c d ch (S rs.length).mark (S rs.length).ct x).2.2.val.map B8) ∧ MoreK rs S rs' S' ∧ S' rs'.length = ⟨e, (S rs.length).mark, (S rs.length).ct⟩ ∧ (flat rs').length ≤ (flat rs).length + 24 ∧ Kt w' (tagV tag w.heap.size tg v) tg p a b c d ch rs' S' ∧ Only (fun b => tag b = tg) w w' := by
  obtain ⟨K, hk, hw, hp, hg⟩ := h
  have h8 := isC_len hc
  refine (fwrite_told 0 p a b c d ch _ _ _ (flat rs) K e x kd cl ca va vn vc w hk (Nat.zero_le _) hl (hw.vals _ (Nat.le_refl _)) (by omega) he _ _ _ rfl hwh hc).mono ?_
  rintro en w' ⟨K', v, rfl, hv, hk', hG, _, hd⟩
  obtain ⟨rs', S', r0, r1, r2, r3, r4⟩ := Kt.reach hk hw hp hg hwf he hk' hG
  exact ⟨v, rs', S', rfl, hv, r0, r1, r2, r3 v hd, r4⟩
theorem kp_writeNew (h : Kt w tag tg p a b c d ch rs S) (e x kd cl ca : Int) (v : Value) (ys : List Int) (i : Nat) (hwf : (Lit.int .i64 e).wf = true) (hxf : (Lit.int .i64 x).wf = true) (hkf : (Lit.int .i64 kd).wf = true) (hcf : (Lit.int .i64 cl).wf = true) (haf : (Lit.int .i64 ca).wf = true) (hl : (flat rs).length ≤ 30000000) (hv : Bs w v (ys.map B8)) (hvb : ∀ g, v.ownBlock = some g → g < w.heap.size ∧ tag g ≠ tg) (hys : Byt ys) (he : ¬ e < (S rs.length).ep) (hi : i < 16) (hloc : loc a b c d x = (ch, (i : Int), 0)) (hlook : lookC a b c d ch (S rs.length).mark (S rs.length).ct x = (3, 0, ⟨0, 0, 0, []⟩)) (hc : isC kd ys.length = true) :
    Calls Tryz.prog 43 #[.pointer (some ⟨p, 0, none⟩), .int .i64 e, .int .i64 x, .agg #[.int .i64 kd, .int .i64 cl, .int .i64 ca, v]] w fun en w' => ∃ rs' S', en = .returned (reply 1 0 0 0 0 0 nilS) ∧ MoreK rs S rs' S' ∧ S' rs'.length = ⟨e, (S rs.length).mark, fun j => if j = i then ⟨kd, cl, ca, ys⟩ else (S rs.length).ct j⟩ ∧ (flat rs').length ≤ (flat rs).length + 60 ∧ Kt w' (tagTo tag w.heap.size tg) tg p a b c d ch rs' S' ∧ Only (fun b => tag b = tg) w w' := by
  obtain ⟨K, hk, hw, hp, hg⟩ := h
  have h8 := isC_len hc
  refine (fwrite_empty 0 p a b c d ch _ _ _ (flat rs) K e x kd cl ca v ys i w hk (Nat.zero_le _) hl (hw.vals _ (Nat.le_refl _)) hv (by omega) (fun g e => ⟨(hvb g e).1, fun e' => (hvb g e).2 (hg g (.inl e')), fun e' => (hvb g e).2 (by rw [e']; exact hp)⟩) he hi hloc hlook hc).mono ?_
  rintro en w' ⟨K', rfl, hk', hG⟩
  obtain ⟨r1, r2⟩ := Kt.step (s := ⟨e, (S rs.length).mark, fun j => if j = i then ⟨kd, cl, ca, ys⟩ else (S rs.length).ct j⟩) hk hw hp hg (Plays.write (S rs.length) e x kd cl ca ys i he hi hloc hlook hc) (kok_write e x kd cl ca ys hwf hxf hkf hcf haf h8 hys) hk' hG
  refine ⟨rs ++ [⟨3, [e, x, kd, cl, ca], ys⟩], _, rfl, .inr ⟨_, _, rfl, rfl⟩, upK_last _ _ _ _, ?_, ?_, r2⟩
  · rw [flat_append, List.length_append]
    simp [flat, Rc.bytes, recB_len]
    omega
  · rw [← tagV_nil]
    exact r1 _ (nilS_own K')
end
end Go.Proofs.YtkgjpfamjedncaaGreat

namespace Go.Proofs.YtkgjpfamjedncaaGreat
open Go.RowKit Go.Maps

/-- The document's cells in block y: its own blocks bear tr, the values tv; they have s. -/
def Dt (w : World) (tag : Nat → Nat) (tr tv y : Nat) (a b c d u : Int) (s : St) (nn : Nat) : Prop :=
  ∃ lv n F, n ≤ nn ∧ Cw 0 w y a b c d u s.ep s.mark lv n F ∧ Mt a b c d u n F s.ct ∧ tag y = tr ∧ (∀ g, lv.ownBlock = some g → tag g = tr) ∧ ∀ i, i < n → ∀ g, (F i).v.ownBlock = some g → tag g = tv
section
variable {w w' : World} {tag tag' : Nat → Nat} {tr tv y : Nat} {a b c d u : Int} {s : St} {nn : Nat}
theorem Dt.only {T : Nat → Prop} (h : Dt w tag tr tv y a b c d u s nn) (ho : Only T w w') (hs : ∀ g, g < w.heap.size → T g → tag g ≠ tr ∧ tag g ≠ tv) (ht : ∀ g, g < w.heap.size → tag' g = tag g) : Dt w' tag' tr tv y a b c d u s nn := by
  obtain ⟨lv, n, F, h0, h1, h2, h3, h4, h5⟩ := h
  exact ⟨lv, n, F, h0, h1.only ho (fun e => (hs y h1.lt e).1 h3) (fun g hg e => (hs g (h1.own.lt g hg).2 e).1 (h4 g hg)) (fun i hi g hg e => (hs g ((h1.val i hi).lt g hg).2 e).2 (h5 i hi g hg)), h2, by rw [ht y h1.lt]; exact h3, fun g hg => by rw [ht g (h1.own.lt g hg).2]; exact h4 g hg, fun i hi g hg => by rw [ht g ((h1.val i hi).lt g hg).2]; exact h5 i hi g hg⟩
/-- A call that turns the cells' own block alone. -/
theorem Dt.set {lv : Value} {n : Nat} {F : Nat → Wq} {s' : St} (h0 : n ≤ nn) (h1 : Cw 0 w y a b c d u s.ep s.mark lv n F) (h2 : Mt a b c d u n F s.ct) (h3 : tag y = tr) (h4 : ∀ g, lv.ownBlock = some g → tag g = tr) (h5 : ∀ i, i < n → ∀ g, (F i).v.ownBlock = some g → tag g = tv) (hc : Cw 0 w' y a b c d u s'.ep s'.mark lv n F) (hct : s'.ct = s.ct) (O : Only (fun g => g = y) w w') (t : Nat) :
    Dt w' (tagTo tag w.heap.size t) tr tv y a b c d u s' nn ∧ Only (fun g => tag g = tr) w w' := by
  refine ⟨⟨lv, n, F, h0, hc, by rw [hct]; exact h2, by rw [tagTo_old _ _ _ _ h1.lt]; exact h3, fun g hg => by rw [tagTo_old _ _ _ _ (h1.own.lt g hg).2]; exact h4 g hg, fun i hi g hg => by rw [tagTo_old _ _ _ _ ((h1.val i hi).lt g hg).2]; exact h5 i hi g hg⟩, O.mono fun g _ e => by rw [e]; exact h3⟩

theorem dt_seal (h : Dt w tag tr tv y a b c d u s nn) (e : Int) (t : Nat) :
    Calls Tryz.prog 48 #[.pointer (some ⟨y, 0, none⟩), .int .i64 e] w fun en w' => en = .returned (if e < s.ep then reply 5 s.ep 0 0 0 0 (.slice none 0 0) else reply 1 e 0 0 0 0 (.slice none 0 0)) ∧ Dt w' (tagTo tag w.heap.size t) tr tv y a b c d u (if e < s.ep then s else ⟨e, s.mark, s.ct⟩) nn ∧ Only (fun g => tag g = tr) w w' := by
  obtain ⟨lv, n, F, h0, h1, h2, h3, h4, h5⟩ := h
  refine (refSeal_any 0 y a b c d u s.ep s.mark lv n F e w h1).mono ?_
  rintro en w' ⟨rfl, hc, O⟩
  by_cases he : e < s.ep
  · rw [if_pos he] at hc
    simp only [sealR, he, if_true]
    exact ⟨trivial, Dt.set h0 h1 h2 h3 h4 h5 hc rfl O t⟩
  · rw [if_neg he] at hc
    simp only [sealR, he, if_false]
    exact ⟨trivial, Dt.set (s' := ⟨e, s.mark, s.ct⟩) h0 h1 h2 h3 h4 h5 hc rfl O t⟩
theorem dt_trim (h : Dt w tag tr tv y a b c d u s nn) (e m : Int) (t : Nat) :
    Calls Tryz.prog 46 #[.pointer (some ⟨y, 0, none⟩), .int .i64 e, .int .i64 m] w fun en w' => en = .returned (if e < s.ep then reply 5 s.ep 0 0 0 0 (.slice none 0 0) else reply 1 0 (if s.mark < m then m else s.mark) 0 0 0 (.slice none 0 0)) ∧ Dt w' (tagTo tag w.heap.size t) tr tv y a b c d u (if e < s.ep then s else ⟨e, if s.mark < m then m else s.mark, s.ct⟩) nn ∧ Only (fun g => tag g = tr) w w' := by
  obtain ⟨lv, n, F, h0, h1, h2, h3, h4, h5⟩ := h
  refine (refTrim_any 0 y a b c d u s.ep s.mark lv n F e m w h1).mono ?_
  rintro en w' ⟨rfl, hc, O⟩
  by_cases he : e < s.ep
  · rw [if_pos he, if_pos he] at hc
    simp only [he, if_true]
    exact ⟨trivial, Dt.set h0 h1 h2 h3 h4 h5 hc rfl O t⟩
  · rw [if_neg he, if_neg he] at hc
    simp only [he, if_false]
    exact ⟨trivial, Dt.set (s' := ⟨e, if s.mark < m then m else s.mark, s.ct⟩) h0 h1 h2 h3 h4 h5 hc rfl O t⟩
end
end Go.Proofs.YtkgjpfamjedncaaGreat

namespace Go.Proofs.YtkgjpfamjedncaaGreat
open Go.RowKit Go.Maps
section
variable {w w' : World} {tag tag' : Nat → Nat} {tr tv y : Nat} {a b c d u : Int} {s : St} {nn : Nat}

theorem look_not {a b c d u : Int} {mk : Int} {ct : Nat → Ct} {x : Int} (h : mineC a b c d u x = false) : lookC a b c d (u / b) mk ct x = (6, 0, ⟨0, 0, 0, []⟩) := by
  have hn : ¬ ((loc a b c d x).2.2 = 0 ∧ (loc a b c d x).1 = u / b) := fun e => by rw [(mineC_iff a b c d u x).2 e] at h; cases h
  unfold lookC
  rw [if_pos (by by_cases e : (loc a b c d x).2.2 = 0; exact .inr fun e' => hn ⟨e, e'⟩; exact .inl e)]
theorem look_mine {a b c d u : Int} {mk : Int} {ct : Nat → Ct} {x : Int} (h : mineC a b c d u x = true) : (lookC a b c d (u / b) mk ct x).1 ≠ 6 := by
  obtain ⟨h1, h2⟩ := (mineC_iff a b c d u x).1 h
  unfold lookC
  rw [if_neg (by rintro (e | e); exact e h1; exact e h2)]
  split
  · exact (show (4 : Int) ≠ 6 by decide)
  · split
    · exact (show (3 : Int) ≠ 6 by decide)
    · exact (show (2 : Int) ≠ 6 by decide)

/-- Both look alike; what is told is nothing, or a value that was written. -/
theorem Mt.told {a b c d u mk : Int} {n : Nat} {F : Nat → Wq} {ct : Nat → Ct} (h : Mt a b c d u n F ct) (x : Int) (hm : mineC a b c d u x = true) :
    ∃ v, lookR F x mk n = reply (lookC a b c d (u / b) mk ct x).1 0 (lookC a b c d (u / b) mk ct x).2.1 (lookC a b c d (u / b) mk ct x).2.2.kd (lookC a b c d (u / b) mk ct x).2.2.cl (lookC a b c d (u / b) mk ct x).2.2.ca v ∧ ((v = .slice none 0 0 ∧ (lookC a b c d (u / b) mk ct x).2.2.val = []) ∨ ∃ i, i < n ∧ v = (F i).v ∧ (lookC a b c d (u / b) mk ct x).2.2.val = (F i).ys) := by
  have hmm := (mineC_iff a b c d u x).1 hm
  have hno : ¬ ((loc a b c d x).2.2 ≠ 0 ∨ (loc a b c d x).1 ≠ u / b) := by
    rintro (e | e)
    · exact e hmm.1
    · exact e hmm.2
  unfold lookC
  rw [if_neg hno]
  unfold lookR
  cases hl : lk F x n with
  | none =>
    have hz := h.free x hm (lk_none F x n hl)
    unfold cel at hz
    rw [hz]
    by_cases hx : x < mk
    · rw [if_pos hx, if_pos hx]
      exact ⟨_, rfl, .inl ⟨rfl, rfl⟩⟩
    · rw [if_neg hx, if_neg hx, if_pos (show no0.kd = 0 from rfl)]
      exact ⟨_, rfl, .inl ⟨rfl, rfl⟩⟩
  | some i =>
    obtain ⟨hi, ha⟩ := lk_lt F x n i hl
    have hz := h.at' i hi
    rw [ha] at hz
    unfold cel at hz
    rw [hz]
    by_cases hx : x < mk
    · simp only [hx, if_true]
      exact ⟨.slice none 0 0, rfl, .inl (by simp)⟩
    · simp only [hx, if_false]
      rw [if_neg (h.con i hi)]
      exact ⟨_, rfl, .inr ⟨i, hi, rfl, rfl⟩⟩

/-- A value of the document's own, that is only read. -/
def Told (w : World) (tag : Nat → Nat) (tv : Nat) (v : Value) (ys : List Int) : Prop := (∃ va vc, v = .slice va ys.length vc) ∧ w.ownsRow 0 5 1 v ys.length (ys.map B8) ∧ ∀ g, v.ownBlock = some g → tag g = tv
theorem Told.nil (w : World) (tag : Nat → Nat) (tv : Nat) : Told w tag tv (.slice none 0 0) [] := ⟨⟨_, _, rfl⟩, World.ownsRow_nil _ _ _ _, fun g e => by simp [Value.ownBlock] at e⟩
theorem told_of {lv : Value} {n : Nat} {F : Nat → Wq} {ep mk : Int} {v : Value} {ys : List Int} {t : Nat} (h1 : Cw 0 w y a b c d u ep mk lv n F) (h5 : ∀ i, i < n → ∀ g, (F i).v.ownBlock = some g → tag g = tv) (hne : tv ≠ tr) (O : Only (fun g => tag g = tr) w w')
    (hv : (v = .slice none 0 0 ∧ ys = []) ∨ ∃ i, i < n ∧ v = (F i).v ∧ ys = (F i).ys) : Told w' (tagTo tag w.heap.size t) tv v ys := by
  rcases hv with ⟨rfl, rfl⟩ | ⟨i, hi, rfl, rfl⟩
  · exact Told.nil _ _ _
  · have hv := h1.val i hi
    obtain ⟨va, vc, e⟩ := (ownsRow_sl hv).len
    refine ⟨⟨va, vc, by simpa using e⟩, O.owns hv fun g hg e => ?_, fun g hg => ?_⟩
    · rw [h5 i hi g hg] at e; exact hne e
    · rw [tagTo_old _ _ _ _ (hv.lt g hg).2]; exact h5 i hi g hg

theorem dt_read (h : Dt w tag tr tv y a b c d u s nn) (hnn : nn ≤ 4000000) (hu : 0 ≤ u) (hu9 : u ≤ 1000) (hf : fit a b c d = true) (hne : tv ≠ tr) (e x : Int) (he : ¬ e < s.ep) (t : Nat) :
    Calls Tryz.prog 41 #[.pointer (some ⟨y, 0, none⟩), .int .i64 e, .int .i64 x] w fun en w' => ∃ v, en = .returned (reply (lookC a b c d (u / b) s.mark s.ct x).1 0 (lookC a b c d (u / b) s.mark s.ct x).2.1 (lookC a b c d (u / b) s.mark s.ct x).2.2.kd (lookC a b c d (u / b) s.mark s.ct x).2.2.cl (lookC a b c d (u / b) s.mark s.ct x).2.2.ca v) ∧ Told w' (tagTo tag w.heap.size t) tv v (lookC a b c d (u / b) s.mark s.ct x).2.2.val ∧ Dt w' (tagTo tag w.heap.size t) tr tv y a b c d u ⟨e, s.mark, s.ct⟩ nn ∧ Only (fun g => tag g = tr) w w' := by
  obtain ⟨lv, n, F, h0, h1, h2, h3, h4, h5⟩ := h
  refine (refRead_any 0 y a b c d u s.ep s.mark lv n F e x w h1 (by omega) hu hu9 hf).mono ?_
  rintro en w' ⟨rfl, hc, O⟩
  rw [if_neg he] at hc
  have hD := Dt.set (s' := ⟨e, s.mark, s.ct⟩) h0 h1 h2 h3 h4 h5 hc rfl O t
  unfold readR
  rw [if_neg he]
  cases hm : mineC a b c d u x
  · rw [look_not hm]
    exact ⟨_, rfl, Told.nil _ _ _, hD⟩
  · obtain ⟨v, e1, e2⟩ := h2.told (mk := s.mark) x hm
    simp only [if_true]
    rw [e1]
    exact ⟨v, rfl, told_of h1 h5 hne hD.2 e2, hD⟩
theorem dt_readOld (h : Dt w tag tr tv y a b c d u s nn) (hnn : nn ≤ 4000000) (hu : 0 ≤ u) (hu9 : u ≤ 1000) (hf : fit a b c d = true) (e x : Int) (he : e < s.ep) (t : Nat) :
    Calls Tryz.prog 41 #[.pointer (some ⟨y, 0, none⟩), .int .i64 e, .int .i64 x] w fun en w' => en = .returned (reply 5 s.ep 0 0 0 0 nilS) ∧ Dt w' (tagTo tag w.heap.size t) tr tv y a b c d u s nn ∧ Only (fun g => tag g = tr) w w' := by
  obtain ⟨lv, n, F, h0, h1, h2, h3, h4, h5⟩ := h
  refine (refRead_any 0 y a b c d u s.ep s.mark lv n F e x w h1 (by omega) hu hu9 hf).mono ?_
  rintro en w' ⟨rfl, hc, O⟩
  rw [if_pos he] at hc
  unfold readR
  rw [if_pos he]
  exact ⟨rfl, Dt.set h0 h1 h2 h3 h4 h5 hc rfl O t⟩

theorem dt_writeOld (h : Dt w tag tr tv y a b c d u s nn) (e x kd cl ca : Int) (va : Option Addr) (vn vc : Nat) (he : e < s.ep) (t : Nat) :
    Calls Tryz.prog 44 #[.pointer (some ⟨y, 0, none⟩), .int .i64 e, .int .i64 x, .agg #[.int .i64 kd, .int .i64 cl, .int .i64 ca, .slice va vn vc]] w fun en w' => en = .returned (reply 5 s.ep 0 0 0 0 nilS) ∧ Dt w' (tagTo tag w.heap.size t) tr tv y a b c d u s nn ∧ Only (fun g => tag g = tr) w w' := by
  obtain ⟨lv, n, F, h0, h1, h2, h3, h4, h5⟩ := h
  refine (refWriteOld_any 0 y a b c d u s.ep s.mark lv n F e x kd cl ca va vn vc w h1 he).mono ?_
  rintro en w' ⟨rfl, hc, O⟩
  exact ⟨rfl, Dt.set h0 h1 h2 h3 h4 h5 hc rfl O t⟩
theorem dt_writeNot (h : Dt w tag tr tv y a b c d u s nn) (hu : 0 ≤ u) (hu9 : u ≤ 1000) (hf : fit a b c d = true) (e x kd cl ca : Int) (va : Option Addr) (vn vc : Nat) (hvn : vn ≤ 40000000) (he : ¬ e < s.ep) (hno : mineC a b c d u x = false ∨ isC kd vn = false) (t : Nat) :
    Calls Tryz.prog 44 #[.pointer (some ⟨y, 0, none⟩), .int .i64 e, .int .i64 x, .agg #[.int .i64 kd, .int .i64 cl, .int .i64 ca, .slice va vn vc]] w fun en w' => en = .returned (reply 6 0 0 0 0 0 nilS) ∧ Dt w' (tagTo tag w.heap.size t) tr tv y a b c d u ⟨e, s.mark, s.ct⟩ nn ∧ Only (fun g => tag g = tr) w w' := by
  obtain ⟨lv, n, F, h0, h1, h2, h3, h4, h5⟩ := h
  refine (refWriteNo_any 0 y a b c d u s.ep s.mark lv n F e x kd cl ca va vn vc w h1 hu hu9 hf hvn he hno).mono ?_
  rintro en w' ⟨rfl, hc, O⟩
  exact ⟨rfl, Dt.set (s' := ⟨e, s.mark, s.ct⟩) h0 h1 h2 h3 h4 h5 hc rfl O t⟩
theorem dt_writeTold (h : Dt w tag tr tv y a b c d u s nn) (hnn : nn ≤ 4000000) (hu : 0 ≤ u) (hu9 : u ≤ 1000) (hf : fit a b c d = true) (hne : tv ≠ tr) (e x kd cl ca : Int) (va : Option Addr) (vn vc : Nat) (hvn : vn ≤ 40000000) (he : ¬ e < s.ep) (hic : isC kd vn = true) (hm : mineC a b c d u x = true) (hwh : (lookC a b c d (u / b) s.mark s.ct x).1 ≠ 3) (t : Nat) :
    Calls Tryz.prog 44 #[.pointer (some ⟨y, 0, none⟩), .int .i64 e, .int .i64 x, .agg #[.int .i64 kd, .int .i64 cl, .int .i64 ca, .slice va vn vc]] w fun en w' => ∃ v, en = .returned (reply (lookC a b c d (u / b) s.mark s.ct x).1 0 (lookC a b c d (u / b) s.mark s.ct x).2.1 (lookC a b c d (u / b) s.mark s.ct x).2.2.kd (lookC a b c d (u / b) s.mark s.ct x).2.2.cl (lookC a b c d (u / b) s.mark s.ct x).2.2.ca v) ∧ Told w' (tagTo tag w.heap.size t) tv v (lookC a b c d (u / b) s.mark s.ct x).2.2.val ∧ Dt w' (tagTo tag w.heap.size t) tr tv y a b c d u ⟨e, s.mark, s.ct⟩ nn ∧ Only (fun g => tag g = tr) w w' := by
  obtain ⟨lv, n, F, h0, h1, h2, h3, h4, h5⟩ := h
  obtain ⟨v, e1, e2⟩ := h2.told (mk := s.mark) x hm
  have hsl : ∃ sa sn sc, v = .slice sa sn sc := by
    rcases e2 with ⟨rfl, _⟩ | ⟨i, hi, rfl, _⟩
    · exact ⟨_, _, _, rfl⟩
    · obtain ⟨sa, sc, e⟩ := (ownsRow_sl (h1.val i hi)).len
      exact ⟨sa, _, sc, e⟩
  obtain ⟨sa, sn, sc, rfl⟩ := hsl
  refine (refWriteTold_any 0 y a b c d u s.ep s.mark lv n F e x kd cl ca va vn vc w h1 (by omega) hu hu9 hf hvn he hm hic _ _ _ _ _ sa sn sc e1 hwh).mono ?_
  rintro en w' ⟨rfl, hc, O⟩
  have hD := Dt.set (s' := ⟨e, s.mark, s.ct⟩) h0 h1 h2 h3 h4 h5 hc rfl O t
  exact ⟨_, rfl, told_of h1 h5 hne hD.2 e2, hD⟩
/-- Where nothing is told, nothing was written. -/
theorem Mt.empty {a b c d u mk : Int} {n : Nat} {F : Nat → Wq} {ct : Nat → Ct} (h : Mt a b c d u n F ct) (x : Int) (hm : mineC a b c d u x = true) (h3 : (lookC a b c d (u / b) mk ct x).1 = 3) :
    lookR F x mk n = reply 3 0 0 0 0 0 (.slice none 0 0) ∧ ∀ i, i < n → (F i).adr ≠ x := by
  have hmm := (mineC_iff a b c d u x).1 hm
  have hno : ¬ ((loc a b c d x).2.2 ≠ 0 ∨ (loc a b c d x).1 ≠ u / b) := by
    rintro (e | e)
    · exact e hmm.1
    · exact e hmm.2
  unfold lookC at h3
  rw [if_neg hno] at h3
  unfold lookR
  by_cases hx : x < mk
  · rw [if_pos hx] at h3
    exact absurd h3 (show ¬ (4 : Int) = 3 by decide)
  · rw [if_neg hx] at h3
    cases hl : lk F x n with
    | none =>
      simp only [hx, if_false]
      exact ⟨trivial, lk_none F x n hl⟩
    | some i =>
      obtain ⟨hi, ha⟩ := lk_lt F x n i hl
      have hz := h.at' i hi
      rw [ha] at hz
      unfold cel at hz
      rw [hz, if_neg (h.con i hi)] at h3
      exact absurd h3 (show ¬ (2 : Int) = 3 by decide)

/-- New blocks get a mark, but a value's another one. -/
def tagW (tag : Nat → Nat) (N i : Nat) (v : Value) (j : Nat) : Nat → Nat := fun b => if b < N then tag b else if v.ownBlock = some b then j else i
theorem tagW_old (tag : Nat → Nat) (N i : Nat) (v : Value) (j b : Nat) (h : b < N) : tagW tag N i v j b = tag b := by simp [tagW, h]
theorem tagW_own (tag : Nat → Nat) (N i : Nat) (v : Value) (j b : Nat) (h : N ≤ b) (hb : v.ownBlock = some b) : tagW tag N i v j b = j := by unfold tagW; rw [if_neg (by omega), if_pos hb]
theorem tagW_new (tag : Nat → Nat) (N i : Nat) (v : Value) (j b : Nat) (h : N ≤ b) (hb : v.ownBlock ≠ some b) : tagW tag N i v j b = i := by unfold tagW; rw [if_neg (by omega), if_neg hb]
theorem isC_kd {kd : Int} {n : Nat} (h : isC kd n = true) : kd ≠ 0 := by
  rintro rfl
  simp [isC] at h

theorem dt_writeNew (h : Dt w tag tr tv y a b c d u s nn) (hnn : nn ≤ 4000000) (hu : 0 ≤ u) (hu9 : u ≤ 1000) (hf : fit a b c d = true) (e x kd cl ca : Int) (va : Option Addr) (vc : Nat) (ys : List Int) (hv : Bs w (.slice va ys.length vc) (ys.map B8)) (hvb : ∀ g, (Value.slice va ys.length vc).ownBlock = some g → tag g ≠ tr) (hvn : ys.length ≤ 30000000) (he : ¬ e < s.ep) (hic : isC kd ys.length = true) (hm : mineC a b c d u x = true) (hlf : (lookC a b c d (u / b) s.mark s.ct x).1 = 3) (i : Nat) (hi : cel a b c d x = i) :
    Calls Tryz.prog 44 #[.pointer (some ⟨y, 0, none⟩), .int .i64 e, .int .i64 x, .agg #[.int .i64 kd, .int .i64 cl, .int .i64 ca, .slice va ys.length vc]] w fun en w' => ∃ v', en = .returned (reply 1 0 0 0 0 0 nilS) ∧ Dt w' (tagW tag w.heap.size tr v' tv) tr tv y a b c d u ⟨e, s.mark, fun j => if j = i then ⟨kd, cl, ca, ys⟩ else s.ct j⟩ (nn + 1) ∧ Only (fun g => tag g = tr) w w' := by
  obtain ⟨lv, n, F, h0, h1, h2, h3, h4, h5⟩ := h
  obtain ⟨e1, e2⟩ := h2.empty x hm hlf
  refine (refWriteYes_any 0 y a b c d u s.ep s.mark lv n F e x kd cl ca va vc ys w h1 (Nat.zero_le _) (by omega) hu hu9 hf hv (fun g hg => ⟨fun q => hvb g hg (by rw [q]; exact h3), fun q => hvb g hg (h4 g q)⟩) hvn he hm hic e1).mono ?_
  rintro en w' ⟨lv', v', rfl, hc, O, hl', hv'⟩
  have hlt := h1.lt
  have hvn : ∀ j, j < n → upW F n ⟨x, kd, cl, ca, ys, v'⟩ j = F j := fun j hj => by unfold upW; rw [if_neg (by omega)]
  have hvl : upW F n ⟨x, kd, cl, ca, ys, v'⟩ n = ⟨x, kd, cl, ca, ys, v'⟩ := by unfold upW; rw [if_pos rfl]
  refine ⟨v', rfl, ⟨lv', n + 1, _, by omega, hc, h2.push ⟨x, kd, cl, ca, ys, v'⟩ hm (isC_kd hic) e2 i hi, by rw [tagW_old _ _ _ _ _ _ hlt]; exact h3, fun g hg => ?_, fun j hj g hg => ?_⟩, O.mono fun g _ q => ?_⟩
  · rcases hl' g hg with q | q
    · rw [tagW_old _ _ _ _ _ _ (h1.own.lt g q).2]; exact h4 g q
    · refine tagW_new _ _ _ _ _ _ q fun q' => ?_
      have hvv := hc.val n (by omega)
      rw [hvl] at hvv
      exact ownsRow_type hvv hc.own (by decide) g q' hg
  · by_cases ej : j < n
    · rw [hvn j ej] at hg
      rw [tagW_old _ _ _ _ _ _ ((h1.val j ej).lt g hg).2]
      exact h5 j ej g hg
    · obtain rfl : j = n := by omega
      rw [hvl] at hg
      exact tagW_own _ _ _ _ _ _ (hv' g hg) hg
  · rcases q with rfl | q
    · exact h3
    · exact h4 g q
end
end Go.Proofs.YtkgjpfamjedncaaGreat
