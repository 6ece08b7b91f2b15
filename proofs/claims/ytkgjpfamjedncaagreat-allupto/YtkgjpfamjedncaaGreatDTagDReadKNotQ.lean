-- The document's cells, whose blocks bear the marks of a unit.
-- The document's cells with marks: reading and writing.
-- A content that may not be, however long: a unit refuses it.
import Derived.Test.YtkgjpfamjedncaaGreatMatchVTagOpenCWrapQ
import Derived.Test.YtkgjpfamjedncaaGreatFurKTagFurBKSpecKWriteQ
namespace Go.Proofs.YtkgjpfamjedncaaGreat
open Go.RowKit Go.Maps

/-- The document's cells in block y: its own blocks bear tr, the values tv; they have s. -/
def Dt (w : World) (tag : Nat → Nat) (tr tv y : Nat) (a b c d u : Int) (s : St) (nn : Nat) : Prop :=
  ∃ lv n F, n ≤ nn ∧ Cw 0 w y a b c d u s.ep s.mark lv n F ∧ Mt a b c d u n F s.ct ∧ tag y = tr ∧ (∀ g, lv.ownBlock = some g → tag g = tr) ∧ ∀ i, i < n → ∀ g, (F i).v.ownBlock = some g → tag g = tv
section
variable {w w' : World} {tag tag' : Nat → Nat} {tr tv y : Nat} {a b c d u : Int} {s : St} {nn : Nat}
theorem Dt.only {T : Nat → Prop} (h : Dt w tag tr tv y a b c d u s nn) (ho : Only T w w') (hs : ∀ g, g < w.heap.size → T g → tag g ≠ tr ∧ tag g ≠ tv) (ht : ∀ g, g < w.heap.size → tag' g = tag g) : Dt w' tag' tr tv y a b c d u s nn := by
  obtain ⟨lv, n, F, h0, h1, h2, h3, h4, h5⟩ := h
  exact ⟨lv, n, F, h0, h1.only ho (fun e => (hs y h1.lt e).1 h3) (fun g hg e => (hs g (h1.own.lt g hg).2 e).1 (h4 g hg)) (fun i hi g hg e => (hs g ((h1.val i hi).lt g hg).2 e).2 (h5 i hi g hg)), h2, by rw [ht y h1.lt]; exact h3, fun g hg => by rw [ht g (h1.own.lt g hg).2]; exact h4 g hg, fun i hi g hg => by rw [ht g ((h1.val i hi).lt g hg).2]; exact h5 i hi g hg⟩
/-- A call that turns the cells' own block alone. -/
theorem Dt.set {lv : Value} {n : Nat} {F : Nat → Wq} {s' : St} (h0 : n ≤ nn) (h1 : Cw 0 w y a b c d u s.ep s.mark lv n F) (h2 : Mt a b c d u n F s.ct) (h3 : tag y = tr) (h4 : ∀ g, lv.ownBlock = some g → tag g = tr) (h5 : ∀ i, i < n → ∀ g, (F i).v.ownBlock = some g → tag g = tv) (hc : Cw 0 w' y a b c d u s'.ep s'.mark lv n F) (hct : s'.ct = s.ct) (O : Only (fun g => g = y) w w') (t : Nat) :
    Dt w' (tagTo tag w.heap.size t) tr tv y a b c d u s' nn ∧ Only (fun g => tag g = tr) w w' := by
  refine ⟨⟨lv, n, F, h0, hc, by rw [hct]; exact h2, by rw [tagTo_old _ _ _ _ h1.lt]; exact h3, fun g hg => by rw [tagTo_old _ _ _ _ (h1.own.lt g hg).2]; exact h4 g hg, fun i hi g hg => by rw [tagTo_old _ _ _ _ ((h1.val i hi).lt g hg).2]; exact h5 i hi g hg⟩, O.mono fun g _ e => by rw [e]; exact h3⟩

theorem dt_seal (h : Dt w tag tr tv y a b c d u s nn) (e : Int) (t : Nat) :
    Calls Tryz.prog 48 #[.pointer (some ⟨y, 0, none⟩), .int .i64 e] w fun en w' => en = .returned (if e < s.ep then reply 5 s.ep 0 0 0 0 (.slice none 0 0) else reply 1 e 0 0 0 0 (.slice none 0 0)) ∧ Dt w' (tagTo tag w.heap.size t) tr tv y a b c d u (if e < s.ep then s else ⟨e, s.mark, s.ct⟩) nn ∧ Only (fun g => tag g = tr) w w' := by
  obtain ⟨lv, n, F, h0, h1, h2, h3, h4, h5⟩ := h
  refine (refSeal_any 0 y a b c d u s.ep s.mark lv n F e w h1).mono ?_
  rintro en w' ⟨rfl, hc, O⟩
  by_cases he : e < s.ep
  · rw [if_pos he] at hc
    simp only [sealR, he, if_true]
    exact ⟨trivial, Dt.set h0 h1 h2 h3 h4 h5 hc rfl O t⟩
  · rw [if_neg he] at hc
    simp only [sealR, he, if_false]
    exact ⟨trivial, Dt.set (s' := ⟨e, s.mark, s.ct⟩) h0 h1 h2 h3 h4 h5 hc rfl O t⟩
theorem dt_trim (h : Dt w tag tr tv y a b c d u s nn) (e m : Int) (t : Nat) :
    Calls Tryz.prog 46 #[.pointer (some ⟨y, 0, none⟩), .int .i64 e, .int .i64 m] w fun en w' => en = .returned (if e < s.ep then reply 5 s.ep 0 0 0 0 (.slice none 0 0) else reply 1 0 (if s.mark < m then m else s.mark) 0 0 0 (.slice none 0 0)) ∧ Dt w' (tagTo tag w.heap.size t) tr tv y a b c d u (if e < s.ep then s else ⟨e, if s.mark < m then m else s.mark, s.ct⟩) nn ∧ Only (fun g => tag g = tr) w w' := by
  obtain ⟨lv, n, F, h0, h1, h2, h3, h4, h5⟩ := h
  refine (refTrim_any 0 y a b c d u s.ep s.mark lv n F e m w h1).mono ?_
  rintro en w' ⟨rfl, hc, O⟩
  by_cases he : e < s.ep
  · rw [if_pos he, if_pos he] at hc
    simp only [he, if_true]
    exact ⟨trivial, Dt.set h0 h1 h2 h3 h4 h5 hc rfl O t⟩
  · rw [if_neg he, if_neg he] at hc
    simp only [he, if_false]
    exact ⟨trivial, Dt.set (s' := ⟨e, if s.mark < m then m else s.mark, s.ct⟩) h0 h1 h2 h3 h4 h5 hc rfl O t⟩
end
end Go.Proofs.YtkgjpfamjedncaaGreat

namespace Go.Proofs.YtkgjpfamjedncaaGreat
open Go.RowKit Go.Maps
section
variable {w w' : World} {tag tag' : Nat → Nat} {tr tv y : Nat} {a b c d u : Int} {s : St} {nn : Nat}

theorem look_not {a b c d u : Int} {mk : Int} {ct : Nat → Ct} {x : Int} (h : mineC a b c d u x = false) : lookC a b c d (u / b) mk ct x = (6, 0, ⟨0, 0, 0, []⟩) := by
  have hn : ¬ ((loc a b c d x).2.2 = 0 ∧ (loc a b c d x).1 = u / b) := fun e => by rw [(mineC_iff a b c d u x).2 e] at h; cases h
  unfold lookC
  rw [if_pos (by by_cases e : (loc a b c d x).2.2 = 0; exact .inr fun e' => hn ⟨e, e'⟩; exact .inl e)]
theorem look_mine {a b c d u : Int} {mk : Int} {ct : Nat → Ct} {x : Int} (h : mineC a b c d u x = true) : (lookC a b c d (u / b) mk ct x).1 ≠ 6 := by
  obtain ⟨h1, h2⟩ := (mineC_iff a b c d u x).1 h
  unfold lookC
  rw [if_neg (by rintro (e | e); exact e h1; exact e h2)]
  split
  · exact (show (4 : Int) ≠ 6 by decide)
  · split
    · exact (show (3 : Int) ≠ 6 by decide)
    · exact (show (2 : Int) ≠ 6 by decide)

/-- Both look alike; what is told is nothing, or a value that was written. -/
theorem Mt.told {a b c d u mk : Int} {n : Nat} {F : Nat → Wq} {ct : Nat → Ct} (h : Mt a b c d u n F ct) (x : Int) (hm : mineC a b c d u x = true) :
    ∃ v, lookR F x mk n = reply (lookC a b c d (u / b) mk ct x).1 0 (lookC a b c d (u / b) mk ct x).2.1 (lookC a b c d (u / b) mk ct x).2.2.kd (lookC a b c d (u / b) mk ct x).2.2.cl (lookC a b c d (u / b) mk ct x).2.2.ca v ∧ ((v = .slice none 0 0 ∧ (lookC a b c d (u / b) mk ct x).2.2.val = []) ∨ ∃ i, i < n ∧ v = (F i).v ∧ (lookC a b c d (u / b) mk ct x).2.2.val = (F i).ys) := by
  have hmm := (mineC_iff a b c d u x).1 hm
  have hno : ¬ ((loc a b c d x).2.2 ≠ 0 ∨ (loc a b c d x).1 ≠ u / b) := by
    rintro (e | e)
    · exact e hmm.1
    · exact e hmm.2
  unfold lookC
  rw [if_neg hno]
  unfold lookR
  cases hl : lk F x n with
  | none =>
    have hz := h.free x hm (lk_none F x n hl)
    unfold cel at hz
    rw [hz]
    by_cases hx : x < mk
    · rw [if_pos hx, if_pos hx]
      exact ⟨_, rfl, .inl ⟨rfl, rfl⟩⟩
    · rw [if_neg hx, if_neg hx, if_pos (show no0.kd = 0 from rfl)]
      exact ⟨_, rfl, .inl ⟨rfl, rfl⟩⟩
  | some i =>
    obtain ⟨hi, ha⟩ := lk_lt F x n i hl
    have hz := h.at' i hi
    rw [ha] at hz
    unfold cel at hz
    rw [hz]
    by_cases hx : x < mk
    · simp only [hx, if_true]
      exact ⟨.slice none 0 0, rfl, .inl (by simp)⟩
    · simp only [hx, if_false]
      rw [if_neg (h.con i hi)]
      exact ⟨_, rfl, .inr ⟨i, hi, rfl, rfl⟩⟩

/-- A value of the document's own, that is only read. -/
def Told (w : World) (tag : Nat → Nat) (tv : Nat) (v : Value) (ys : List Int) : Prop := (∃ va vc, v = .slice va ys.length vc) ∧ w.ownsRow 0 5 1 v ys.length (ys.map B8) ∧ ∀ g, v.ownBlock = some g → tag g = tv
theorem Told.nil (w : World) (tag : Nat → Nat) (tv : Nat) : Told w tag tv (.slice none 0 0) [] := ⟨⟨_, _, rfl⟩, World.ownsRow_nil _ _ _ _, fun g e => by simp [Value.ownBlock] at e⟩
theorem told_of {lv : Value} {n : Nat} {F : Nat → Wq} {ep mk : Int} {v : Value} {ys : List Int} {t : Nat} (h1 : Cw 0 w y a b c d u ep mk lv n F) (h5 : ∀ i, i < n → ∀ g, (F i).v.ownBlock = some g → tag g = tv) (hne : tv ≠ tr) (O : Only (fun g => tag g = tr) w w')
    (hv : (v = .slice none 0 0 ∧ ys = []) ∨ ∃ i, i < n ∧ v = (F i).v ∧ ys = (F i).ys) : Told w' (tagTo tag w.heap.size t) tv v ys := by
  rcases hv with ⟨rfl, rfl⟩ | ⟨i, hi, rfl, rfl⟩
  · exact Told.nil _ _ _
  · have hv := h1.val i hi
    obtain ⟨va, vc, e⟩ := (ownsRow_sl hv).len
    refine ⟨⟨va, vc, by simpa using e⟩, O.owns hv fun g hg e => ?_, fun g hg => ?_⟩
    · rw [h5 i hi g hg] at e; exact hne e
    · rw [tagTo_old _ _ _ _ (hv.lt g hg).2]; exact h5 i hi g hg

theorem dt_read (h : Dt w tag tr tv y a b c d u s nn) (hnn : nn ≤ 4000000) (hu : 0 ≤ u) (hu9 : u ≤ 1000) (hf : fit a b c d = true) (hne : tv ≠ tr) (e x : Int) (he : ¬ e < s.ep) (t : Nat) :
    Calls Tryz.prog 41 #[.pointer (some ⟨y, 0, none⟩), .int .i64 e, .int .i64 x] w fun en w' => ∃ v, en = .returned (reply (lookC a b c d (u / b) s.mark s.ct x).1 0 (lookC a b c d (u / b) s.mark s.ct x).2.1 (lookC a b c d (u / b) s.mark s.ct x).2.2.kd (lookC a b c d (u / b) s.mark s.ct x).2.2.cl (lookC a b c d (u / b) s.mark s.ct x).2.2.ca v) ∧ Told w' (tagTo tag w.heap.size t) tv v (lookC a b c d (u / b) s.mark s.ct x).2.2.val ∧ Dt w' (tagTo tag w.heap.size t) tr tv y a b c d u ⟨e, s.mark, s.ct⟩ nn ∧ Only (fun g => tag g = tr) w w' := by
  obtain ⟨lv, n, F, h0, h1, h2, h3, h4, h5⟩ := h
  refine (refRead_any 0 y a b c d u s.ep s.mark lv n F e x w h1 (by omega) hu hu9 hf).mono ?_
  rintro en w' ⟨rfl, hc, O⟩
  rw [if_neg he] at hc
  have hD := Dt.set (s' := ⟨e, s.mark, s.ct⟩) h0 h1 h2 h3 h4 h5 hc rfl O t
  unfold readR
  rw [if_neg he]
  cases hm : mineC a b c d u x
  · rw [look_not hm]
    exact ⟨_, rfl, Told.nil _ _ _, hD⟩
  · obtain ⟨v, e1, e2⟩ := h2.told (mk := s.mark) x hm
    simp only [if_true]
    rw [e1]
    exact ⟨v, rfl, told_of h1 h5 hne hD.2 e2, hD⟩
theorem dt_readOld (h : Dt w tag tr tv y a b c d u s nn) (hnn : nn ≤ 4000000) (hu : 0 ≤ u) (hu9 : u ≤ 1000) (hf : fit a b c d = true) (e x : Int) (he : e < s.ep) (t : Nat) :
    Calls Tryz.prog 41 #[.pointer (some ⟨y, 0, none⟩), .int .i64 e, .int .i64 x] w fun en w' => en = .returned (reply 5 s.ep 0 0 0 0 nilS) ∧ Dt w' (tagTo tag w.heap.size t) tr tv y a b c d u s nn ∧ Only (fun g => tag g = tr) w w' := by
  obtain ⟨lv, n, F, h0, h1, h2, h3, h4, h5⟩ := h
  refine (refRead_any 0 y a b c d u s.ep s.mark lv n F e x w h1 (by omega) hu hu9 hf).mono ?_
  rintro en w' ⟨rfl, hc, O⟩
  rw [if_pos he] at hc
  unfold readR
  rw [if_pos he]
  exact ⟨rfl, Dt.set h0 h1 h2 h3 h4 h5 hc rfl O t⟩

theorem dt_writeOld (h : Dt w tag tr tv y a b c d u s nn) (e x kd cl ca : Int) (va : Option Addr) (vn vc : Nat) (he : e < s.ep) (t : Nat) :
    Calls Tryz.prog 44 #[.pointer (some ⟨y, 0, none⟩), .int .i64 e, .int .i64 x, .agg #[.int .i64 kd, .int .i64 cl, .int .i64 ca, .slice va vn vc]] w fun en w' => en = .returned (reply 5 s.ep 0 0 0 0 nilS) ∧ Dt w' (tagTo tag w.heap.size t) tr tv y a b c d u s nn ∧ Only (fun g => tag g = tr) w w' := by
  obtain ⟨lv, n, F, h0, h1, h2, h3, h4, h5⟩ := h
  refine (refWriteOld_any 0 y a b c d u s.ep s.mark lv n F e x kd cl ca va vn vc w h1 he).mono ?_
  rintro en w' ⟨rfl, hc, O⟩
  exact ⟨rfl, Dt.set h0 h1 h2 h3 h4 h5 hc rfl O t⟩
theorem dt_writeNot (h : Dt w tag tr tv y a b c d u s nn) (hu : 0 ≤ u) (hu9 : u ≤ 1000) (hf : fit a b c d = true) (e x kd cl ca : Int) (va : Option Addr) (vn vc : Nat) (hvn : vn ≤ 40000000) (he : ¬ e < s.ep) (hno : mineC a b c d u x = false ∨ isC kd vn = false) (t : Nat) :
    Calls Tryz.prog 44 #[.pointer (some ⟨y, 0, none⟩), .int .i64 e, .int .i64 x, .agg #[.int .i64 kd, .int .i64 cl, .int .i64 ca, .slice va vn vc]] w fun en w' => en = .returned (reply 6 0 0 0 0 0 nilS) ∧ Dt w' (tagTo tag w.heap.size t) tr tv y a b c d u ⟨e, s.mark, s.ct⟩ nn ∧ Only (fun g => tag g = tr) w w' := by
  obtain ⟨lv, n, F, h0, h1, h2, h3, h4, h5⟩ := h
  refine (refWriteNo_any 0 y a b c d u s.ep s.mark lv n F e x kd cl ca va vn vc w h1 hu hu9 hf hvn he hno).mono ?_
  rintro en w' ⟨rfl, hc, O⟩
  exact ⟨rfl, Dt.set (s' := ⟨e, s.mark, s.ct⟩) h0 h1 h2 h3 h4 h5 hc rfl O t⟩
theorem dt_writeTold (h : Dt w tag tr tv y a b c d u s nn) (hnn : nn ≤ 4000000) (hu : 0 ≤ u) (hu9 : u ≤ 1000) (hf : fit a b c d = true) (hne : tv ≠ tr) (e x kd cl ca : Int) (va : Option Addr) (vn vc : Nat) (hvn : vn ≤ 40000000) (he : ¬ e < s.ep) (hic : isC kd vn = true) (hm : mineC a b c d u x = true) (hwh : (lookC a b c d (u / b) s.mark s.ct x).1 ≠ 3) (t : Nat) :
    Calls Tryz.prog 44 #[.pointer (some ⟨y, 0, none⟩), .int .i64 e, .int .i64 x, .agg #[.int .i64 kd, .int .i64 cl, .int .i64 ca, .slice va vn vc]] w fun en w' => ∃ v, en = .returned (reply (lookC a b c d (u / b) s.mark s.ct x).1 0 (lookC a b c d (u / b) s.mark s.ct x).2.1 (lookC a b c d (u / b) s.mark s.ct x).2.2.kd (lookC a b c d (u / b) s.mark s.ct x).2.2.cl (lookC a b c d (u / b) s.mark s.ct x).2.2.ca v) ∧ Told w' (tagTo tag w.heap.size t) tv v (lookC a b c d (u / b) s.mark s.ct x).2.2.val ∧ Dt w' (tagTo tag w.heap.size t) tr tv y a b c d u ⟨e, s.mark, s.ct⟩ nn ∧ Only (fun g => tag g = tr) w w' := by
  obtain ⟨lv, n, F, h0, h1, h2, h3, h4, h5⟩ := h
  obtain ⟨v, e1, e2⟩ := h2.told (mk := s.mark) x hm
  have hsl : ∃ sa sn sc, v = .slice sa sn sc := by
    rcases e2 with ⟨rfl, _⟩ | ⟨i, hi, rfl, _⟩
    · exact ⟨_, _, _, rfl⟩
    · obtain ⟨sa, sc, e⟩ := (ownsRow_sl (h1.val i hi)).len
      exact ⟨sa, _, sc, e⟩
  obtain ⟨sa, sn, sc, rfl⟩ := hsl
  refine (refWriteTold_any 0 y a b c d u s.ep s.mark lv n F e x kd cl ca va vn vc w h1 (by omega) hu hu9 hf hvn he hm hic _ _ _ _ _ sa sn sc e1 hwh).mono ?_
  rintro en w' ⟨rfl, hc, O⟩
  have hD := Dt.set (s' := ⟨e, s.mark, s.ct⟩) h0 h1 h2 h3 h4 h5 hc rfl O t
  exact ⟨_, rfl, told_of h1 h5 hne hD.2 e2, hD⟩
/-- Where nothing is told, nothing was written. -/
theorem Mt.empty {a b c d u mk : Int} {n : Nat} {F : Nat → Wq} {ct : Nat → Ct} (h : Mt a b c d u n F ct) (x : Int) (hm : mineC a b c d u x = true) (h3 : (lookC a b c d (u / b) mk ct x).1 = 3) :
    lookR F x mk n = reply 3 0 0 0 0 0 (.slice none 0 0) ∧ ∀ i, i < n → (F i).adr ≠ x := by
  have hmm := (mineC_iff a b c d u x).1 hm
  have hno : ¬ ((loc a b c d x).2.2 ≠ 0 ∨ (loc a b c d x).1 ≠ u / b) := by
    rintro (e | e)
    · exact e hmm.1
    · exact e hmm.2
  unfold lookC at h3
  rw [if_neg hno] at h3
  unfold lookR
  by_cases hx : x < mk
  · rw [if_pos hx] at h3
    exact absurd h3 (show ¬ (4 : Int) = 3 by decide)
  · rw [if_neg hx] at h3
    cases hl : lk F x n with
    | none =>
      simp only [hx, if_false]
      exact ⟨trivial, lk_none F x n hl⟩
    | some i =>
      obtain ⟨hi, ha⟩ := lk_lt F x n i hl
      have hz := h.at' i hi
      rw [ha] at hz
      unfold cel at hz
      rw [hz, if_neg (h.con i hi)] at h3
      exact absurd h3 (show ¬ (2 : Int) = 3 by decide)

/-- New blocks get a mark, but a value's another one. -/
def tagW (tag : Nat → Nat) (N i : Nat) (v : Value) (j : Nat) : Nat → Nat := fun b => if b < N then tag b else if v.ownBlock = some b then j else i
theorem tagW_old (tag : Nat → Nat) (N i : Nat) (v : Value) (j b : Nat) (h : b < N) : tagW tag N i v j b = tag b := by simp [tagW, h]
theorem tagW_own (tag : Nat → Nat) (N i : Nat) (v : Value) (j b : Nat) (h : N ≤ b) (hb : v.ownBlock = some b) : tagW tag N i v j b = j := by unfold tagW; rw [if_neg (by omega), if_pos hb]
theorem tagW_new (tag : Nat → Nat) (N i : Nat) (v : Value) (j b : Nat) (h : N ≤ b) (hb : v.ownBlock ≠ some b) : tagW tag N i v j b = i := by unfold tagW; rw [if_neg (by omega), if_neg hb]
theorem isC_kd {kd : Int} {n : Nat} (h : isC kd n = true) : kd ≠ 0 := by
  rintro rfl
  simp [isC] at h

theorem dt_writeNew (h : Dt w tag tr tv y a b c d u s nn) (hnn : nn ≤ 4000000) (hu : 0 ≤ u) (hu9 : u ≤ 1000) (hf : fit a b c d = true) (e x kd cl ca : Int) (va : Option Addr) (vc : Nat) (ys : List Int) (hv : Bs w (.slice va ys.length vc) (ys.map B8)) (hvb : ∀ g, (Value.slice va ys.length vc).ownBlock = some g → tag g ≠ tr) (hvn : ys.length ≤ 30000000) (he : ¬ e < s.ep) (hic : isC kd ys.length = true) (hm : mineC a b c d u x = true) (hlf : (lookC a b c d (u / b) s.mark s.ct x).1 = 3) (i : Nat) (hi : cel a b c d x = i) :
    Calls Tryz.prog 44 #[.pointer (some ⟨y, 0, none⟩), .int .i64 e, .int .i64 x, .agg #[.int .i64 kd, .int .i64 cl, .int .i64 ca, .slice va ys.length vc]] w fun en w' => ∃ v', en = .returned (reply 1 0 0 0 0 0 nilS) ∧ Dt w' (tagW tag w.heap.size tr v' tv) tr tv y a b c d u ⟨e, s.mark, fun j => if j = i then ⟨kd, cl, ca, ys⟩ else s.ct j⟩ (nn + 1) ∧ Only (fun g => tag g = tr) w w' := by
  obtain ⟨lv, n, F, h0, h1, h2, h3, h4, h5⟩ := h
  obtain ⟨e1, e2⟩ := h2.empty x hm hlf
  refine (refWriteYes_any 0 y a b c d u s.ep s.mark lv n F e x kd cl ca va vc ys w h1 (Nat.zero_le _) (by omega) hu hu9 hf hv (fun g hg => ⟨fun q => hvb g hg (by rw [q]; exact h3), fun q => hvb g hg (h4 g q)⟩) hvn he hm hic e1).mono ?_
  rintro en w' ⟨lv', v', rfl, hc, O, hl', hv'⟩
  have hlt := h1.lt
  have hvn : ∀ j, j < n → upW F n ⟨x, kd, cl, ca, ys, v'⟩ j = F j := fun j hj => by unfold upW; rw [if_neg (by omega)]
  have hvl : upW F n ⟨x, kd, cl, ca, ys, v'⟩ n = ⟨x, kd, cl, ca, ys, v'⟩ := by unfold upW; rw [if_pos rfl]
  refine ⟨v', rfl, ⟨lv', n + 1, _, by omega, hc, h2.push ⟨x, kd, cl, ca, ys, v'⟩ hm (isC_kd hic) e2 i hi, by rw [tagW_old _ _ _ _ _ _ hlt]; exact h3, fun g hg => ?_, fun j hj g hg => ?_⟩, O.mono fun g _ q => ?_⟩
  · rcases hl' g hg with q | q
    · rw [tagW_old _ _ _ _ _ _ (h1.own.lt g q).2]; exact h4 g q
    · refine tagW_new _ _ _ _ _ _ q fun q' => ?_
      have hvv := hc.val n (by omega)
      rw [hvl] at hvv
      exact ownsRow_type hvv hc.own (by decide) g q' hg
  · by_cases ej : j < n
    · rw [hvn j ej] at hg
      rw [tagW_old _ _ _ _ _ _ ((h1.val j ej).lt g hg).2]
      exact h5 j ej g hg
    · obtain rfl : j = n := by omega
      rw [hvl] at hg
      exact tagW_own _ _ _ _ _ _ (hv' g hg) hg
  · rcases q with rfl | q
    · exact h3
    · exact h4 g q
end
end Go.Proofs.YtkgjpfamjedncaaGreat

namespace Go.Proofs.YtkgjpfamjedncaaGreat
open Go.RowKit Go.Maps
attribute [local go_sem ↓] Go.wp_at_zero Go.wp_at_succ

set_option maxRecDepth 100000 in
set_option maxHeartbeats 2000000 in
theorem writeNot_big (base p : Nat) (a b c d ch ep mk : Int) (ct : Nat → Ct) (img : List Int) (K : Nat → Value) (ep' x kd cl ca : Int) (va : Option Addr) (vn vc : Nat) (w : World) (h : Ks base w p a b c d ch ep mk ct img K) (hb : base ≤ w.heap.size) (hl : img.length ≤ 30000000) (hct : ∀ i, i < 16 → (ct i).val.length ≤ 255) (hvn : vn ≤ 40000000)
    (he : ¬ ep' < ep) (wh m : Int) (t : Ct) (hlook : lookC a b c d ch mk ct x = (wh, m, t)) (hc : isC kd vn = false) :
    Calls Tryz.prog 75 #[.pointer (some ⟨p, 0, none⟩), .int .i64 ep', .int .i64 x, .agg #[.int .i64 kd, .int .i64 cl, .int .i64 ca, .slice va vn vc]] w fun e w' => ∃ K', e = .returned (reply 6 0 0 0 0 0 (.slice none 0 0)) ∧ Ks base w' p a b c d ch ep' mk ct (img ++ if ep' = ep then [] else recB 1 [ep'] []) K' ∧ Gk p K K' w w' := by
  have H := hid h
  have hp := h.at'.lt
  have c5 := h.at'.cell 5 (by decide)
  rw [h.k5] at c5
  have Hc := hid hc
  have HX := hid (Below.heap_alloc (w.alloc (.cells #[.int .i64 kd, .int .i64 cl, .int .i64 ca, .slice va vn vc] 42)) (.cells blank 98) w.heap.size (by simp))
  have bA := hid (((Bl.refl w).alloc (.cells #[.int .i64 kd, .int .i64 cl, .int .i64 ca, .slice va vn vc] 42)).alloc (.cells blank 98))
  have HN := hid (heap_alloc_new (w.alloc (.cells #[.int .i64 kd, .int .i64 cl, .int .i64 ca, .slice va vn vc] 42)) (.cells blank 98))
  rw [show (w.alloc (.cells #[.int .i64 kd, .int .i64 cl, .int .i64 ca, .slice va vn vc] 42)).heap.size = w.heap.size + 1 from by simp] at HN
  have HX0 := hid (HX.out.trans (heap_alloc_new w (.cells #[.int .i64 kd, .int .i64 cl, .int .i64 ca, .slice va vn vc] 42)))
  have HL := hid (look_any base p a b c d ch ep mk ct img K x _ (H.out.bl bA.out) hct)
  rw [hlook] at HL
  obtain ⟨tk, tl, ta, tv⟩ := t
  simp only at HL
  have HP : Hid (∀ W, Bl w W → _) := fun W hW => reach_any base p a b c d ch ep mk ct img K ep' W (H.out.bl hW) (Nat.le_trans hb hW.lt) hl
  generalize (img ++ if ep' = ep then [] else recB 1 [ep'] []) = img' at *
  clear h hc HX hct hlook
  go_enter Tryz.func75, Tryz.ntmps75
  go_wp2_with fail
  refine HL.out.mono ?_
  rintro e w1 ⟨v1, rfl, hv1, hb1⟩
  obtain ⟨va1, vc1, ev⟩ : ∃ a c, v1 = .slice a tv.length c := by
    obtain ⟨a', c', e'⟩ := (ownsRow_sl hv1).len
    rw [ownsRow_len hv1] at e'
    exact ⟨a', c', e'⟩
  subst ev
  have HX1 := hid ((hb1.heap (by simp; omega)).trans HX0.out)
  have HN1 := hid ((hb1.heap (by simp)).trans HN.out)
  have lN : w.heap.size + 1 < w1.heap.size := (Array.getElem?_eq_some_iff.1 HN1.out).1
  have x0 := cell_of_row w1 w.heap.size 0 _ 42 (0, 0) HX1.out
  have x1 := cell_of_row w1 w.heap.size 1 _ 42 (0, 0) HX1.out
  have x2 := cell_of_row w1 w.heap.size 2 _ 42 (0, 0) HX1.out
  have x3 := cell_of_row w1 w.heap.size 3 _ 42 (0, 0) HX1.out
  simp at x0 x1 x2 x3
  have HB1 := hid (bA.out.trans hb1)
  have lX : w.heap.size < w1.heap.size := by omega
  have HV1 : Hid (w1.ownsRow w.heap.size 5 1 (.slice va1 tv.length vc1) tv.length (tv.map B8)) := ownsRow_base hv1 (fun g hg => Nat.le_trans bA.out.lt (hv1.lt g hg).1)
  unfold reply
  clear hb1 hv1 HL HX0 HN
  go_wp2_with fail
  refine (isContent_any kd cl ca va vn vc _ (by omega)).mono ?_
  rw [Hc.out]
  rintro e w2 ⟨rfl, hb2⟩
  have bE := hid ((Bl.refl w1).alloc (.cells #[.int .i64 wh, .int .i64 0, .int .i64 m, .int .i64 tk, .int .i64 tl, .int .i64 ta, .slice va1 tv.length vc1] 98))
  have HY := hid (heap_alloc_new w1 (.cells #[.int .i64 wh, .int .i64 0, .int .i64 m, .int .i64 tk, .int .i64 tl, .int .i64 ta, .slice va1 tv.length vc1] 98))
  have b2 := hid (bE.out.trans hb2)
  have HY2 := hid ((hb2.heap (by simp)).trans HY.out)
  have y0 := cell_of_row w2 w1.heap.size 0 _ 98 (0, 0) HY2.out
  have g0 := frozen_of_row w2 w1.heap.size 0 _ 98 HY2.out
  have y1 := cell_of_row w2 w1.heap.size 1 _ 98 (0, 0) HY2.out
  have g1 := frozen_of_row w2 w1.heap.size 1 _ 98 HY2.out
  have y2 := cell_of_row w2 w1.heap.size 2 _ 98 (0, 0) HY2.out
  have g2 := frozen_of_row w2 w1.heap.size 2 _ 98 HY2.out
  have y3 := cell_of_row w2 w1.heap.size 3 _ 98 (0, 0) HY2.out
  have g3 := frozen_of_row w2 w1.heap.size 3 _ 98 HY2.out
  have y4 := cell_of_row w2 w1.heap.size 4 _ 98 (0, 0) HY2.out
  have g4 := frozen_of_row w2 w1.heap.size 4 _ 98 HY2.out
  have y5 := cell_of_row w2 w1.heap.size 5 _ 98 (0, 0) HY2.out
  have g5 := frozen_of_row w2 w1.heap.size 5 _ 98 HY2.out
  have y6 := cell_of_row w2 w1.heap.size 6 _ 98 (0, 0) HY2.out
  have g6 := frozen_of_row w2 w1.heap.size 6 _ 98 HY2.out
  simp at y0 y1 y2 y3 y4 y5 y6
  have HB2 := hid (HB1.out.trans b2.out)
  have HN2 := hid ((b2.out.heap lN).trans HN1.out)
  have lN2 := Nat.lt_of_lt_of_le lN b2.out.lt
  have lY2 : w1.heap.size < w2.heap.size := (Array.getElem?_eq_some_iff.1 HY2.out).1
  have O7 := hid (Only.set7 (w := w2) (S := fun b => b = w1.heap.size) rfl (.int .i64 6) (.int .i64 0) (.int .i64 0) (.int .i64 0) (.int .i64 0) (.int .i64 0) (.slice none 0 0))
  have HY7 := hid (set7_heap HY2.out (.int .i64 6) (.int .i64 0) (.int .i64 0) (.int .i64 0) (.int .i64 0) (.int .i64 0) (.slice none 0 0))
  have HB7 := hid (HB2.out.trans_only O7.out (fun g e => by omega))
  have Hrc := hid (HP.out _ HB7.out)
  have HN7 := hid ((O7.out.block _ lN2 (by omega)).trans HN2.out)
  clear hb2 x0 x1 x2 x3 HY bE
  go_wp2_with fail
  refine Hrc.out.mono ?_
  rintro e w3 ⟨K3, rfl, hk3, ho3, _⟩
  have hne : Hid (∀ g, w.heap.size ≤ g → ¬ (g = p ∨ (K 71).ownBlock = some g)) := by
    rintro g hg (e | e)
    · omega
    · have := (H.out.own.lt _ e).2; omega
  have HN3 := hid ((ho3.only.block _ (Nat.lt_of_lt_of_le lN2 O7.out.size) (hne.out _ (by omega))).trans HN7.out)
  have HY3 := hid ((ho3.only.block _ (Nat.lt_of_lt_of_le lY2 O7.out.size) (hne.out _ (by omega))).trans HY7.out)
  have HK3 := hid hk3
  have HO3 := hid (ho3.pre HB7.out)
  obtain ⟨n0, n1, n2, n3, n4, n5, n6, f0, f1, f2, f3, f4, f5, f6⟩ := blank_row HN3.out
  have z0 := cell_of_row w3 w1.heap.size 0 _ 98 (0, 0) HY3.out
  have z1 := cell_of_row w3 w1.heap.size 1 _ 98 (0, 0) HY3.out
  have z2 := cell_of_row w3 w1.heap.size 2 _ 98 (0, 0) HY3.out
  have z3 := cell_of_row w3 w1.heap.size 3 _ 98 (0, 0) HY3.out
  have z4 := cell_of_row w3 w1.heap.size 4 _ 98 (0, 0) HY3.out
  have z5 := cell_of_row w3 w1.heap.size 5 _ 98 (0, 0) HY3.out
  have z6 := cell_of_row w3 w1.heap.size 6 _ 98 (0, 0) HY3.out
  simp at z0 z1 z2 z3 z4 z5 z6
  clear hk3 ho3 Hrc
  go_wp2
  have F := Only.set7 (w := w3) (S := fun b => b = w.heap.size + 1) rfl (.int .i64 6) (.int .i64 0) (.int .i64 0) (.int .i64 0) (.int .i64 0) (.int .i64 0) (.slice none 0 0)
  exact bodyPost_ret (v := reply 6 0 0 0 0 0 (.slice none 0 0)) (by simp [results, Tryz.results75, go_sem, reply, n0, n1, n2, n3, n4, n5, n6]) rfl ⟨K3, rfl, HK3.out.other F HN3.out (by omega), HO3.out.new F (fun b e => by omega)⟩

theorem fwrite_notB (base p : Nat) (a b c d ch ep mk : Int) (ct : Nat → Ct) (img : List Int) (K : Nat → Value) (ep' x kd cl ca : Int) (va : Option Addr) (vn vc : Nat) (w : World) (h : Ks base w p a b c d ch ep mk ct img K) (hb : base ≤ w.heap.size) (hl : img.length ≤ 30000000) (hct : ∀ i, i < 16 → (ct i).val.length ≤ 255) (hvn : vn ≤ 40000000) (he : ¬ ep' < ep) (wh m : Int) (t : Ct) (hlook : lookC a b c d ch mk ct x = (wh, m, t)) (hc : isC kd vn = false) :
    Calls Tryz.prog 43 #[.pointer (some ⟨p, 0, none⟩), .int .i64 ep', .int .i64 x, .agg #[.int .i64 kd, .int .i64 cl, .int .i64 ca, .slice va vn vc]] w fun e w' => ∃ K', e = .returned (reply 6 0 0 0 0 0 nilS) ∧ Ks base w' p a b c d ch ep' mk ct (img ++ if ep' = ep then [] else recB 1 [ep'] []) K' ∧ Gk p K K' w w' := by
  refine (wrap_write p ep' x kd cl ca va vn vc w (fun wh1 ep1 mk1 kd cl ca v w1 => wh1 = 6 ∧ ep1 = 0 ∧ mk1 = 0 ∧ kd = 0 ∧ cl = 0 ∧ ca = 0 ∧ v = nilS ∧ ∃ K', Ks base w1 p a b c d ch ep' mk ct (img ++ if ep' = ep then [] else recB 1 [ep'] []) K' ∧ Gk p K K' w w1) ?_).mono ?_
  · intro W hW hs hN
    refine (writeNot_big base p a b c d ch ep mk ct img K ep' x kd cl ca va vn vc W (h.bl hW) (Nat.le_trans hb hW.lt) hl hct hvn he wh m t hlook hc).mono ?_
    rintro e w1 ⟨K', rfl, hk, ho⟩
    exact ⟨_, _, _, _, _, _, _, _, _, rfl, ⟨rfl, rfl, rfl, rfl, rfl, rfl, rfl, K', hk, ho.pre hW⟩, (ho.only.block _ (by omega) (h.ne (by omega))).trans hN⟩
  · rintro e w' ⟨_, _, _, _, _, _, v, w1, rfl, ⟨rfl, rfl, rfl, rfl, rfl, rfl, rfl, K', hk, ho⟩, hN, hO⟩
    have := h.at'.lt
    exact ⟨K', rfl, hk.other hO hN (by omega), ho.new hO (fun g e => by omega)⟩

section
variable {w : World} {tag : Nat → Nat} {tg p : Nat} {a b c d ch : Int} {rs : List Rc} {S : Nat → St}
theorem kp_writeNotB (h : Kt w tag tg p a b c d ch rs S) (e x kd cl ca : Int) (va : Option Addr) (vn vc : Nat) (hwf : (Lit.int .i64 e).wf = true) (hl : (flat rs).length ≤ 30000000) (hvn : vn ≤ 40000000) (he : ¬ e < (S rs.length).ep) (hc : isC kd vn = false) :
    Calls Tryz.prog 43 #[.pointer (some ⟨p, 0, none⟩), .int .i64 e, .int .i64 x, .agg #[.int .i64 kd, .int .i64 cl, .int .i64 ca, .slice va vn vc]] w fun en w' => ∃ rs' S', en = .returned (reply 6 0 0 0 0 0 nilS) ∧ MoreK rs S rs' S' ∧ S' rs'.length = ⟨e, (S rs.length).mark, (S rs.length).ct⟩ ∧ (flat rs').length ≤ (flat rs).length + 24 ∧ Kt w' (tagTo tag w.heap.size tg) tg p a b c d ch rs' S' ∧ Only (fun b => tag b = tg) w w' := by
  obtain ⟨K, hk, hw, hp, hg⟩ := h
  refine (fwrite_notB 0 p a b c d ch _ _ _ (flat rs) K e x kd cl ca va vn vc w hk (Nat.zero_le _) hl (hw.vals _ (Nat.le_refl _)) hvn he _ _ _ rfl hc).mono ?_
  rintro en w' ⟨K', rfl, hk', hG⟩
  obtain ⟨rs', S', r0, r1, r2, r3, r4⟩ := Kt.reach hk hw hp hg hwf he hk' hG
  refine ⟨rs', S', rfl, r0, r1, r2, ?_, r4⟩
  rw [← tagV_nil]
  exact r3 _ (nilS_own K')
end

set_option maxRecDepth 100000 in
set_option maxHeartbeats 1000000 in
theorem cellsOpen_no (a b c d x : Int) (v : Value) (w : World) (h : cha a b c d x = (0, 1)) :
    Calls Tryz.prog 67 #[.agg #[.int .i64 a, .int .i64 b, .int .i64 c, .int .i64 d], .int .i64 x, v] w fun e w' => e = .returned (.tuple #[.pointer none, .int .i64 1]) ∧ Bl w w' := by
  have HC : Hid (∀ w, Calls Tryz.prog 88 #[.agg #[.int .i64 a, .int .i64 b, .int .i64 c, .int .i64 d], .int .i64 x] w fun e w' => e = .returned (.tuple #[.int .i64 0, .int .i64 1]) ∧ Bl w w') := fun w => (chain_any a b c d x w).mono (by rintro e w' ⟨rfl, hb⟩; exact ⟨by rw [h]; rfl, hb⟩)
  have hA := (Bl.refl w).alloc (.cells #[.int .i64 a, .int .i64 b, .int .i64 c, .int .i64 d] 38)
  clear h
  go_enter Tryz.func67, Tryz.ntmps67
  go_wp2_with fail
  refine (HC.out _).mono ?_
  rintro e w' ⟨rfl, hb⟩
  go_wp2
  go_ret2
  exact ⟨rfl, hA.trans hb⟩

set_option maxRecDepth 100000 in
set_option maxHeartbeats 1000000 in
theorem openCells_no (a b c d x : Int) (v : Value) (w : World) (h : cha a b c d x = (0, 1)) :
    Calls Tryz.prog 29 #[.agg #[.int .i64 a, .int .i64 b, .int .i64 c, .int .i64 d], .int .i64 x, v] w fun e w' => e = .returned (.tuple #[.pointer none, .int .i64 1]) ∧ Bl w w' := by
  have HN := hid (fun w => cellsOpen_no a b c d x v w h)
  have hA := (Bl.refl w).alloc (.cells #[.int .i64 a, .int .i64 b, .int .i64 c, .int .i64 d] 38)
  clear h
  go_enter Tryz.func29, Tryz.ntmps29
  go_wp2_with fail
  refine (HN.out _).mono ?_
  rintro e w' ⟨rfl, hb⟩
  go_wp2
  go_ret2
  exact ⟨rfl, hA.trans hb⟩
end Go.Proofs.YtkgjpfamjedncaaGreat
