-- What all calls so far have told, without a program.
-- What all calls have told, behind each kind of call; the log that is held against them.
import Derived.Test.YtnhjmiglegdamaaGreatKGlue1KGlue2KOne0Q
import Derived.Test.YtnhjmiglegdamaaGreatKOne1Q
namespace Go.Proofs.YtnhjmiglegdamaaGreat
/-- What content a call tells of, and where. -/
def bd (c : PK) : Int × List Int × Bool := bindsP c.kind c.pos c.r.wh c.r.ad c.value c.r.val
/-- Below which address a call tells that all is trimmed. -/
def trB (c : PK) : Int := trimsP c.kind c.pos c.r.wh
def Bounds (c : PK) : Prop := KindOk c.kind ∧ c.fin ≠ 0 ∧ 0 ≤ c.pos ∧ c.pos ≤ 1000
def FitA (T : Int) (c : PK) : Prop := c.kind = 1 → c.r.val = [] ∧ c.tokens.length ≤ 1000 ∧ ((c.r.wh = 1 ∧ c.r.ad ∈ c.tokens ∧ 0 ≤ c.r.ad ∧ c.r.ad < T) ∨ (c.r.wh = 7 ∧ c.r.ad = 0 ∧ ∃ t ∈ c.tokens, T ≤ t))
def FitB (c : PK) : Prop := c.kind ≠ 1 → c.r.ad = 0 ∧ (c.r.val = [] ∨ c.r.wh = 8) ∧ ((c.kind = 2 ∧ (c.r.wh = 8 ∨ c.r.wh = 9 ∨ c.r.wh = 3 ∨ c.r.wh = 4)) ∨ (c.kind = 3 ∧ (c.r.wh = 8 ∨ c.r.wh = 9 ∨ c.r.wh = 4)) ∨ (c.kind = 4 ∧ c.r.wh = 1))
def Early (o c : PK) : Prop := o.beg < c.fin ∨ o.beg = c.beg
/-- All that the question 'can all calls be those of one log?' looks at. -/
structure OneOk (T : Int) (cs : List PK) : Prop where
  k : ∀ c ∈ cs, Bounds c
  fitA : ∀ c ∈ cs, FitA T c
  fitB : ∀ c ∈ cs, FitB c
  byt : ∀ c ∈ cs, (∀ d ∈ c.value, 0 ≤ d ∧ d ≤ 255) ∧ (∀ d ∈ c.r.val, 0 ≤ d ∧ d ≤ 255)
  uq : ∀ (i j : Nat) (c o : PK), cs[i]? = some c → cs[j]? = some o → c.kind = 1 → o.kind = 1 → c.value = o.value → i = j
  junk : ∀ c ∈ cs, ∀ a, bd c = (a, [], true) → ∃ (j : Nat) (o : PK), cs[j]? = some o ∧ o.kind = 3 ∧ o.pos = a ∧ Early o c
  mad : ∀ c ∈ cs, ∀ a v, v ≠ [] → bd c = (a, v, true) → ∃ (j : Nat) (o : PK), cs[j]? = some o ∧ o.kind = 1 ∧ o.value = v ∧ Early o c ∧ a ∈ o.tokens ∧ o.r.wh = 1 ∧ o.r.ad = a
  trm : ∀ c ∈ cs, c.kind ≠ 4 → trB c ≠ 0 → ∃ (j : Nat) (o : PK), cs[j]? = some o ∧ o.kind = 4 ∧ c.pos < o.pos ∧ o.beg < c.fin
  two : ∀ (i j : Nat) (c o : PK), cs[i]? = some c → cs[j]? = some o → i ≠ j → (bd c).2.2 = true → (bd o).2.2 = true → (((bd c).1 = (bd o).1 → (bd c).2.1 = (bd o).2.1) ∧ ((bd c).2.1 ≠ [] → (bd c).2.1 = (bd o).2.1 → (bd c).1 = (bd o).1)) ∧ ¬ (c.kind = 1 ∧ o.kind = 1 ∧ (bd c).1 = (bd o).1)
  goes : ∀ (i j : Nat) (c o : PK), cs[i]? = some c → cs[j]? = some o → o.fin < c.beg → GoesP o.kind o.pos o.r.wh o.r.ad o.value o.r.val c.kind c.pos c.r.wh c.r.ad
/-- L has what was told at a. -/
def Holds (L : Nat → Ct) (a : Int) (v : List Int) : Prop := ∃ x : Nat, a = x ∧ (v ≠ [] → (L x).kd = 8 ∧ (L x).val = v) ∧ (v = [] → (L x).kd = 9)
/-- A content of L was made. -/
def Made (cs : List PK) (L : Nat → Ct) (x : Nat) : Prop := ((L x).kd = 8 → ∃ (j : Nat) (o : PK), cs[j]? = some o ∧ o.kind = 1 ∧ o.value = (L x).val ∧ o.r.wh = 1 ∧ o.r.ad = x) ∧ ((L x).kd = 9 → ∃ (j : Nat) (o : PK), cs[j]? = some o ∧ o.kind = 3 ∧ o.pos = x)
structure Inv (T : Int) (cs : List PK) (now : Int) (L : Nat → Ct) (mark : Int) : Prop where
  k : ∀ c ∈ cs, Bounds c
  fitA : ∀ c ∈ cs, FitA T c
  fitB : ∀ c ∈ cs, FitB c
  ap : ∀ (j : Nat) (c : PK), cs[j]? = some c → if c.kind = 1 then c.value = valB j else c.value = []
  rb : ∀ c ∈ cs, ∀ d ∈ c.r.val, 0 ≤ d ∧ d ≤ 255
  trk : ∀ c ∈ cs, trB c ≤ mark
  tm : ∀ c ∈ cs, c.beg < c.fin ∧ c.fin ≤ now
  ord : ∀ (i j : Nat) (c o : PK), cs[i]? = some c → cs[j]? = some o → o.fin < c.beg → j < i
  lv : ∀ c ∈ cs, (bd c).2.2 = true → Holds L (bd c).1 (bd c).2.1
  made : ∀ x, Made cs L x
  km : 0 < mark → ∃ (j : Nat) (o : PK), cs[j]? = some o ∧ o.kind = 4 ∧ o.pos = mark
  junk : ∀ c ∈ cs, ∀ a, bd c = (a, [], true) → ∃ (j : Nat) (o : PK), cs[j]? = some o ∧ o.kind = 3 ∧ o.pos = a ∧ Early o c
  mad : ∀ c ∈ cs, ∀ a v, v ≠ [] → bd c = (a, v, true) → ∃ (j : Nat) (o : PK), cs[j]? = some o ∧ o.kind = 1 ∧ o.value = v ∧ Early o c ∧ a ∈ o.tokens ∧ o.r.wh = 1 ∧ o.r.ad = a
  trm : ∀ c ∈ cs, c.kind ≠ 4 → trB c ≠ 0 → ∃ (j : Nat) (o : PK), cs[j]? = some o ∧ o.kind = 4 ∧ c.pos < o.pos ∧ o.beg < c.fin
  goes : ∀ (i j : Nat) (c o : PK), cs[i]? = some c → cs[j]? = some o → j < i → GoesP o.kind o.pos o.r.wh o.r.ad o.value o.r.val c.kind c.pos c.r.wh c.r.ad
theorem valB_inj {i j : Nat} (h : valB i = valB j) : i = j := by simp [valB] at h; omega
theorem valB_ne (i : Int) : valB i ≠ [] := by simp [valB]
theorem push_cases {cs : List PK} {c : PK} {j : Nat} {o : PK} (h : (cs ++ [c])[j]? = some o) : (j < cs.length ∧ cs[j]? = some o) ∨ (j = cs.length ∧ o = c) := by
  by_cases hj : j < cs.length
  · rw [List.getElem?_append_left hj] at h; exact .inl ⟨hj, h⟩
  · have hl := (List.getElem?_eq_some_iff.1 h).1
    simp at hl
    have : j = cs.length := by omega
    subst this
    rw [List.getElem?_append_right (Nat.le_refl _)] at h
    simp at h
    exact .inr ⟨rfl, h.symm⟩
theorem push_old {cs : List PK} (c : PK) {j : Nat} {o : PK} (h : cs[j]? = some o) : (cs ++ [c])[j]? = some o := by
  rw [List.getElem?_append_left (List.getElem?_eq_some_iff.1 h).1]; exact h
theorem push_new (cs : List PK) (c : PK) : (cs ++ [c])[cs.length]? = some c := by
  rw [List.getElem?_append_right (Nat.le_refl _)]; simp
theorem push_mem {cs : List PK} {c o : PK} (h : o ∈ cs ++ [c]) : o ∈ cs ∨ o = c := by simpa using h
theorem inv_nil (T now : Int) : Inv T [] now (fun _ => no) 0 :=
  ⟨by simp, by simp, by simp, by simp, by simp, by simp, by simp, by simp, by simp, fun x => ⟨fun h => by simp [no] at h, fun h => by simp [no] at h⟩, fun h => by omega, by simp, by simp, by simp, by simp⟩
section
variable {T now : Int} {cs : List PK} {L : Nat → Ct} {mark : Int}
theorem Inv.later (h : Inv T cs now L mark) {now' : Int} (hn : now ≤ now') : Inv T cs now' L mark :=
  { h with tm := fun c hc => ⟨(h.tm c hc).1, by have := (h.tm c hc).2; omega⟩ }
/-- The question is answered yes. -/
theorem Inv.one (h : Inv T cs now L mark) (hl : cs.length ≤ 200) : OneOk T cs := by
  have hval : ∀ (j : Nat) (c : PK), cs[j]? = some c → c.kind = 1 → c.value = valB j := fun j c hc hk => by
    have := h.ap j c hc; rwa [if_pos hk] at this
  refine ⟨h.k, h.fitA, h.fitB, fun c hc => ⟨?_, h.rb c hc⟩, fun i j c o hi hj h1 h2 e => ?_, h.junk, h.mad, h.trm, fun i j c o hi hj hij hc ho => ?_, fun i j c o hi hj ht => h.goes i j c o hi hj (h.ord i j c o hi hj ht)⟩
  · obtain ⟨j, hj, rfl⟩ := List.mem_iff_getElem.1 hc
    have := h.ap j _ (List.getElem?_eq_getElem hj)
    split at this
    · rw [this]
      intro d hd
      simp [valB] at hd
      rcases hd with rfl | rfl | rfl <;> omega
    · rw [this]; simp
  · exact valB_inj (by rw [← hval i c hi h1, ← hval j o hj h2, e])
  · obtain ⟨x, e1, e2, e3⟩ := h.lv c (List.mem_of_getElem? hi) hc
    obtain ⟨y, f1, f2, f3⟩ := h.lv o (List.mem_of_getElem? hj) ho
    have hA : (bd c).1 = (bd o).1 → (bd c).2.1 = (bd o).2.1 := fun e => by
      have exy : x = y := by omega
      subst exy
      by_cases v1 : (bd c).2.1 = []
      · by_cases v2 : (bd o).2.1 = []
        · rw [v1, v2]
        · have := (f2 v2).1; have := e3 v1; omega
      · by_cases v2 : (bd o).2.1 = []
        · have := (e2 v1).1; have := f3 v2; omega
        · rw [← (e2 v1).2, ← (f2 v2).2]
    refine ⟨⟨hA, fun v1 e => ?_⟩, fun ⟨k1, k2, e⟩ => hij ?_⟩
    · have a1 := e2 v1
      have a2 := f2 (e ▸ v1)
      obtain ⟨j1, o1, p1, p2, p3, p4, p5⟩ := (h.made x).1 a1.1
      obtain ⟨j2, o2, q1, q2, q3, q4, q5⟩ := (h.made y).1 a2.1
      have : j1 = j2 := valB_inj (by rw [← hval _ _ p1 p2, ← hval _ _ q1 q2, p3, q3, a1.2, a2.2, e])
      subst this
      rw [p1] at q1
      simp only [Option.some.injEq] at q1
      subst q1
      omega
    · have e' := hA e
      have hb : ∀ c : PK, c.kind = 1 → (bd c).2.2 = true → (bd c).2.1 = c.value := fun c k hb => by
        unfold bd bindsP at hb ⊢
        rw [if_pos k] at hb ⊢
        split at hb
        · rw [if_pos (by assumption)]
        · simp at hb
      rw [hb c k1 hc, hb o k2 ho] at e'
      exact valB_inj (by rw [← hval _ _ hi k1, ← hval _ _ hj k2, e'])
/-- A call more. -/
theorem Inv.push (h : Inv T cs now L mark) {c : PK} {now' : Int} {L' : Nat → Ct} {mark' : Int} (hm0 : 0 ≤ mark)
    (h1 : Bounds c) (h2 : FitA T c) (h3 : FitB c) (h4 : if c.kind = 1 then c.value = valB cs.length else c.value = []) (h5 : ∀ d ∈ c.r.val, 0 ≤ d ∧ d ≤ 255)
    (h6 : now < c.beg ∧ c.beg < c.fin ∧ c.fin ≤ now') (h7 : mark ≤ mark') (h8 : trB c ≤ mark') (h9 : ∀ x, (L x).kd ≠ 0 → L' x = L x)
    (h10 : (bd c).2.2 = true → Holds L' (bd c).1 (bd c).2.1)
    (h11 : ∀ x, (L x).kd = 0 → (L' x).kd ≠ 0 → (c.kind = 1 ∧ c.r.wh = 1 ∧ c.r.ad = x ∧ (L' x).kd = 8 ∧ (L' x).val = c.value) ∨ (c.kind = 3 ∧ c.pos = x ∧ (L' x).kd = 9))
    (h12 : mark' = mark ∨ (c.kind = 4 ∧ c.pos = mark')) (h13 : c.kind = 1 → c.r.wh = 1 → mark ≤ c.r.ad) (h14 : c.kind = 2 ∨ c.kind = 3 → c.pos < mark → c.r.wh = 4)
    (h15 : c.kind = 2 ∨ c.kind = 3 → c.r.wh = 3 → ∀ x : Nat, c.pos = x → (L x).kd = 0) (h16 : c.kind = 2 ∨ c.kind = 3 → c.r.wh = 4 → c.pos < mark) :
    Inv T (cs ++ [c]) now' L' mark' := by
  have hmade : ∀ x, Made (cs ++ [c]) L' x := fun x => by
    by_cases hz : (L x).kd = 0
    · constructor
      · intro e
        rcases h11 x hz (by omega) with f | f
        · exact ⟨cs.length, c, push_new _ _, f.1, f.2.2.2.2.symm, f.2.1, f.2.2.1⟩
        · omega
      · intro e
        rcases h11 x hz (by omega) with f | f
        · omega
        · exact ⟨cs.length, c, push_new _ _, f.1, f.2.1⟩
    · rw [Made, h9 x hz]
      obtain ⟨a1, a2⟩ := h.made x
      exact ⟨fun e => by obtain ⟨j, o, p1, p2⟩ := a1 e; exact ⟨j, o, push_old c p1, p2⟩, fun e => by obtain ⟨j, o, p1, p2⟩ := a2 e; exact ⟨j, o, push_old c p1, p2⟩⟩
  have hear : ∀ (j : Nat) (o : PK), (cs ++ [c])[j]? = some o → Early o c := fun j o ho => by
    rcases push_cases ho with ⟨_, e⟩ | ⟨_, rfl⟩
    · have := h.tm o (List.mem_of_getElem? e)
      left; omega
    · exact .inr rfl
  refine ⟨?_, ?_, ?_, ?_, ?_, ?_, ?_, ?_, ?_, hmade, ?_, ?_, ?_, ?_, ?_⟩
  · intro o ho; rcases push_mem ho with e | rfl; exact h.k o e; exact h1
  · intro o ho; rcases push_mem ho with e | rfl; exact h.fitA o e; exact h2
  · intro o ho; rcases push_mem ho with e | rfl; exact h.fitB o e; exact h3
  · intro j o ho
    rcases push_cases ho with ⟨_, e⟩ | ⟨rfl, rfl⟩
    · exact h.ap j o e
    · exact h4
  · intro o ho; rcases push_mem ho with e | rfl; exact h.rb o e; exact h5
  · intro o ho
    rcases push_mem ho with e | rfl
    · have := h.trk o e; omega
    · exact h8
  · intro o ho
    rcases push_mem ho with e | rfl
    · have := h.tm o e; exact ⟨this.1, by omega⟩
    · exact h6.2
  · intro i j a o ha ho ht
    rcases push_cases ha with ⟨hi, ha1⟩ | ⟨rfl, rfl⟩
    · rcases push_cases ho with ⟨hj, ho1⟩ | ⟨rfl, rfl⟩
      · exact h.ord i j a o ha1 ho1 ht
      · have := h.tm a (List.mem_of_getElem? ha1); omega
    · rcases push_cases ho with ⟨hj, ho1⟩ | ⟨rfl, rfl⟩
      · exact hj
      · omega
  · intro o ho hb
    rcases push_mem ho with e | rfl
    · obtain ⟨x, e1, e2, e3⟩ := h.lv o e hb
      have hx : (L x).kd ≠ 0 := by
        by_cases v : (bd o).2.1 = []
        · have := e3 v; omega
        · have := (e2 v).1; omega
      exact ⟨x, e1, by rw [h9 x hx]; exact e2, by rw [h9 x hx]; exact e3⟩
    · exact h10 hb
  · intro hm
    rcases h12 with e | e
    · obtain ⟨j, o, p1, p2⟩ := h.km (by omega)
      exact ⟨j, o, push_old c p1, by rw [e]; exact p2⟩
    · exact ⟨cs.length, c, push_new _ _, e⟩
  · intro o ho a hb
    rcases push_mem ho with e | rfl
    · obtain ⟨j, o1, p1, p2⟩ := h.junk o e a hb
      exact ⟨j, o1, push_old c p1, p2⟩
    · obtain ⟨x, e1, _, e3⟩ := h10 (by rw [hb])
      rw [hb] at e1 e3
      obtain ⟨j, o1, p1, p2, p3⟩ := (hmade x).2 (e3 rfl)
      exact ⟨j, o1, p1, p2, by rw [p3]; exact e1.symm, hear j o1 p1⟩
  · intro o ho a v hv hb
    rcases push_mem ho with e | rfl
    · obtain ⟨j, o1, p1, p2⟩ := h.mad o e a v hv hb
      exact ⟨j, o1, push_old c p1, p2⟩
    · obtain ⟨x, e1, e2, _⟩ := h10 (by rw [hb])
      rw [hb] at e1 e2
      obtain ⟨j, o1, p1, p2, p3, p4, p5⟩ := (hmade x).1 (e2 hv).1
      have ho1 : FitA T o1 := by
        rcases push_mem (List.mem_of_getElem? p1) with e | rfl
        · exact h.fitA o1 e
        · exact h2
      have e1' : a = x := e1
      refine ⟨j, o1, p1, p2, by rw [p3]; exact (e2 hv).2, hear j o1 p1, ?_, p4, by rw [p5, e1']⟩
      rcases (ho1 p2).2.2 with f | f
      · rw [e1', ← p5]; exact f.2.1
      · omega
  · intro o ho hk ht
    rcases push_mem ho with e | rfl
    · obtain ⟨j, o1, p1, p2⟩ := h.trm o e hk ht
      exact ⟨j, o1, push_old c p1, p2⟩
    · have hw : (o.kind = 2 ∨ o.kind = 3) ∧ o.r.wh = 4 := by
        unfold trB trimsP at ht
        rw [if_neg hk] at ht
        split at ht
        · rename_i e
          refine ⟨?_, e.2⟩
          rcases h1.1 with f | f | f | f
          · exact absurd f e.1
          · exact .inl f
          · exact .inr f
          · exact absurd f hk
        · omega
      have hp := h16 hw.1 hw.2
      have h0 := h1.2.2.1
      obtain ⟨j, o1, p1, p2, p3⟩ := h.km (by omega)
      have := h.tm o1 (List.mem_of_getElem? p1)
      exact ⟨j, o1, push_old o p1, p2, by omega, by omega⟩
  · intro i j a o ha ho hij
    rcases push_cases ha with ⟨hi, ha1⟩ | ⟨rfl, rfl⟩
    · rcases push_cases ho with ⟨hj, ho1⟩ | ⟨rfl, rfl⟩
      · exact h.goes i j a o ha1 ho1 hij
      · omega
    · rcases push_cases ho with ⟨hj, ho1⟩ | ⟨rfl, rfl⟩
      · have hom := List.mem_of_getElem? ho1
        have ht : trB o ≤ mark := h.trk o hom
        unfold trB at ht
        refine ⟨fun k1 w1 => ?_, fun k2 hp => ?_, fun k2 _ hb hat hw => ?_⟩
        · have := h13 k1 w1; omega
        · exact h14 k2 (by omega)
        · obtain ⟨x, e1, e2, e3⟩ := h.lv o hom hb
          have e4 : (bd o).1 = a.pos := hat
          have hz := h15 k2 hw x (by omega)
          by_cases v : (bd o).2.1 = []
          · have := e3 v; omega
          · have := (e2 v).1; omega
      · omega
end
end Go.Proofs.YtnhjmiglegdamaaGreat

namespace Go.Proofs.YtnhjmiglegdamaaGreat
/-- The log's text of an address. -/
def logS (L : Nat → Ct) (a : Nat) : List Int := if (L a).kd = 0 then [] else if (L a).kd = 9 then [106] else (L a).val
/-- What is told of an address. -/
def seenS (s : List Int) (b : Bool) : Rz := if b = true then ⟨4, 0, []⟩ else if s = [] then ⟨3, 0, []⟩ else if s = [106] then ⟨9, 0, []⟩ else ⟨8, 0, s⟩
section
variable {T now : Int} {cs : List PK} {L : Nat → Ct} {mark : Int}
theorem LOk.three {k : Nat} (h : LOk L k) (x : Nat) : ((L x).kd = 0 ∧ (L x).val = []) ∨ ((L x).kd = 8 ∧ (L x).val ≠ []) ∨ ((L x).kd = 9 ∧ (L x).val = []) := by
  rcases h x with e | e
  · left; rw [e]; exact ⟨rfl, rfl⟩
  · have h1 := e.1
    rcases isC_kd h1 with k8 | k9
    · right; left
      refine ⟨k8, fun hv => ?_⟩
      rw [k8, hv] at h1
      simp [isC] at h1
    · right; right
      rw [k9] at h1
      exact ⟨k9, by simpa [isC] using h1⟩
theorem bd_see (a b f : Int) (kd : Int) (hk : kd = 2 ∨ kd = 3) (r : Rz) : bd ⟨kd, a, [], [], b, f, r⟩ = if r.wh = 8 then (a, r.val, true) else if r.wh = 9 then (a, [], true) else (0, [], false) := by
  unfold bd bindsP
  rw [if_neg (by simp only; omega), if_pos hk]
theorem Inv.see {kd : Int} (hk : kd = 2 ∨ kd = 3) {k : Nat} (h : Inv T cs now L mark) (hm0 : 0 ≤ mark) {L' : Nat → Ct} (hL' : LOk L' k) (hold : ∀ x, (L x).kd ≠ 0 → L' x = L x) {a : Nat} (hnew : ∀ x, (L x).kd = 0 → (L' x).kd ≠ 0 → kd = 3 ∧ a = x ∧ (L' x).kd = 9) (h3 : kd = 3 → ¬ (a : Int) < mark → (L' a).kd ≠ 0) (ha : a ≤ 1000) {b f now' : Int} (h6 : now < b ∧ b < f ∧ f ≤ now') (hf0 : f ≠ 0) {r : Rz} (hr : r = if (a : Int) < mark then ⟨4, 0, []⟩ else lookR L' a) :
    Inv T (cs ++ [⟨kd, a, [], [], b, f, r⟩]) now' L' mark := by
  have hwh : ((a : Int) < mark ∧ r = ⟨4, 0, []⟩) ∨ (¬ (a : Int) < mark ∧ (L' a).kd = 0 ∧ r = ⟨3, 0, []⟩) ∨ (¬ (a : Int) < mark ∧ (L' a).kd = 8 ∧ (L' a).val ≠ [] ∧ r = ⟨8, 0, (L' a).val⟩) ∨ (¬ (a : Int) < mark ∧ (L' a).kd = 9 ∧ r = ⟨9, 0, []⟩) := by
    by_cases e : (a : Int) < mark
    · rw [if_pos e] at hr; exact .inl ⟨e, hr⟩
    · rw [if_neg e] at hr
      right
      unfold lookR told at hr
      rcases hL'.three a with ⟨e1, e2⟩ | ⟨e1, e2⟩ | ⟨e1, e2⟩
      · rw [if_pos e1] at hr; exact .inl ⟨e, e1, hr⟩
      · rw [if_neg (by omega), e1] at hr; exact .inr (.inl ⟨e, e1, e2, hr⟩)
      · rw [if_neg (by omega), e1, e2] at hr; exact .inr (.inr ⟨e, e1, hr⟩)
  clear hr
  have hbyt := (hL'.ct a).byt
  have hnk : ¬ kd = 1 := by omega
  have hn4 : ¬ kd = 4 := by omega
  have hbd := bd_see a b f kd hk r
  have hkk : KindOk kd := by unfold KindOk; omega
  have htr : trB ⟨kd, a, [], [], b, f, r⟩ = if r.wh = 4 then (a : Int) + 1 else 0 := by
    unfold trB trimsP
    simp only
    rw [if_neg hn4]
    by_cases e : r.wh = 4
    · rw [if_pos ⟨hnk, e⟩, if_pos e]
    · rw [if_neg (fun f => e f.2), if_neg e]
  refine h.push hm0 ⟨hkk, hf0, Int.natCast_nonneg a, by simp only; omega⟩ (fun e => absurd e hnk) ?_ ?_ ?_ h6 (Int.le_refl _) ?_ hold ?_ ?_ (.inl rfl) (fun e => absurd e hnk) ?_ ?_ ?_
  · intro _
    rcases hwh with ⟨e, rfl⟩ | ⟨e, e1, rfl⟩ | ⟨e, e1, e2, rfl⟩ | ⟨e, e1, rfl⟩
    · exact ⟨rfl, .inl rfl, by simp; omega⟩
    · refine ⟨rfl, .inl rfl, ?_⟩
      have : kd ≠ 3 := fun e3 => h3 e3 e e1
      left; exact ⟨by simp only; omega, by simp⟩
    · exact ⟨rfl, .inr rfl, by simp; omega⟩
    · exact ⟨rfl, .inl rfl, by simp; omega⟩
  · rw [if_neg hnk]
  · rcases hwh with ⟨e, rfl⟩ | ⟨e, e1, rfl⟩ | ⟨e, e1, e2, rfl⟩ | ⟨e, e1, rfl⟩
    · simp
    · simp
    · exact hbyt
    · simp
  · rw [htr]
    rcases hwh with ⟨e, rfl⟩ | ⟨e, e1, rfl⟩ | ⟨e, e1, e2, rfl⟩ | ⟨e, e1, rfl⟩ <;> simp <;> omega
  · rw [hbd]
    rcases hwh with ⟨e, rfl⟩ | ⟨e, e1, rfl⟩ | ⟨e, e1, e2, rfl⟩ | ⟨e, e1, rfl⟩
    · simp
    · simp
    · intro _
      exact ⟨a, rfl, fun _ => ⟨e1, rfl⟩, fun e3 => absurd e3 e2⟩
    · intro _
      exact ⟨a, rfl, fun e3 => absurd rfl e3, fun _ => e1⟩
  · intro x hz hn
    obtain ⟨e1, e2, e3⟩ := hnew x hz hn
    exact .inr ⟨e1, by simp only; omega, e3⟩
  · intro _ hp
    rcases hwh with ⟨e, rfl⟩ | ⟨e, _⟩ | ⟨e, _⟩ | ⟨e, _⟩
    · rfl
    · exact absurd hp e
    · exact absurd hp e
    · exact absurd hp e
  · intro _ hw x hx
    have hx' : a = x := by simp only at hx; omega
    subst hx'
    rcases hwh with ⟨e, rfl⟩ | ⟨e, e1, rfl⟩ | ⟨e, e1, e2, rfl⟩ | ⟨e, e1, rfl⟩
    · simp at hw
    · apply Classical.byContradiction
      intro hz
      rw [hold a hz] at e1
      exact hz e1
    · simp at hw
    · simp at hw
  · intro _ hw
    rcases hwh with ⟨e, rfl⟩ | ⟨e, e1, rfl⟩ | ⟨e, e1, e2, rfl⟩ | ⟨e, e1, rfl⟩
    · exact e
    · simp at hw
    · simp at hw
    · simp at hw
theorem Inv.read {k : Nat} (h : Inv T cs now L mark) (hm0 : 0 ≤ mark) (hL : LOk L k) {a : Nat} (ha : a ≤ 1000) {b f now' : Int} (h6 : now < b ∧ b < f ∧ f ≤ now') (hf0 : f ≠ 0) : Inv T (cs ++ [⟨2, a, [], [], b, f, if (a : Int) < mark then ⟨4, 0, []⟩ else lookR L a⟩]) now' L mark :=
  h.see (.inl rfl) hm0 hL (fun _ _ => rfl) (fun x e1 e2 => absurd e1 e2) (fun e => absurd e (by decide)) ha h6 hf0 rfl
theorem Inv.fill {k : Nat} (h : Inv T cs now L mark) (hm0 : 0 ≤ mark) {l : Int} {a : Nat} {L' : Nat → Ct} (hLe : L' = if (a : Int) < mark then L else updL L a (fillC L a ⟨9, 1000, l, []⟩)) (hL' : LOk L' k) (ha : a ≤ 1000) {b f now' : Int} (h6 : now < b ∧ b < f ∧ f ≤ now') (hf0 : f ≠ 0) : Inv T (cs ++ [⟨3, a, [], [], b, f, if (a : Int) < mark then ⟨4, 0, []⟩ else told (fillC L a ⟨9, 1000, l, []⟩)⟩]) now' L' mark := by
  have hz : (fillC L a ⟨9, 1000, l, []⟩).kd ≠ 0 := by
    unfold fillC
    split
    · simp
    · assumption
  have hla : ¬ (a : Int) < mark → L' a = fillC L a ⟨9, 1000, l, []⟩ := fun e => by rw [hLe, if_neg e]; unfold updL; rw [if_pos rfl]
  refine h.see (.inr rfl) hm0 hL' (fun x hx => ?_) (fun x e1 e2 => ?_) (fun _ e => by rw [hla e]; exact hz) ha h6 hf0 ?_
  · rw [hLe]
    split
    · rfl
    · unfold updL
      split
      · rename_i e; subst e; unfold fillC; rw [if_neg hx]
      · rfl
  · rw [hLe] at e2 ⊢
    split at e2
    · exact absurd e1 e2
    · rename_i hm
      unfold updL at e2
      split at e2
      · rename_i e
        subst e
        rw [if_neg hm]
        refine ⟨rfl, rfl, ?_⟩
        unfold updL fillC
        rw [if_pos rfl, if_pos e1]
      · exact absurd e1 e2
  · by_cases e : (a : Int) < mark
    · rw [if_pos e, if_pos e]
    · rw [if_neg e, if_neg e]
      unfold lookR
      rw [hla e, if_neg hz]
theorem Inv.trim (h : Inv T cs now L mark) (hm0 : 0 ≤ mark) {a : Int} (ha : 0 ≤ a ∧ a ≤ 100) {b f now' : Int} (h6 : now < b ∧ b < f ∧ f ≤ now') (hf0 : f ≠ 0) : Inv T (cs ++ [⟨4, a, [], [], b, f, ⟨1, 0, []⟩⟩]) now' L (max mark a) := by
  refine h.push hm0 ⟨by unfold KindOk; simp, hf0, ha.1, by simp only; omega⟩ (fun e => absurd e (by simp)) (fun _ => ⟨rfl, .inl rfl, by simp⟩) (by simp) (by simp) h6 (by omega) ?_ (fun _ _ => rfl) ?_ (fun x e1 e2 => absurd e1 e2) ?_ (fun e => absurd e (by simp)) (fun e => by simp at e) (fun e => by simp at e) (fun e => by simp at e)
  · unfold trB trimsP; simp only [if_true]; omega
  · intro e; simp [bd, bindsP] at e
  · by_cases e : a ≤ mark
    · left; omega
    · right; exact ⟨rfl, by simp only; omega⟩
theorem Inv.appended (h : Inv T cs now L mark) (hm0 : 0 ≤ mark) {t : Nat} {ts : List Int} (hts : (t : Int) ∈ ts) (hl : ts.length ≤ 1000) (ht : (t : Int) < T) (hmk : mark ≤ (t : Int)) (hz : (L t).kd = 0) {b f now' : Int} (h6 : now < b ∧ b < f ∧ f ≤ now') (hf0 : f ≠ 0) : Inv T (cs ++ [⟨1, 0, valB cs.length, ts, b, f, ⟨1, t, []⟩⟩]) now' (updL L t ⟨8, 1000, cs.length, valB cs.length⟩) mark := by
  refine h.push hm0 ⟨by unfold KindOk; simp, hf0, by simp, by simp⟩ (fun _ => ⟨rfl, hl, .inl ⟨rfl, hts, Int.natCast_nonneg t, ht⟩⟩) (fun e => absurd rfl e) (by simp) (by simp) h6 (Int.le_refl _) ?_ (fun x hx => ?_) (fun _ => ?_) (fun x e1 e2 => ?_) (.inl rfl) (fun _ _ => hmk) (fun e => by simp at e) (fun e => by simp at e) (fun e => by simp at e)
  · unfold trB trimsP; simp; exact hm0
  · unfold updL
    split
    · rename_i e; subst e; exact absurd hz hx
    · rfl
  · have e : bd ⟨1, 0, valB cs.length, ts, b, f, ⟨1, t, []⟩⟩ = ((t : Int), valB cs.length, true) := by unfold bd bindsP; simp
    rw [e]
    refine ⟨t, rfl, fun _ => ?_, fun e => absurd e (valB_ne _)⟩
    unfold updL; rw [if_pos rfl]; exact ⟨rfl, rfl⟩
  · unfold updL at e2 ⊢
    split at e2
    · rename_i e
      subst e
      rw [if_pos rfl]
      exact .inl ⟨rfl, rfl, rfl, rfl, rfl⟩
    · exact absurd e1 e2
theorem Inv.full (h : Inv T cs now L mark) (hm0 : 0 ≤ mark) {t : Int} {ts : List Int} (hts : t ∈ ts) (hl : ts.length ≤ 1000) (ht : T ≤ t) {b f now' : Int} (h6 : now < b ∧ b < f ∧ f ≤ now') (hf0 : f ≠ 0) : Inv T (cs ++ [⟨1, 0, valB cs.length, ts, b, f, ⟨7, 0, []⟩⟩]) now' L mark := by
  refine h.push hm0 ⟨by unfold KindOk; simp, hf0, by simp, by simp⟩ (fun _ => ⟨rfl, hl, .inr ⟨rfl, rfl, t, hts, ht⟩⟩) (fun e => absurd rfl e) (by simp) (by simp) h6 (Int.le_refl _) ?_ (fun _ _ => rfl) (fun e => ?_) (fun x e1 e2 => absurd e1 e2) (.inl rfl) (fun _ e => by simp at e) (fun e => by simp at e) (fun e => by simp at e) (fun e => by simp at e)
  · unfold trB trimsP; simp; exact hm0
  · simp [bd, bindsP] at e
theorem Inv.val_ne (h : Inv T cs now L mark) {x : Nat} (hx : (L x).kd = 8) : (L x).val ≠ [106] ∧ (L x).val ≠ [] := by
  obtain ⟨j, o, p1, p2, p3, _⟩ := (h.made x).1 hx
  have := h.ap j o p1
  rw [if_pos p2] at this
  rw [← p3, this]
  exact ⟨by simp [valB], valB_ne _⟩
theorem Inv.seen {k : Nat} (h : Inv T cs now L mark) (hL : LOk L k) (a : Nat) : (if (a : Int) < mark then (⟨4, 0, []⟩ : Rz) else lookR L a) = seenS (logS L a) (decide ((a : Int) < mark)) := by
  unfold seenS
  by_cases e : (a : Int) < mark
  · rw [if_pos e, if_pos (by simpa using e)]
  · rw [if_neg e, if_neg (by simpa using e)]
    unfold lookR logS told
    rcases hL.three a with ⟨e1, e2⟩ | ⟨e1, e2⟩ | ⟨e1, e2⟩
    · simp [e1]
    · have hv := h.val_ne e1
      simp [e1, hv.1, hv.2]
    · simp [e1, e2]
theorem log_upd {α : Type} (F : List Int → α) (L : Nat → Ct) (N t : Nat) (c : Ct) : ((List.range N).map fun a => F (logS L a)).set t (F (if c.kd = 0 then [] else if c.kd = 9 then [106] else c.val)) = (List.range N).map fun a => F (logS (updL L t c) a) := by
  apply List.ext_getElem?
  intro i
  by_cases hi : i < N
  · rw [List.getElem?_map, List.getElem?_range hi]
    by_cases e : i = t
    · subst e
      rw [List.getElem?_set_self (by simpa using hi)]
      simp [logS, updL]
    · rw [List.getElem?_set_ne (fun h => e h.symm), List.getElem?_map, List.getElem?_range hi]
      simp [logS, updL, e]
  · rw [List.getElem?_eq_none (by simp; omega), List.getElem?_eq_none (by simp; omega)]
end
end Go.Proofs.YtnhjmiglegdamaaGreat
