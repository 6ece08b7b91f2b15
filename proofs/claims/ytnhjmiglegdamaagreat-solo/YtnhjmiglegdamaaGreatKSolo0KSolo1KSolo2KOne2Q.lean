-- Solo's world: calls, gifts and beats, as the walk takes them.
-- Solo's world: gifts.
-- What Solo has in memory.
-- Was a trim that is needed begun? Was a content made?
import Derived.Test.YtnhjmiglegdamaaGreatKOnePKGlue3Q
import Derived.Test.YtnhjmiglegdamaaGreatKCallAQ
import Derived.Test.YtnhjmiglegdamaaGreatKCallRQ
import Derived.Test.YtnhjmiglegdamaaGreatKCallFQ
import Derived.Test.YtnhjmiglegdamaaGreatKCallTQ
import Derived.Test.YtnhjmiglegdamaaGreatKGiveQ
import Derived.Test.YtnhjmiglegdamaaGreatSNewCKBegin0KBeginQ
import Derived.Test.YtnhjmiglegdamaaGreatKGlue1KGlue2KOne0Q
namespace Go.Proofs.YtnhjmiglegdamaaGreat
open Go.RowKit Go.Maps
/-- The world with its client. -/
def SW (w : World) (tag : Nat → Nat) (g p n m v : Nat) (ce : Int) (cv : Value) (K : KW) : Prop := ∃ q pv av hv ps cs, WdX w tag g p q n m v ce K pv av (.slice none 0 0) cv hv ps cs []
/-- What a beat comes to. -/
def Next (n m v : Nat) (ce : Int) (K : KW) (P : KW → Prop) : Prop := TickOk n m v ce K.X ∧ ∃ j K', j ≤ 300 ∧ ExchT n m v ce { K with X := K.X.tickX n m } j K' ∧ P K'
/-- Between rounds. -/
structure Ps (n m : Nat) (ce : Int) (i x : Nat) (K : KW) (L : Nat → Ct) (mark : Int) : Prop where
  idle : Idle n m K L mark
  inv : Inv (n * ce) K.calls K.now L mark
  len : K.calls.length = i
  now : K.now ≤ 1000 * (i + x)
  a0 : 0 ≤ K.X.asked
  a1 : K.X.asked ≤ 20 * (i + x)
  had : K.had ≤ i + x
/-- A round has ended, its call with the result r. -/
def Then (n m : Nat) (ce : Int) (i x : Nat) (L : Nat → Ct) (mark : Int) (r : Rz) (K : KW) : Prop := Ps n m ce (i + 1) x K L mark ∧ ∃ c, K.calls[i]? = some c ∧ c.fin ≠ 0 ∧ c.r = r
/-- The append wants a token. -/
def Aw (n m : Nat) (ce : Int) (i x : Nat) (L : Nat → Ct) (mark : Int) (K : KW) : Prop := ∃ past d now0, Wnt n m K past d L mark ∧ past.length = i ∧ Inv (n * ce) past now0 L mark ∧ now0 < d.beg ∧ (d.kind = 1 ∧ d.pos = 0 ∧ d.value = valB i) ∧ d.tokens.length ≤ x ∧ K.now ≤ 1000 * (i + x) + 2 ∧ 0 ≤ K.X.asked ∧ K.X.asked ≤ 20 * (i + x) ∧ K.had ≤ i + x
section
variable {w w' : World} {tag tag' : Nat → Nat} {g p n m v : Nat} {ce : Int} {cv : Value} {K : KW} {i x : Nat} {L : Nat → Ct} {mark : Int}
theorem SW.bl (h : SW w tag g p n m v ce cv K) (hb : Bl w w') (ht : ∀ b, b < w.heap.size → tag' b = tag b) : SW w' tag' g p n m v ce cv K := by
  obtain ⟨q, pv, av, hv, ps, cs, h⟩ := h
  exact ⟨q, pv, av, hv, ps, cs, h.bl hb ht⟩
theorem solo_beat (h : SW w tag g p n m v ce cv K) (hf : fit n m v ce = true) {P : KW → Prop} (hN : Next n m v ce K P) :
    Calls Tryz.prog 30 #[.pointer (some ⟨g, 0, none⟩)] w fun en w' => en = .returned (.bool true) ∧ ∃ tag', KSt Pw w tag w' tag' ∧ ∃ K', P K' ∧ SW w' tag' g p n m v ce cv K' := by
  obtain ⟨q, pv, av, hv, ps, cs, h⟩ := h
  obtain ⟨hT, j, K', hj, hE, hP⟩ := hN
  have hs := fit_small hf
  refine (beat_any h hT hE hj (by omega)).mono ?_
  rintro en w' ⟨rfl, tag', k, ps', cs', h'⟩
  exact ⟨rfl, tag', k, K', hP, q, pv, av, hv, ps', cs', h'⟩
theorem ps0 : Ps n m ce 0 0 (kw0 n m) (fun _ => no) 0 := by
  refine ⟨⟨?_, rfl, rfl, rfl, by simp [kw0, PQ.zero], by simp [kw0, PQ.zero], by simp [kw0, PQ.zero], rfl, by simp [kw0], by simp [kw0], by simp [kw0], by simp [kw0], fun a => .inl rfl, by omega⟩, inv_nil _ _, rfl, by simp [kw0], by simp [kw0], by simp [kw0], by simp [kw0]⟩
  unfold kw0 us0
  rfl
theorem Ps.small (h : Ps n m ce i x K L mark) (hi : i ≤ 30) (hx : x ≤ 48) : K.now + 600 ≤ 400000 ∧ (0 ≤ K.X.asked ∧ K.X.asked + 400 ≤ 1000000) ∧ K.calls.length ≤ 49 := by
  have h1 := h.now
  have h2 := h.a0
  have h3 := h.a1
  have h4 := h.len
  omega
/-- What has been done, as the next round takes it. -/
theorem Did.then {K1 K' : KW} {L' : Nat → Ct} {mark' : Int} {c : PK} (h : Ps n m ce i x K L mark) (hD : Did n m v ce K K1 K' L' mark' c) (hI : Inv (n * ce) (K.calls ++ [c]) K'.now L' mark') {r : Rz} (hr : c.r = r) (hc0 : c.fin ≠ 0) : Then n m ce i x L' mark' r K' := by
  have h1 := h.now
  have h2 := h.a0
  have h3 := h.a1
  have h4 := h.len
  have h5 := h.had
  have e1 := hD.n1
  have e2 := hD.a0
  have e3 := hD.a1
  have e4 := hD.had
  refine ⟨⟨hD.rest, by rw [hD.calls]; exact hI, by rw [hD.calls, List.length_append, h4]; rfl, ?_, by omega, ?_, by omega⟩, c, ?_, hc0, hr⟩
  · push_cast at h1 ⊢; omega
  · push_cast at h3 ⊢; omega
  · rw [hD.calls, ← h4]; exact push_new _ _
theorem ad_ok (hf : fit n m v ce = true) {a : Nat} (ha : (a : Int) < n * ce) : AdOk n m v ce a := ⟨hf, Int.natCast_nonneg a, ha⟩
set_option maxHeartbeats 1000000 in
theorem solo_read (h : SW w tag g p n m v ce cv K) (hP : Ps n m ce i x K L mark) (hf : fit n m v ce = true) (hi : i ≤ 30) (hx : x ≤ 48) (b : Int) (hb : inI b) {a : Nat} (ha : pk b (n * ce) = a) (ha1 : (a : Int) < n * ce) :
    Calls Tryz.prog 28 #[.pointer (some ⟨g, 0, none⟩), .int .i64 2, .int .i64 0, .int .i64 b] w fun en w' => en = .returned (.bool true) ∧ ∃ tag', KSt Pc w tag w' tag' ∧ ∃ cv' K1, SW w' tag' g p n m v ce cv' K1 ∧ K1.calls.length = i + 1 ∧ Next n m v ce K1 (Then n m ce i x L mark (seenS (logS L a) (decide ((a : Int) < mark)))) := by
  obtain ⟨q, pv, av, hv, ps, cs, h⟩ := h
  have hs := fit_small hf
  obtain ⟨s1, s2, s3⟩ := hP.small hi hx
  obtain ⟨X', hX'⟩ : ∃ X', X' = (K.X.begin 2 1000).look n m (newC K.X 2 1000 a) := ⟨_, rfl⟩
  obtain ⟨c, hc⟩ : ∃ c : PK, c = ⟨2, a, [], [], K.now + 1, 0, ⟨0, 0, []⟩⟩ := ⟨_, rfl⟩
  obtain ⟨hW, hend, hW2, hK1, _⟩ := hP.idle.call (X' := X') (c := c) (by omega) (by rw [hX']; rfl) (by rw [hc]) (by rw [hc])
  obtain ⟨K', t, hD⟩ := did_read hP.idle hf s1 s2 s3 (ad_ok hf ha1) hX' hc
  refine (call_read h hW hf (by omega) hP.idle.pend hend (by omega) (by omega) b hb X' (by rw [ha]; exact hX') c (by rw [ha]; exact hc) hW2).mono ?_
  rintro en w' ⟨rfl, tag', k, q', cv', cs', h'⟩
  rw [hK1] at h'
  refine ⟨rfl, tag', k, cv', _, ⟨q', pv, av, hv, ps, cs', h'⟩, by simp [hP.len], hD.tk, ?_⟩
  obtain ⟨j, hj, hE⟩ := hD.ex
  refine ⟨j, K', hj, hE, ?_⟩
  have hn0 := hP.idle.n0
  have hf1 := hD.fin
  have hf2 := hD.beg
  subst hc
  simp only at hf1 hf2
  have ft := fit_t hf
  exact hD.then hP (hP.inv.read hP.idle.mko.1 hP.idle.L (a := a) (by omega) (b := K.now + 1) (f := t) (now' := K'.now) ⟨by omega, hf1.1, hf1.2⟩ (by omega)) (hP.inv.seen hP.idle.L a) (by simp only; omega)
set_option maxHeartbeats 1000000 in
theorem solo_fill (h : SW w tag g p n m v ce cv K) (hP : Ps n m ce i x K L mark) (hf : fit n m v ce = true) (hi : i ≤ 30) (hx : x ≤ 48) (b : Int) (hb : inI b) {a : Nat} (ha : pk b (n * ce) = a) (ha1 : (a : Int) < n * ce) {L' : Nat → Ct} (hL' : L' = if (a : Int) < mark then L else updL L a (fillC L a ⟨9, 1000, i, []⟩)) :
    Calls Tryz.prog 28 #[.pointer (some ⟨g, 0, none⟩), .int .i64 3, .int .i64 0, .int .i64 b] w fun en w' => en = .returned (.bool true) ∧ ∃ tag', KSt Pc w tag w' tag' ∧ ∃ cv' K1, SW w' tag' g p n m v ce cv' K1 ∧ K1.calls.length = i + 1 ∧ Next n m v ce K1 (Then n m ce i x L' mark (seenS (logS L' a) (decide ((a : Int) < mark)))) := by
  obtain ⟨q, pv, av, hv, ps, cs, h⟩ := h
  have hs := fit_small hf
  obtain ⟨s1, s2, s3⟩ := hP.small hi hx
  obtain ⟨X', hX'⟩ : ∃ X', X' = (K.X.begin 3 1000).writeNext n m { newC K.X 3 1000 a with own := ⟨9, 1000, K.X.res.length, []⟩, cont := ⟨9, 1000, K.X.res.length, []⟩, place := 0 } := ⟨_, rfl⟩
  obtain ⟨c, hc⟩ : ∃ c : PK, c = ⟨3, a, [], [], K.now + 1, 0, ⟨0, 0, []⟩⟩ := ⟨_, rfl⟩
  obtain ⟨hW, hend, hW2, hK1, _⟩ := hP.idle.call (X' := X') (c := c) (by omega) (by rw [hX']; rfl) (by rw [hc]) (by rw [hc])
  obtain ⟨K', t, hD⟩ := did_fill hP.idle hf s1 s2 s3 (ad_ok hf ha1) hX' hc
  rw [hP.len, ← hL'] at hD
  refine (call_fill h hW hf (by omega) hP.idle.pend hend (by omega) (by omega) b hb X' (by rw [ha]; exact hX') c (by rw [ha]; exact hc) hW2).mono ?_
  rintro en w' ⟨rfl, tag', k, q', cv', cs', h'⟩
  rw [hK1] at h'
  refine ⟨rfl, tag', k, cv', _, ⟨q', pv, av, hv, ps, cs', h'⟩, by simp [hP.len], hD.tk, ?_⟩
  obtain ⟨j, hj, hE⟩ := hD.ex
  refine ⟨j, K', hj, hE, ?_⟩
  have hn0 := hP.idle.n0
  have hf1 := hD.fin
  have hf2 := hD.beg
  have hLk := hD.rest.L
  subst hc
  simp only at hf1 hf2
  have ft := fit_t hf
  have hI := hP.inv.fill hP.idle.mko.1 (l := (i : Int)) (a := a) hL' hLk (by omega) (b := K.now + 1) (f := t) (now' := K'.now) ⟨by omega, hf1.1, hf1.2⟩ (by omega)
  refine hD.then hP hI ?_ (by simp only; omega)
  rw [← hI.seen hLk a]
  simp only
  by_cases e : (a : Int) < mark
  · rw [if_pos e, if_pos e]
  · rw [if_neg e, if_neg e]
    have hla : L' a = fillC L a ⟨9, 1000, i, []⟩ := by rw [hL', if_neg e]; unfold updL; rw [if_pos rfl]
    have hz : (fillC L a ⟨9, 1000, i, []⟩).kd ≠ 0 := by
      unfold fillC
      split
      · simp
      · assumption
    unfold lookR
    rw [hla, if_neg hz]
set_option maxHeartbeats 1000000 in
theorem solo_trim (h : SW w tag g p n m v ce cv K) (hP : Ps n m ce i x K L mark) (hf : fit n m v ce = true) (hi : i ≤ 30) (hx : x ≤ 48) (b : Int) (hb : inI b) {a : Int} (ha : pk b (n * ce + 1) = a) :
    Calls Tryz.prog 28 #[.pointer (some ⟨g, 0, none⟩), .int .i64 4, .int .i64 0, .int .i64 b] w fun en w' => en = .returned (.bool true) ∧ ∃ tag', KSt Pc w tag w' tag' ∧ ∃ cv' K1, SW w' tag' g p n m v ce cv' K1 ∧ K1.calls.length = i + 1 ∧ Next n m v ce K1 (Then n m ce i x L (max mark a) ⟨1, 0, []⟩) := by
  obtain ⟨q, pv, av, hv, ps, cs, h⟩ := h
  have hs := fit_small hf
  have ft := fit_t hf
  have ha2 := pk_range b (n * ce + 1) (by omega)
  rw [ha] at ha2
  obtain ⟨s1, s2, s3⟩ := hP.small hi hx
  obtain ⟨X', hX'⟩ : ∃ X', X' = (K.X.begin 4 1000).lay n m (newC K.X 4 1000 a) a ⟨1, 0, []⟩ := ⟨_, rfl⟩
  obtain ⟨c, hc⟩ : ∃ c : PK, c = ⟨4, a, [], [], K.now + 1, 0, ⟨0, 0, []⟩⟩ := ⟨_, rfl⟩
  obtain ⟨hW, hend, hW2, hK1, _⟩ := hP.idle.call (X' := X') (c := c) (by omega) (by rw [hX']; rfl) (by rw [hc]) (by rw [hc])
  obtain ⟨K', t, hD⟩ := did_trim hP.idle hf s1 s2 s3 (a := a) (by omega) hX' hc
  refine (call_trim h hW hf (by omega) hP.idle.pend hend (by omega) (by omega) b hb X' (by rw [ha]; exact hX') c (by rw [ha]; exact hc) hW2).mono ?_
  rintro en w' ⟨rfl, tag', k, q', cv', cs', h'⟩
  rw [hK1] at h'
  refine ⟨rfl, tag', k, cv', _, ⟨q', pv, av, hv, ps, cs', h'⟩, by simp [hP.len], hD.tk, ?_⟩
  obtain ⟨j, hj, hE⟩ := hD.ex
  refine ⟨j, K', hj, hE, ?_⟩
  have hn0 := hP.idle.n0
  have hf1 := hD.fin
  have hf2 := hD.beg
  subst hc
  simp only at hf1 hf2
  exact hD.then hP (hP.inv.trim hP.idle.mko.1 (a := a) (by omega) (b := K.now + 1) (f := t) (now' := K'.now) ⟨by omega, hf1.1, hf1.2⟩ (by omega)) rfl (by simp only; omega)
set_option maxHeartbeats 1000000 in
theorem solo_app (h : SW w tag g p n m v ce cv K) (hP : Ps n m ce i x K L mark) (hf : fit n m v ce = true) (hi : i ≤ 30) (hx : x ≤ 48) (b : Int) (hb : inI b) :
    Calls Tryz.prog 28 #[.pointer (some ⟨g, 0, none⟩), .int .i64 1, .int .i64 0, .int .i64 b] w fun en w' => en = .returned (.bool true) ∧ ∃ tag', KSt Pc w tag w' tag' ∧ ∃ cv' K1, SW w' tag' g p n m v ce cv' K1 ∧ K1.calls.length = i + 1 ∧ Aw n m ce i x L mark K1 := by
  obtain ⟨q, pv, av, hv, ps, cs, h⟩ := h
  have hs := fit_small hf
  obtain ⟨s1, s2, s3⟩ := hP.small hi hx
  obtain ⟨X', hX'⟩ : ∃ X' : CX, X' = { (K.X.begin 1 1000) with pend := some { PC.new 1 K.X.res.length 1000 with own := ⟨8, 1000, K.X.res.length, valB K.calls.length⟩ } } := ⟨_, rfl⟩
  obtain ⟨c, hc⟩ : ∃ c : PK, c = ⟨1, 0, valB K.calls.length, [], K.now + 1, 0, ⟨0, 0, []⟩⟩ := ⟨_, rfl⟩
  obtain ⟨hW, hend, hW2, hK1, _⟩ := hP.idle.call (X' := X') (c := c) (by omega) (by rw [hX']; rfl) (by rw [hc]) (by rw [hc])
  have hA := wnt_call hP.idle (by omega) s3 hX' hc
  refine (call_append h hW hf (by omega) hP.idle.pend hend (by omega) (by omega) b hb X' hX' c hc hW2).mono ?_
  rintro en w' ⟨rfl, tag', k, q', cv', cs', h'⟩
  rw [hK1] at h'
  have h1 := hP.now
  have h2 := hP.a0
  have h3 := hP.a1
  have h5 := hP.had
  have ha : X'.asked = K.X.asked := by rw [hX']; rfl
  exact ⟨rfl, tag', k, cv', _, ⟨q', pv, av, hv, ps, cs', h'⟩, by simp [hP.len], K.calls, c, K.now, hA, hP.len, hP.inv, by rw [hc]; simp only; omega, by rw [hc, hP.len]; exact ⟨rfl, rfl, rfl⟩, by rw [hc]; simp, by simp only; omega, by simp only [ha]; exact h2, by simp only [ha]; exact h3, h5⟩
end
end Go.Proofs.YtnhjmiglegdamaaGreat

namespace Go.Proofs.YtnhjmiglegdamaaGreat
open Go.RowKit Go.Maps
section
variable {w w' : World} {tag tag' : Nat → Nat} {g p n m v : Nat} {ce : Int} {cv : Value} {K : KW} {i x : Nat} {L : Nat → Ct} {mark : Int} {past : List PK} {d : PK}
theorem solo_give (h : SW w tag g p n m v ce cv K) (hW : Wnt n m K past d L mark) (hf : fit n m v ce = true) (hdk : d.kind = 1) (hdt : d.tokens.length ≤ 1000) (hn : K.now ≤ 400000) (hhad : K.had ≤ 100000) (t : Int) {pc : PC} (hpc : K.X.pend = some pc) (X' : CX) (hR : ResGo past.length K.X.res X'.res)
    (hG : ∀ (q : Nat) (W : World) (tagW : Nat → Nat), Cl W tagW 5 p q n m v ce 1000 K.X → Calls Tryz.prog 25 #[.pointer (some ⟨p, 0, none⟩), .int .i64 past.length, .int .i64 t] W fun en w' => en = .returned (.int .i64 0) ∧ CStep W tagW 5 p q n m v ce 1000 X' w') :
    Calls Tryz.prog 29 #[.pointer (some ⟨g, 0, none⟩), .int .i64 0, .int .i64 0, .int .i64 t] w fun en w' => en = .returned (.bool true) ∧ ∃ tag', KSt Pc w tag w' tag' ∧ SW w' tag' g p n m v ce cv ({ K with X := X', calls := K.calls.set past.length { d with tokens := d.tokens ++ [t] }, had := K.had + 1 } : KW).watch := by
  obtain ⟨q, pv, av, hv, ps, cs, h⟩ := h
  have hs := fit_small hf
  obtain ⟨pc', p1, p2, p3, p4, p5⟩ := hW.pend
  rw [hpc] at p1
  simp only [Option.some.injEq] at p1
  subst p1
  have hcl := hW.calls
  have hle := hW.le
  refine (give_any h (by omega) (by rw [hcl]; simp; omega) (i := past.length) (d := d) (by rw [hcl]; exact push_new _ _) hdk hW.nt.d0 hdt hpc (by unfold PC.wants; rw [p2, p5]; rfl) p3 t X' (hG q) hhad (hW.gave hn _ hR).2).mono ?_
  rintro en w' ⟨rfl, tag', k, hv', cs', h'⟩
  exact ⟨rfl, tag', k, q, pv, av, hv', ps, cs', h'⟩
theorem Wnt.wants (hW : Wnt n m K past d L mark) : ∃ pc, K.X.pend = some pc ∧ pc.wants = true ∧ pc.num = past.length := by
  obtain ⟨pc, p1, p2, p3, p4, p5⟩ := hW.pend
  exact ⟨pc, p1, by unfold PC.wants; rw [p2, p5]; rfl, p3⟩
/-- The call that a gift is made to, behind the gift. -/
theorem Wnt.last (hW : Wnt n m K past d L mark) (hn : K.now ≤ 400000) (ts : List Int) {X' : CX} (hR : ResGo past.length K.X.res X'.res) {K2 : KW} (hK2 : K2 = ({ K with X := X', calls := K.calls.set past.length { d with tokens := ts }, had := K.had + 1 } : KW).watch) : K2.calls.length = past.length + 1 ∧ ∃ c, K2.calls[past.length]? = some c ∧ c.value = d.value := by
  have h := (hW.gave hn ts hR).1
  rw [← hK2] at h
  obtain ⟨c, r, e1, e2, e3⟩ := h.ex
  refine ⟨by rw [e1]; simp, c, by rw [e1]; exact push_new _ _, ?_⟩
  rcases e3 with e | ⟨_, t, _, _, e⟩
  · rw [e.2]
  · rw [e]
set_option maxHeartbeats 1000000 in
theorem solo_again (h : SW w tag g p n m v ce cv K) (hA : Aw n m ce i x L mark K) (hf : fit n m v ce = true) (hi : i ≤ 30) (hx : x ≤ 48) (hxT : (x : Int) < n * ce) (hno : (x : Int) < mark ∨ (L x).kd ≠ 0) :
    Calls Tryz.prog 29 #[.pointer (some ⟨g, 0, none⟩), .int .i64 0, .int .i64 0, .int .i64 x] w fun en w' => en = .returned (.bool true) ∧ ∃ tag', KSt Pc w tag w' tag' ∧ ∃ K2, SW w' tag' g p n m v ce cv K2 ∧ K2.calls.length = i + 1 ∧ Next n m v ce K2 (Aw n m ce i (x + 1) L mark) := by
  obtain ⟨past, d, now0, hW, rfl, hI, hb, hd, htk, hnow, a0, a1, hhad⟩ := hA
  obtain ⟨pc, hpc, hwn, hnum⟩ := hW.wants
  have hAd := ad_ok hf hxT
  obtain ⟨X', hX'⟩ : ∃ X', X' = K.X.writeNext n m { pc with addr := (x : Int), cont := pc.own, place := 0 } := ⟨_, rfl⟩
  have hR : ResGo past.length K.X.res X'.res := .inl (by rw [hX']; rfl)
  obtain ⟨K2, hK2⟩ : ∃ K2, K2 = ({ K with X := X', calls := K.calls.set past.length { d with tokens := d.tokens ++ [(x : Int)] }, had := K.had + 1 } : KW).watch := ⟨_, rfl⟩
  refine (solo_give h hW hf hd.1 (by omega) (by omega) (by omega) x hpc X' hR fun q W tagW hC => ?_).mono ?_
  · obtain ⟨lv, rv, vv, nv, av, bm, born, clk, hk⟩ := hC
    rw [hX', ← hnum]
    exact fcl_give _ _ _ _ (cl_give hk hpc hwn x hAd (by omega) (by omega))
  · rintro en w' ⟨rfl, tag', k, h'⟩
    obtain ⟨e1, j, K', hj, hE, hW', e2, e3, e4, e5, e6⟩ := hW.again hAd (by omega) (by omega) hpc hX' hK2 hno
    rw [← hK2] at h'
    refine ⟨rfl, tag', k, K2, h', (hW.last (by omega) _ hR hK2).1, e1, j, K', hj, hE, past, _, now0, hW', rfl, hI, hb, hd, by simp; omega, ?_, by omega, ?_, by omega⟩
    · push_cast at hnow ⊢; omega
    · push_cast at a1 ⊢; omega
set_option maxHeartbeats 1000000 in
theorem solo_done (h : SW w tag g p n m v ce cv K) (hA : Aw n m ce i x L mark K) (hf : fit n m v ce = true) (hi : i ≤ 30) (hx : x ≤ 48) (hxT : (x : Int) < n * ce) (hmk : ¬ (x : Int) < mark) (hz : (L x).kd = 0) :
    Calls Tryz.prog 29 #[.pointer (some ⟨g, 0, none⟩), .int .i64 0, .int .i64 0, .int .i64 x] w fun en w' => en = .returned (.bool true) ∧ ∃ tag', KSt Pc w tag w' tag' ∧ ∃ K2, SW w' tag' g p n m v ce cv K2 ∧ (K2.calls.length = i + 1 ∧ ∃ c, K2.calls[i]? = some c ∧ c.value = valB i) ∧ Next n m v ce K2 (Then n m ce i (x + 1) (updL L x ⟨8, 1000, i, valB i⟩) mark ⟨1, x, []⟩) := by
  obtain ⟨past, d, now0, hW, rfl, hI, hb, hd, htk, hnow, a0, a1, hhad⟩ := hA
  obtain ⟨pc, hpc, hwn, hnum⟩ := hW.wants
  have hAd := ad_ok hf hxT
  obtain ⟨X', hX'⟩ : ∃ X', X' = K.X.writeNext n m { pc with addr := (x : Int), cont := pc.own, place := 0 } := ⟨_, rfl⟩
  have hR : ResGo past.length K.X.res X'.res := .inl (by rw [hX']; rfl)
  obtain ⟨K2, hK2⟩ : ∃ K2, K2 = ({ K with X := X', calls := K.calls.set past.length { d with tokens := d.tokens ++ [(x : Int)] }, had := K.had + 1 } : KW).watch := ⟨_, rfl⟩
  refine (solo_give h hW hf hd.1 (by omega) (by omega) (by omega) x hpc X' hR fun q W tagW hC => ?_).mono ?_
  · obtain ⟨lv, rv, vv, nv, av, bm, born, clk, hk⟩ := hC
    rw [hX', ← hnum]
    exact fcl_give _ _ _ _ (cl_give hk hpc hwn x hAd (by omega) (by omega))
  · rintro en w' ⟨rfl, tag', k, h'⟩
    obtain ⟨e1, j, K', f, hj, hE, hId, hcs, f1, f2, e2, e3, e4, e5, e6⟩ := hW.done hAd (by omega) (by omega) hpc hX' hK2 hmk hz
    rw [← hK2] at h'
    obtain ⟨l1, c2, l2, l3⟩ := hW.last (by omega) _ hR hK2
    have hn0 := hW.nt.n0
    have hIn := hI.appended hW.mko.1 (t := x) (ts := d.tokens ++ [(x : Int)]) (by simp) (by simp; omega) hxT (by omega) hz (b := d.beg) (f := f) (now' := K'.now) ⟨hb, f1, f2⟩ (by omega)
    have ed : ({ d with tokens := d.tokens ++ [(x : Int)], fin := f, r := ⟨1, x, []⟩ } : PK) = ⟨1, 0, valB past.length, d.tokens ++ [(x : Int)], d.beg, f, ⟨1, x, []⟩⟩ := by rw [← hd.1, ← hd.2.1, ← hd.2.2]
    rw [ed] at hcs
    refine ⟨rfl, tag', k, K2, h', ⟨l1, c2, l2, by rw [l3]; exact hd.2.2⟩, e1, j, K', hj, hE, ⟨hId, by rw [hcs]; exact hIn, by rw [hcs]; simp, ?_, by omega, ?_, by omega⟩, _, by rw [hcs]; exact push_new _ _, by simp only; omega, rfl⟩
    · push_cast at hnow ⊢; omega
    · push_cast at a1 ⊢; omega
set_option maxHeartbeats 1000000 in
theorem solo_full {t : Int} (h : SW w tag g p n m v ce cv K) (hA : Aw n m ce i x L mark K) (hf : fit n m v ce = true) (hi : i ≤ 30) (hx : x ≤ 48) (ht : n * ce ≤ t) :
    Calls Tryz.prog 29 #[.pointer (some ⟨g, 0, none⟩), .int .i64 0, .int .i64 0, .int .i64 t] w fun en w' => en = .returned (.bool true) ∧ ∃ tag', KSt Pc w tag w' tag' ∧ ∃ K2, SW w' tag' g p n m v ce cv K2 ∧ K2.calls.length = i + 1 ∧ Next n m v ce K2 (Then n m ce i x L mark ⟨7, 0, []⟩) := by
  obtain ⟨past, d, now0, hW, rfl, hI, hb, hd, htk, hnow, a0, a1, hhad⟩ := hA
  obtain ⟨pc, hpc, hwn, hnum⟩ := hW.wants
  obtain ⟨X', hX'⟩ : ∃ X', X' = K.X.end' pc ⟨7, 0, []⟩ := ⟨_, rfl⟩
  have hR : ResGo past.length K.X.res X'.res := .inr ⟨⟨7, 0, []⟩, hW.r0, by simp, by simp, by rw [hX']; unfold CX.end'; rw [hnum]⟩
  obtain ⟨K2, hK2⟩ : ∃ K2, K2 = ({ K with X := X', calls := K.calls.set past.length { d with tokens := d.tokens ++ [t] }, had := K.had + 1 } : KW).watch := ⟨_, rfl⟩
  refine (solo_give h hW hf hd.1 (by omega) (by omega) (by omega) t hpc X' hR fun q W tagW hC => ?_).mono ?_
  · obtain ⟨lv, rv, vv, nv, av, bm, born, clk, hk⟩ := hC
    rw [hX', ← hnum]
    exact fcl_give _ _ _ _ (cl_giveFull hk hpc hwn t hf (.inr ht))
  · rintro en w' ⟨rfl, tag', k, h'⟩
    obtain ⟨e1, K', f, hE, hId, hcs, f1, f2, e2, e3, e4, e5, e6⟩ := hW.full hf (by omega) (by omega) hpc hX' hK2
    rw [← hK2] at h'
    obtain ⟨l1, c2, l2, l3⟩ := hW.last (by omega) _ hR hK2
    have hn0 := hW.nt.n0
    have hIn := hI.full hW.mko.1 (t := t) (ts := d.tokens ++ [t]) (by simp) (by simp; omega) ht (b := d.beg) (f := f) (now' := K'.now) ⟨hb, f1, f2⟩ (by omega)
    have ed : ({ d with tokens := d.tokens ++ [t], fin := f, r := ⟨7, 0, []⟩ } : PK) = ⟨1, 0, valB past.length, d.tokens ++ [t], d.beg, f, ⟨7, 0, []⟩⟩ := by rw [← hd.1, ← hd.2.1, ← hd.2.2]
    rw [ed] at hcs
    refine ⟨rfl, tag', k, K2, h', l1, e1, 1, K', by omega, hE, ⟨hId, by rw [hcs]; exact hIn, by rw [hcs]; simp, ?_, by omega, ?_, by omega⟩, _, by rw [hcs]; exact push_new _ _, by simp only; omega, rfl⟩
    · push_cast at hnow ⊢; omega
    · push_cast at a1 ⊢; omega
/-- While the append wants a token, it has not ended. -/
theorem Aw.open (hA : Aw n m ce i x L mark K) : K.calls.length = i + 1 ∧ ∃ c, K.calls[i]? = some c ∧ c.fin = 0 := by
  obtain ⟨past, d, now0, hW, rfl, _⟩ := hA
  rw [hW.calls]
  exact ⟨by simp, d, push_new _ _, hW.nt.d0⟩
end
end Go.Proofs.YtnhjmiglegdamaaGreat

namespace Go.Proofs.YtnhjmiglegdamaaGreat
open Go.RowKit Go.Maps
def logRow (T : Nat) (L : Nat → Ct) : List Value := (List.range T).map fun a => Value.string (strOf (logS L a))
/-- The world, the log, and that nothing old has turned. -/
structure So (w : World) (lg T : Nat) (W : World) (tag : Nat → Nat) (g p n m v : Nat) (ce : Int) (cv : Value) (K : KW) (L : Nat → Ct) : Prop where
  bl : Bl w W
  tg : ∀ b, b < w.heap.size → tag b = 0
  sw : SW W tag g p n m v ce cv K
  lo : RowT W tag 0 9 1 (.slice (some ⟨lg, 0, none⟩) T T) T (logRow T L)
  lw : w.heap.size ≤ lg
/-- The box of what is wanted. -/
def Wb (w W : World) (tag : Nat → Nat) (wb : Nat) (r : Rz) : Prop := ∃ wa wc, W.heap[wb]? = some (.cells #[.int .i64 r.wh, .int .i64 r.ad, .slice wa r.val.length wc] 43 (0, 0)) ∧ tag wb = 0 ∧ w.heap.size ≤ wb ∧ Sl W (.slice wa r.val.length wc) (r.val.map B8) ∧ ∀ b, (Value.slice wa r.val.length wc).ownBlock = some b → tag b = 0 ∧ b < W.heap.size
section
variable {w W W' : World} {tag tag' : Nat → Nat} {g p n m v lg T wb : Nat} {ce : Int} {cv cv' : Value} {K K' : KW} {L : Nat → Ct} {P : Nat → Prop} {r : Rz}
theorem free0 (n m v k : Nat) : Free n m v k (fun t => t = 0) := ⟨by decide, by decide, by decide, by decide, by decide, by decide, by decide, by decide, by decide, fun i _ => ⟨by omega, by omega, by omega⟩, fun i _ => by omega⟩
theorem SW.kst0 (h : SW W tag g p n m v ce cv K) (k : KSt (fun t => t = 0) W tag W' tag') : SW W' tag' g p n m v ce cv K := by
  obtain ⟨q, pv, av, hv, ps, cs, h⟩ := h
  exact ⟨q, pv, av, hv, ps, cs, h.kst k (free0 _ _ _ _)⟩
theorem So.step (h : So w lg T W tag g p n m v ce cv K L) (k : KSt P W tag W' tag') (hP : ¬ P 0) (hs : SW W' tag' g p n m v ce cv' K') : So w lg T W' tag' g p n m v ce cv' K' L := by
  have hsz := h.bl.size
  refine ⟨⟨k.only.os.trans h.bl.os, k.only.tape.trans h.bl.tape, k.only.output.trans h.bl.output, Nat.le_trans hsz k.size, fun b hb => ?_⟩, fun b hb => (k.tag b (by omega)).trans (h.tg b hb), hs, h.lo.kst k hP, h.lw⟩
  rw [k.only.block b (by omega) (by rw [h.tg b hb]; exact hP)]
  exact h.bl.block b hb
theorem So.bl' (h : So w lg T W tag g p n m v ce cv K L) (hb : Bl W W') (ht : ∀ b, b < W.heap.size → tag' b = tag b) : So w lg T W' tag' g p n m v ce cv K L :=
  h.step (P := fun _ => False) (KSt.of_bl' hb ht) (fun e => e) (h.sw.bl hb ht)
theorem Wb.step (h : Wb w W tag wb r) (k : KSt P W tag W' tag') (hP : ¬ P 0) : Wb w W' tag' wb r := by
  obtain ⟨wa, wc, h1, h2, h3, h4, h5⟩ := h
  have e := k.heap h1 h2 hP
  have hsz := k.size
  refine ⟨wa, wc, e.1, e.2, h3, ?_, fun b hb => ⟨(k.tag b (h5 b hb).2).trans (h5 b hb).1, by have := (h5 b hb).2; omega⟩⟩
  rcases h4 with h4 | ⟨b, o, c, e1, e2, e3⟩
  · exact .inl h4
  · have hb : tag b = 0 := (h5 b (by rw [e1]; rfl)).1
    refine .inr ⟨b, o, c, e1, by omega, fun j hj => ?_⟩
    rw [k.only.cell e2 (by rw [hb]; exact hP)]
    exact e3 j hj
theorem Wb.bl (h : Wb w W tag wb r) (hb : Bl W W') (ht : ∀ b, b < W.heap.size → tag' b = tag b) : Wb w W' tag' wb r := h.step (P := fun _ => False) (KSt.of_bl' hb ht) (fun e => e)
/-- A store into a block of Solo's own, not the log's. -/
theorem So.set (h : So w lg T W tag g p n m v ce cv K L) {b : Nat} (hb : w.heap.size ≤ b) (ht : tag b = 0) (hne : b ≠ lg) (o : Nat) (u : Value) : So w lg T (W.setCell ⟨b, o, none⟩ u) tag g p n m v ce cv K L := by
  have k := kst_set (w := W) (tag := tag) ht o u
  refine ⟨((Only.of_bl (S := fun _ => False) h.bl).setCell ⟨b, o, none⟩ (.inr hb) u).to_bl fun _ _ e => e, h.tg, h.sw.kst0 k, ⟨?_, h.lo.tag⟩, h.lw⟩
  exact ownsRow_of h.lo.own fun b' hb' => Below.heap_setCell _ _ _ _ (by
    have e : lg = b' := by simpa [Value.ownBlock] using hb'
    simp only
    omega)
theorem Wb.set (h : Wb w W tag wb r) {b : Nat} (hne : b ≠ wb) (hsl : ∀ wa wc, (W.heap[wb]? = some (.cells #[.int .i64 r.wh, .int .i64 r.ad, .slice wa r.val.length wc] 43 (0, 0))) → (Value.slice wa r.val.length wc).ownBlock ≠ some b) (o : Nat) (u : Value) : Wb w (W.setCell ⟨b, o, none⟩ u) tag wb r := by
  obtain ⟨wa, wc, h1, h2, h3, h4, h5⟩ := h
  have hs := hsl wa wc h1
  refine ⟨wa, wc, (Below.heap_setCell _ _ _ _ (by simp only; omega)).trans h1, h2, h3, ?_, fun b' hb' => ⟨(h5 b' hb').1, by simp [World.setCell]; exact (h5 b' hb').2⟩⟩
  rcases h4 with h4 | ⟨b', o', c, e1, e2, e3⟩
  · exact .inl h4
  · refine .inr ⟨b', o', c, e1, by simp [World.setCell]; exact e2, fun j hj => ?_⟩
    have hb : b' ≠ b := fun e => hs (by rw [e1, e]; rfl)
    rw [World.cell?_of_block (Below.heap_setCell _ _ _ _ (by simp only; omega))]
    exact e3 j hj
/-- A store into the log. -/
theorem So.log (h : So w lg T W tag g p n m v ce cv K L) (t : Nat) (c : Ct) {s : List Int} (hs : s = if c.kd = 0 then [] else if c.kd = 9 then [106] else c.val) : So w lg T (W.setCell ⟨lg, t, none⟩ (.string (strOf s))) tag g p n m v ce cv K (updL L t c) := by
  have ht : tag lg = 0 := h.lo.tag lg rfl
  have k := kst_set (w := W) (tag := tag) ht t (.string (strOf s))
  refine ⟨((Only.of_bl (S := fun _ => False) h.bl).setCell ⟨lg, t, none⟩ (.inr h.lw) _).to_bl fun _ _ e => e, h.tg, h.sw.kst0 k, ⟨?_, h.lo.tag⟩, h.lw⟩
  have e := log_upd (fun s => Value.string (strOf s)) L T t c
  unfold logRow
  rw [← e, ← hs]
  exact own_set h.lo.own t _
theorem So.logAt (h : So w lg T W tag g p n m v ce cv K L) {a : Nat} (ha : a < T) : W.cell? ⟨lg, a, none⟩ = some (.string (strOf (logS L a))) := by
  have e := h.lo.own.cellAt a (by omega)
  rw [e]
  unfold logRow
  rw [List.getElem?_map, List.getElem?_range ha]
  rfl
theorem So.logLt (h : So w lg T W tag g p n m v ce cv K L) : lg < W.heap.size := (h.lo.own.lt lg rfl).2
/-- What a call of each kind leaves to the rest of the round. -/
structure Kd (n m v : Nat) (ce : Int) (i x : Nat) (L : Nat → Ct) (mark : Int) (a : Nat) (b k : Int) (K : KW) : Prop where
  len : K.calls.length = i + 1
  app : k = 1 → Aw n m ce i x L mark K
  read : k = 2 → Next n m v ce K (Then n m ce i x L mark (seenS (logS L a) (decide ((a : Int) < mark))))
  fill : k = 3 → ∀ L', (L' = if (a : Int) < mark then L else updL L a (fillC L a ⟨9, 1000, i, []⟩)) → Next n m v ce K (Then n m ce i x L' mark (seenS (logS L' a) (decide ((a : Int) < mark))))
  trim : k = 4 → Next n m v ce K (Then n m ce i x L (max mark (pk b (n * ce + 1))) ⟨1, 0, []⟩)
theorem solo_call {w : World} {i x a : Nat} {mark b k : Int} (h : SW w tag g p n m v ce cv K) (hP : Ps n m ce i x K L mark) (hf : fit n m v ce = true) (hi : i ≤ 30) (hx : x ≤ 48) (hb : inI b) (ha : pk b (n * ce) = a) (hk : k = 1 ∨ k = 2 ∨ k = 3 ∨ k = 4) :
    Calls Tryz.prog 28 #[.pointer (some ⟨g, 0, none⟩), .int .i64 k, .int .i64 0, .int .i64 b] w fun en w' => en = .returned (.bool true) ∧ ∃ tag', KSt Pc w tag w' tag' ∧ ∃ cv' K1, SW w' tag' g p n m v ce cv' K1 ∧ Kd n m v ce i x L mark a b k K1 := by
  have ft := fit_t hf
  have ha1 : (a : Int) < n * ce := by rw [← ha]; exact (pk_range b (n * ce) (by omega)).2
  rcases hk with rfl | rfl | rfl | rfl
  · refine (solo_app h hP hf hi hx b hb).mono ?_
    rintro en w' ⟨rfl, tag', k, cv', K1, h1, h2, h3⟩
    exact ⟨rfl, tag', k, cv', K1, h1, h2, fun _ => h3, fun e => by simp at e, fun e => by simp at e, fun e => by simp at e⟩
  · refine (solo_read h hP hf hi hx b hb ha ha1).mono ?_
    rintro en w' ⟨rfl, tag', k, cv', K1, h1, h2, h3⟩
    exact ⟨rfl, tag', k, cv', K1, h1, h2, fun e => by simp at e, fun _ => h3, fun e => by simp at e, fun e => by simp at e⟩
  · refine (solo_fill h hP hf hi hx b hb ha ha1 rfl).mono ?_
    rintro en w' ⟨rfl, tag', k, cv', K1, h1, h2, h3⟩
    exact ⟨rfl, tag', k, cv', K1, h1, h2, fun e => by simp at e, fun e => by simp at e, fun _ L' hL' => by rw [hL']; exact h3, fun e => by simp at e⟩
  · refine (solo_trim h hP hf hi hx b hb rfl).mono ?_
    rintro en w' ⟨rfl, tag', k, cv', K1, h1, h2, h3⟩
    exact ⟨rfl, tag', k, cv', K1, h1, h2, fun e => by simp at e, fun e => by simp at e, fun e => by simp at e, fun _ => h3⟩
end
end Go.Proofs.YtnhjmiglegdamaaGreat

namespace Go.Proofs.YtnhjmiglegdamaaGreat
open Go.RowKit Go.Maps
attribute [local go_sem ↓] Go.wp_at_zero Go.wp_at_succ
section
variable {w : World} {tag : Nat → Nat} {g p q n m v : Nat} {ce : Int} {K : KW} {pv av lv cv hv : Value} {ps cs ls : List Value}
theorem CallsX.cells {w : World} {tag : Nat → Nat} {calls : List PK} {ca : Option Addr} {cc : Nat} {cs : List Value} (h : CallsX w tag calls (.slice ca calls.length cc) cs) {k : Nat} {c : PK} (hc : calls[k]? = some c) : ∃ cb ta tc ra rc, ca = some ⟨cb, 0, none⟩ ∧ cb < w.heap.size ∧ w.cell? ⟨cb, k * 11, none⟩ = some (.int .i64 0) ∧ w.cell? ⟨cb, k * 11 + 1, none⟩ = some (.int .i64 k) ∧ w.cell? ⟨cb, k * 11 + 2, none⟩ = some (.int .i64 c.kind) ∧ w.cell? ⟨cb, k * 11 + 3, none⟩ = some (.int .i64 c.pos) ∧ w.cell? ⟨cb, k * 11 + 4, none⟩ = some (.string (strOf c.value)) ∧ w.cell? ⟨cb, k * 11 + 5, none⟩ = some (.slice ta c.tokens.length tc) ∧ w.cell? ⟨cb, k * 11 + 6, none⟩ = some (.int .i64 c.beg) ∧ w.cell? ⟨cb, k * 11 + 7, none⟩ = some (.int .i64 c.fin) ∧ w.cell? ⟨cb, k * 11 + 8, none⟩ = some (.int .i64 c.r.wh) ∧ w.cell? ⟨cb, k * 11 + 9, none⟩ = some (.int .i64 c.r.ad) ∧ w.cell? ⟨cb, k * 11 + 10, none⟩ = some (.slice ra c.r.val.length rc) ∧ w.ownsRow 0 3 1 (.slice ta c.tokens.length tc) c.tokens.length (c.tokens.map (Value.int .i64)) ∧ Sl w (.slice ra c.r.val.length rc) (c.r.val.map B8) := by
  have hk := (List.getElem?_eq_some_iff.1 hc).1
  obtain ⟨cb, rfl, _, lcb, hce, _⟩ := h.row.cells (by omega)
  obtain ⟨tv, rv, e0, e1, e2, e3, e4, e5, e6, e7, e8, e9, e10, e11, e12⟩ := h.c k c hc
  obtain ⟨ta, tc, rfl⟩ := e11.shape
  obtain ⟨ra, rc, rfl⟩ := e12.shape
  rw [List.length_map] at e10 e12
  exact ⟨cb, ta, tc, ra, rc, rfl, lcb, (hce (k * 11) (by omega)).trans e0, (hce (k * 11 + 1) (by omega)).trans e1, (hce (k * 11 + 2) (by omega)).trans e2, (hce (k * 11 + 3) (by omega)).trans e3, (hce (k * 11 + 4) (by omega)).trans e4, (hce (k * 11 + 5) (by omega)).trans e5, (hce (k * 11 + 6) (by omega)).trans e6, (hce (k * 11 + 7) (by omega)).trans e7, (hce (k * 11 + 8) (by omega)).trans e8, (hce (k * 11 + 9) (by omega)).trans e9, (hce (k * 11 + 10) (by omega)).trans e10, e11.own, e12.bs.sl⟩
set_option maxRecDepth 100000 in
set_option maxHeartbeats 4000000 in
theorem trimmedBy_any (h : WdX w tag g p q n m v ce K pv av lv cv hv ps cs ls) (hl : K.calls.length ≤ 1000) (i kd po be fi wh ad : Int) (vs : ByteArray) (ta : Option Addr) (tn tc : Nat) (ra : Option Addr) (rn rc : Nat) {j : Nat} {o : PK} (ho : K.calls[j]? = some o) (h1 : o.kind = 4) (h2 : po < o.pos) (h3 : o.beg < fi) :
    Calls Tryz.prog 63 #[.pointer (some ⟨g, 0, none⟩), callV i kd po vs ta tn tc be fi wh ad ra rn rc] w fun en w' => en = .returned (.bool true) ∧ Bl w w' := by
  obtain ⟨ca, cc, rfl⟩ := h.ca.row.shape
  obtain ⟨W1, hW1⟩ : ∃ W1, w.alloc (.cells #[.int .i64 0, .int .i64 i, .int .i64 kd, .int .i64 po, .string vs, .slice ta tn tc, .int .i64 be, .int .i64 fi, .int .i64 wh, .int .i64 ad, .slice ra rn rc] 60) = W1 := ⟨_, rfl⟩
  have b1 : Bl w W1 := by rw [← hW1]; exact (Bl.refl w).alloc _
  have hb1 : W1.heap[w.heap.size]? = some (.cells #[.int .i64 0, .int .i64 i, .int .i64 kd, .int .i64 po, .string vs, .slice ta tn tc, .int .i64 be, .int .i64 fi, .int .i64 wh, .int .i64 ad, .slice ra rn rc] 60 (0, 0)) := by rw [← hW1]; exact heap_alloc_new w _
  have hjl := (List.getElem?_eq_some_iff.1 ho).1
  have H := hid h
  have Ho := hid ho
  have HW1 := hid hW1
  have Hb1 := hid hb1
  have HB1 := hid b1
  clear h ho hW1 hb1 b1
  go_enter Tryz.func63, Tryz.ntmps63
  go_upto_region 1 with fail
  rw [HW1.out]
  clear HW1
  go_wp2
  go_loopw [5] (fun x wr => ∃ k : Nat, k ≤ j ∧ x = .int .i64 k ∧ Hid (Bl W1 wr)) (fun x _ => K.calls.length - (Go.RowKit.intOf x).toNat)
  case atStart => exact ⟨0, Nat.zero_le _, rfl, Bl.refl _⟩
  case round =>
    obtain ⟨k, hkj, rfl, HB⟩ := hrel
    have bw := HB1.out.trans HB.out
    have hX := H.out.bl (tag' := tag) bw fun _ _ => rfl
    have hlt : k < K.calls.length := by omega
    have hltI : (k : Int) < (K.calls.length : Int) := by omega
    have c7 := hX.cellAt 7 rfl
    have lgr := hX.lt
    have hbx := (HB.out.heap (Array.getElem?_eq_some_iff.1 Hb1.out).1).trans Hb1.out
    have lbx : w.heap.size < wr.heap.size := (Array.getElem?_eq_some_iff.1 hbx).1
    have x3 : wr.cell? ⟨w.heap.size, 3, none⟩ = some (.int .i64 po) := cell_of_row wr _ 3 _ 60 (0, 0) hbx
    have x7 : wr.cell? ⟨w.heap.size, 7, none⟩ = some (.int .i64 fi) := cell_of_row wr _ 7 _ 60 (0, 0) hbx
    obtain ⟨c, hc⟩ : ∃ c, K.calls[k]? = some c := ⟨_, List.getElem?_eq_getElem hlt⟩
    obtain ⟨cb, ta', tc', ra', rc', rfl, lcb, d0, d1, d2, d3, d4, d5, d6, d7, d8, d9, d10, _, _⟩ := hX.ca.cells hc
    obtain ⟨O, hO⟩ : ∃ O, Obj.cells #[Value.int .i64 0, .int .i64 k, .int .i64 c.kind, .int .i64 c.pos, .string (strOf c.value), .slice ta' c.tokens.length tc', .int .i64 c.beg, .int .i64 c.fin, .int .i64 c.r.wh, .int .i64 c.r.ad, .slice ra' c.r.val.length rc'] 60 = O := ⟨_, rfl⟩
    obtain ⟨W5, hW5⟩ : ∃ W5, wr.alloc O = W5 := ⟨_, rfl⟩
    have bA := (Bl.refl wr).alloc O
    have hbox := heap_alloc_new wr O
    rw [hW5] at bA hbox
    have y3 := (bA.cell lbx).trans x3
    have y7 := (bA.cell lbx).trans x7
    have lbx5 := Nat.lt_of_lt_of_le lbx bA.lt
    have lo5 : wr.heap.size < W5.heap.size := (Array.getElem?_eq_some_iff.1 hbox).1
    rw [← hO] at hbox
    have z2 : W5.cell? ⟨wr.heap.size, 2, none⟩ = some (.int .i64 c.kind) := cell_of_row W5 _ 2 _ 60 (0, 0) hbox
    have z3 : W5.cell? ⟨wr.heap.size, 3, none⟩ = some (.int .i64 c.pos) := cell_of_row W5 _ 3 _ 60 (0, 0) hbox
    have z6 : W5.cell? ⟨wr.heap.size, 6, none⟩ = some (.int .i64 c.beg) := cell_of_row W5 _ 6 _ 60 (0, 0) hbox
    have HO := hid hO
    have HW5 := hid hW5
    have HBA := hid bA
    have Hc := hid hc
    have hne : Hid (¬ (c.kind = 4 ∧ po < c.pos ∧ c.beg < fi) → k < j) := fun hn => by
      apply Nat.lt_of_le_of_ne hkj
      intro e
      subst e
      have e2 : c = o := by have := Hc.out.symm.trans Ho.out; simpa using this
      subst e2
      exact hn ⟨h1, h2, h3⟩
    clear hX hbx hbox hO hW5 bA hc bw
    go_upto_region 5 with fail
    rw [HO.out, HW5.out]
    clear HO HW5 d0 d1 d2 d3 d4 d5 d6 d7 d8 d9 d10 c7
    have HBf := hid (HB.out.trans HBA.out)
    by_cases k4 : c.kind = 4
    · rw [k4] at z2
      by_cases k5 : po < c.pos
      · by_cases k6 : c.beg < fi
        · go_wp2
          go_ret
          exact ⟨rfl, HB1.out.trans HBf.out⟩
        · have := hne.out (fun e => k6 e.2.2)
          go_wp2
          exact ⟨⟨k + 1, by omega, by go_num, HBf⟩, by simp [Go.RowKit.intOf]; omega⟩
      · have := hne.out (fun e => k5 e.2.1)
        go_wp2
        exact ⟨⟨k + 1, by omega, by go_num, HBf⟩, by simp [Go.RowKit.intOf]; omega⟩
    · have := hne.out (fun e => k4 e.1)
      go_wp2
      exact ⟨⟨k + 1, by omega, by go_num, HBf⟩, by simp [Go.RowKit.intOf]; omega⟩
end
end Go.Proofs.YtnhjmiglegdamaaGreat
