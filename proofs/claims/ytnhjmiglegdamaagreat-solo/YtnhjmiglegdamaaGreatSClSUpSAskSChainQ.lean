-- A client with one call at most, as it lies in memory.
-- How a client's memory turns.
-- A client asks.
-- The chain of a call's address; a client looks, and writes along the chain.
import Derived.Test.YtnhjmiglegdamaaGreatSVopenSVnodeSVidleSQuestSContSAwaitSBkSPureQ
namespace Go.Proofs.YtnhjmiglegdamaaGreat
open Go.RowKit Go.Maps
attribute [local go_sem ↓] Go.wp_at_zero Go.wp_at_succ

/-- A reply as it lies in a map. -/
structure AnV (w : World) (tag : Nat → Nat) (tc : Nat) (A : An) (v : Value) : Prop where
  ex : ∃ s, v = .agg #[.int .i64 A.wh, .int .i64 A.ep, .int .i64 A.mark, .int .i64 A.ct.kd, .int .i64 A.ct.cl, .int .i64 A.ct.ca, s] ∧ Rd w tag tc 5 s (A.ct.val.map B8)
/-- The entries of a map of answers. -/
def entA (i : Nat) (z : Int × Value) : MapEntry := ⟨.int .i64 z.1, z.2, i⟩
def entsA (l : List (Int × Value)) : Array MapEntry := (l.mapIdx entA).toArray
/-- Who has answered, and what. -/
def AnsOk (w : World) (tag : Nat → Nat) (tc : Nat) (v : Value) (zz : List (Int × An)) : Prop :=
  (v = .map none ∧ zz = []) ∨ ∃ gm l, v = .map (some gm) ∧ tag gm = tc ∧ w.heap[gm]? = some (.map (entsA l) l.length) ∧ l.length = zz.length ∧ ∀ (i : Nat) (z : Int × An), zz[i]? = some z → ∃ x, l[i]? = some (z.1, x) ∧ AnV w tag tc z.2 x
/-- The eleven cells of a question. -/
def qL (q : PQ) (vv nv av : Value) : List Value := [.int .i64 q.kd, .int .i64 q.nr, .int .i64 0, .int .i64 q.pl, .int .i64 q.ct.kd, .int .i64 q.ct.cl, .int .i64 q.ct.ca, vv, nv, .bool q.due, av]
/-- What a question has in memory. -/
structure QR (w : World) (tag : Nat → Nat) (tc : Nat) (q : PQ) (vv nv av : Value) : Prop where
  val : Rd w tag tc 5 vv (q.ct.val.map B8)
  nodes : Rd w tag tc 3 nv (q.nodes.map (Value.int .i64))
  ans : AnsOk w tag tc av q.ans
  nil : av = .map none → q.nodes = []
/-- The results. -/
def ResOk (w : World) (tag : Nat → Nat) (tc : Nat) (v : Value) (rs : List Rz) : Prop :=
  ∃ xs, w.ownsRow 0 43 3 v rs.length xs ∧ (∀ b, v.ownBlock = some b → tag b = tc) ∧ ∀ i r, rs[i]? = some r → xs[3 * i]? = some (.int .i64 r.wh) ∧ xs[3 * i + 1]? = some (.int .i64 r.ad) ∧ ∃ s, xs[3 * i + 2]? = some s ∧ Rd w tag tc 5 s (r.val.map B8)
/-- The layout: of each of n chains its m units. -/
def LayOk (w : World) (tag : Nat → Nat) (tc : Nat) (v : Value) (n m : Nat) : Prop :=
  ∃ g arr, v = .slice (some ⟨g, 0, none⟩) n n ∧ tag g = tc ∧ w.heap[g]? = some (.cells arr 24 (0, 0)) ∧ ∀ k, k < n → ∃ x, arr[k]? = some x ∧ Rd w tag tc 3 x ((List.range m).map fun (i : Nat) => Value.int .i64 (k * m + i))
/-- The cells of a call. -/
def callL (c : PC) (ov cv ev vv nv av : Value) : List Value :=
  [.int .i64 c.kind, .int .i64 c.num, .int .i64 c.addr, .int .i64 0, .int .i64 c.own.kd, .int .i64 c.own.cl, .int .i64 c.own.ca, ov, .int .i64 c.cont.kd, .int .i64 c.cont.cl, .int .i64 c.cont.ca, cv, .int .i64 c.place, .int .i64 c.e.wh, .int .i64 c.e.ad, ev,
   .int .i64 c.q.kd, .int .i64 c.q.nr, .int .i64 0, .int .i64 c.q.pl, .int .i64 c.q.ct.kd, .int .i64 c.q.ct.cl, .int .i64 c.q.ct.ca, vv, nv, .bool c.q.due, av]
/-- The cells of a client. -/
def cliL (n m : Nat) (vo ce id : Int) (lv rv : Value) (bm : Nat) (asked : Int) (q : PQ) (vv nv av : Value) : List Value :=
  [.int .i64 n, .int .i64 m, .int .i64 vo, .int .i64 ce, .int .i64 id, .int .i64 0, lv, rv, .map (some bm), .int .i64 asked,
   .int .i64 q.kd, .int .i64 q.nr, .int .i64 0, .int .i64 q.pl, .int .i64 q.ct.kd, .int .i64 q.ct.cl, .int .i64 q.ct.ca, vv, nv, .bool q.due, av,
   .int .i64 0, .int .i64 0,
   .int .i64 0, .bool false, .map none, .int .i64 0, .slice none 0 0,
   .int .i64 0, .int .i64 0, .int .i64 0, .int .i64 0, .int .i64 0, .int .i64 0, .int .i64 0, .slice none 0 0, .slice none 0 0, .bool false, .map none,
   .int .i64 0, .int .i64 0, .int .i64 0, .int .i64 0, .int .i64 0, .int .i64 0, .int .i64 0, .slice none 0 0, .slice none 0 0, .bool false, .map none,
   .bool false, .bool false]
/-- Two blocks of maps are two. -/
def NeMap (u v : Value) : Prop := ∀ b, u = .map (some b) → v ≠ .map (some b)
/-- The call's block. -/
structure CallOk (w : World) (tag : Nat → Nat) (tc q : Nat) (c : PC) (ov cv ev vv nv av : Value) : Prop where
  hq : w.heap[q]? = some (.cells (callL c ov cv ev vv nv av).toArray 164 (0, 0))
  tq : tag q = tc
  own : Rd w tag tc 5 ov (c.own.val.map B8)
  cont : Rd w tag tc 5 cv (c.cont.val.map B8)
  e : Rd w tag tc 5 ev (c.e.val.map B8)
  q : QR w tag tc c.q vv nv av
/-- The call that is pending, beside the client's two other maps. -/
def CallB (w : World) (tag : Nat → Nat) (tc q : Nat) (bm : Nat) (pv : Value) (k : Nat) (c : PC) : Prop :=
  ∃ ov cv ev vv nv av, CallOk w tag tc q c ov cv ev vv nv av ∧ c.num < k ∧ NeMap av (.map (some bm)) ∧ NeMap av pv
def pendE (q : Nat) (born : Nat) : Option PC → Array MapEntry
  | none => #[]
  | some c => #[⟨.int .i64 c.num, .pointer (some ⟨q, 0, none⟩), born⟩]
structure ClK (w : World) (tag : Nat → Nat) (tc p q : Nat) (n m : Nat) (vo ce id : Int) (X : CX) (lv rv vv nv av : Value) (bm born clk : Nat) : Prop where
  hp : w.heap[p]? = some (.cells (cliL n m vo ce id lv rv bm X.asked X.pr vv nv av).toArray 114 (0, 0))
  tp : tag p = tc
  lay : LayOk w tag tc lv n m
  res : ResOk w tag tc rv X.res
  tb : tag bm = tc
  mp : w.heap[bm]? = some (.map (pendE q born X.pend) clk)
  bc : born < clk ∨ X.pend = none
  pr : QR w tag tc X.pr vv nv av
  nb : NeMap av (.map (some bm))
  call : ∀ c, X.pend = some c → CallB w tag tc q bm av X.res.length c
/-- A client in block p, its pending call (if there is one) in block q. -/
def Cl (w : World) (tag : Nat → Nat) (tc p q : Nat) (n m : Nat) (vo ce id : Int) (X : CX) : Prop := ∃ lv rv vv nv av bm born clk, ClK w tag tc p q n m vo ce id X lv rv vv nv av bm born clk

section
variable {w w' : World} {tag tag' : Nat → Nat} {tc p q n m : Nat} {vo ce id : Int} {X : CX} {lv rv vv nv av pv : Value} {bm born clk k : Nat}
theorem AnV.only {A : An} {v : Value} (h : AnV w tag tc A v) {T : Nat → Prop} (ho : Only T w w') (hT : ∀ b, b < w.heap.size → tag b = tc → T b → Mu w b) (ht : ∀ b, b < w.heap.size → tag b = tc → tag' b = tc) : AnV w' tag' tc A v := by
  obtain ⟨s, h1, h2⟩ := h
  exact ⟨s, h1, h2.only ho hT (.inr (.inl rfl)) ht⟩
theorem AnsOk.only {v : Value} {zz : List (Int × An)} (h : AnsOk w tag tc v zz) {T : Nat → Prop} (ho : Only T w w') (hT : ∀ b, b < w.heap.size → tag b = tc → T b → Mu w b) (hv : ∀ b, v = .map (some b) → b < w.heap.size → tag b = tc → ¬ T b) (ht : ∀ b, b < w.heap.size → tag b = tc → tag' b = tc) : AnsOk w' tag' tc v zz := by
  rcases h with h | ⟨gm, l, h1, h2, h3, h4, h5⟩
  · exact .inl h
  · have lg := (Array.getElem?_eq_some_iff.1 h3).1
    refine .inr ⟨gm, l, h1, ht gm lg h2, (ho.block gm lg (hv gm h1 lg h2)).trans h3, h4, fun i z hz => ?_⟩
    obtain ⟨x, k1, k2⟩ := h5 i z hz
    exact ⟨x, k1, k2.only ho hT ht⟩
theorem QR.only {q : PQ} (h : QR w tag tc q vv nv av) {T : Nat → Prop} (ho : Only T w w') (hT : ∀ b, b < w.heap.size → tag b = tc → T b → Mu w b) (hv : ∀ b, av = .map (some b) → b < w.heap.size → tag b = tc → ¬ T b) (ht : ∀ b, b < w.heap.size → tag b = tc → tag' b = tc) : QR w' tag' tc q vv nv av :=
  ⟨h.val.only ho hT (.inr (.inl rfl)) ht, h.nodes.only ho hT (.inl rfl) ht, h.ans.only ho hT hv ht, h.nil⟩
theorem ResOk.only {v : Value} {rs : List Rz} (h : ResOk w tag tc v rs) {T : Nat → Prop} (ho : Only T w w') (hT : ∀ b, b < w.heap.size → tag b = tc → T b → Mu w b) (hv : ∀ b, v.ownBlock = some b → b < w.heap.size → tag b = tc → ¬ T b) (ht : ∀ b, b < w.heap.size → tag b = tc → tag' b = tc) : ResOk w' tag' tc v rs := by
  obtain ⟨xs, h1, h2, h3⟩ := h
  refine ⟨xs, ho.owns h1 (fun b hb => hv b hb (h1.lt b hb).2 (h2 b hb)), fun b hb => ht b (h1.lt b hb).2 (h2 b hb), fun i r hr => ?_⟩
  obtain ⟨k1, k2, s, k3, k4⟩ := h3 i r hr
  exact ⟨k1, k2, s, k3, k4.only ho hT (.inr (.inl rfl)) ht⟩
theorem LayOk.only {v : Value} (h : LayOk w tag tc v n m) {T : Nat → Prop} (ho : Only T w w') (hT : ∀ b, b < w.heap.size → tag b = tc → T b → Mu w b) (ht : ∀ b, b < w.heap.size → tag b = tc → tag' b = tc) : LayOk w' tag' tc v n m := by
  obtain ⟨g, arr, h1, h2, h3, h4⟩ := h
  have lg := (Array.getElem?_eq_some_iff.1 h3).1
  refine ⟨g, arr, h1, ht g lg h2, (ho.block g lg fun e => (hT g lg h2 e arr 24 (0, 0) h3).2.2 rfl).trans h3, fun k hk => ?_⟩
  obtain ⟨x, k1, k2⟩ := h4 k hk
  exact ⟨x, k1, k2.only ho hT (.inl rfl) ht⟩
theorem CallOk.lt {c : PC} {ov cv ev : Value} (h : CallOk w tag tc q c ov cv ev vv nv av) : q < w.heap.size := (Array.getElem?_eq_some_iff.1 h.hq).1
theorem CallOk.only {c : PC} {ov cv ev : Value} (h : CallOk w tag tc q c ov cv ev vv nv av) {T : Nat → Prop} (ho : Only T w w') (hT : ∀ b, b < w.heap.size → tag b = tc → T b → Mu w b) (hq : ¬ T q) (hv : ∀ b, av = .map (some b) → b < w.heap.size → tag b = tc → ¬ T b) (ht : ∀ b, b < w.heap.size → tag b = tc → tag' b = tc) : CallOk w' tag' tc q c ov cv ev vv nv av :=
  ⟨(ho.block q h.lt hq).trans h.hq, ht q h.lt h.tq, h.own.only ho hT (.inr (.inl rfl)) ht, h.cont.only ho hT (.inr (.inl rfl)) ht, h.e.only ho hT (.inr (.inl rfl)) ht, h.q.only ho hT hv ht⟩
theorem CallB.only {c : PC} (h : CallB w tag tc q bm pv k c) {T : Nat → Prop} (ho : Only T w w') (hT : ∀ b, b < w.heap.size → tag b = tc → T b → Mu w b) (hq : q < w.heap.size → tag q = tc → (∃ arr, w.heap[q]? = some (.cells arr 164 (0, 0))) → ¬ T q) (hv : ∀ b, pv ≠ .map (some b) → b ≠ bm → (∃ es n, w.heap[b]? = some (.map es n)) → tag b = tc → ¬ T b) (ht : ∀ b, b < w.heap.size → tag b = tc → tag' b = tc) : CallB w' tag' tc q bm pv k c := by
  obtain ⟨ov, cv, ev, vv, nv, av, h1, h2, h3, h4⟩ := h
  refine ⟨ov, cv, ev, vv, nv, av, h1.only ho hT (hq h1.lt h1.tq ⟨_, h1.hq⟩) (fun b hb _ tb => hv b (h4 b hb) (fun e => h3 b hb (by rw [e])) ?_ tb) ht, h2, h3, h4⟩
  rcases h1.q.ans with ⟨e, _⟩ | ⟨gm, l, e, _, e3, _⟩
  · rw [e] at hb; simp at hb
  · rw [e] at hb
    simp at hb
    subst hb
    exact ⟨_, _, e3⟩
/-- What turns is none of the client's. -/
theorem ClK.only (h : ClK w tag tc p q n m vo ce id X lv rv vv nv av bm born clk) {T : Nat → Prop} (ho : Only T w w') (hT : ∀ b, b < w.heap.size → T b → tag b ≠ tc) (ht : ∀ b, b < w.heap.size → tag b = tc → tag' b = tc) : ClK w' tag' tc p q n m vo ce id X lv rv vv nv av bm born clk := by
  have hT' : ∀ b, b < w.heap.size → tag b = tc → T b → Mu w b := fun b hb e e' => absurd e (hT b hb e')
  have lb := (Array.getElem?_eq_some_iff.1 h.mp).1
  have lp := (Array.getElem?_eq_some_iff.1 h.hp).1
  exact ⟨(ho.block p lp fun e => hT p lp e h.tp).trans h.hp, ht p lp h.tp, h.lay.only ho hT' ht, h.res.only ho hT' (fun b _ lb tb e => hT b lb e tb) ht, ht bm lb h.tb, (ho.block bm lb fun e => hT bm lb e h.tb).trans h.mp, h.bc, h.pr.only ho hT' (fun b _ lb tb e => hT b lb e tb) ht, h.nb, fun c hc => (h.call c hc).only ho hT' (fun lq tq _ e => hT q lq e tq) (fun b _ _ ⟨_, _, e3⟩ tb e => hT b (Array.getElem?_eq_some_iff.1 e3).1 e tb) ht⟩
theorem Cl.only (h : Cl w tag tc p q n m vo ce id X) {T : Nat → Prop} (ho : Only T w w') (hT : ∀ b, b < w.heap.size → T b → tag b ≠ tc) (ht : ∀ b, b < w.heap.size → tag b = tc → tag' b = tc) : Cl w' tag' tc p q n m vo ce id X := by
  obtain ⟨lv, rv, vv, nv, av, bm, born, clk, h⟩ := h
  exact ⟨lv, rv, vv, nv, av, bm, born, clk, h.only ho hT ht⟩
theorem ClK.bl (h : ClK w tag tc p q n m vo ce id X lv rv vv nv av bm born clk) (hb : Bl w w') (ht : ∀ b, b < w.heap.size → tag b = tc → tag' b = tc) : ClK w' tag' tc p q n m vo ce id X lv rv vv nv av bm born clk :=
  h.only (Only.of_bl (S := fun _ => False) hb) (fun _ _ e => e.elim) ht
theorem Cl.bl (h : Cl w tag tc p q n m vo ce id X) (hb : Bl w w') (ht : ∀ b, b < w.heap.size → tag b = tc → tag' b = tc) : Cl w' tag' tc p q n m vo ce id X :=
  h.only (Only.of_bl (S := fun _ => False) hb) (fun _ _ e => e.elim) ht
end
end Go.Proofs.YtnhjmiglegdamaaGreat

namespace Go.Proofs.YtnhjmiglegdamaaGreat
open Go.RowKit Go.Maps
attribute [local go_sem ↓] Go.wp_at_zero Go.wp_at_succ
def putL (l : List Value) (o : Nat) : List Value → List Value
  | [] => l
  | v :: vs => putL (l.set o v) (o + 1) vs
theorem puts_heap {t : TypeId} {p : Nat} : ∀ (vs : List Value) (o : Nat) (w : World) (l : List Value), w.heap[p]? = some (.cells l.toArray t (0, 0)) → (puts w p o vs).heap[p]? = some (.cells (putL l o vs).toArray t (0, 0))
  | [], _, _, _, h => h
  | v :: vs, o, w, l, h => puts_heap vs (o + 1) _ _ (by
    have := heap_setCell_same w p o l.toArray t v h
    rwa [List.setIfInBounds_toArray] at this)
theorem set_heap {t : TypeId} {p : Nat} (o : Nat) (v : Value) (w : World) (l : List Value) (h : w.heap[p]? = some (.cells l.toArray t (0, 0))) : (w.setCell ⟨p, o, none⟩ v).heap[p]? = some (.cells (l.set o v).toArray t (0, 0)) := puts_heap [v] o w l h
section
variable {w w0 w' : World} {tag tag' : Nat → Nat} {tc p q n m : Nat} {vo ce id : Int} {X X' : CX} {lv rv vv nv av pv vv' nv' av' ov cv ev ov' cv' ev' : Value} {bm born clk k gm : Nat} {c c' : PC}
theorem AnsOk.map {v : Value} {zz : List (Int × An)} (h : AnsOk w tag tc v zz) {b : Nat} (hb : v = .map (some b)) : b < w.heap.size ∧ tag b = tc ∧ ∃ es n, w.heap[b]? = some (.map es n) := by
  rcases h with ⟨e, _⟩ | ⟨gm, l, e, e2, e3, _⟩
  · rw [e] at hb; simp at hb
  · rw [e] at hb
    simp at hb
    subst hb
    exact ⟨(Array.getElem?_eq_some_iff.1 e3).1, e2, _, _, e3⟩
theorem map_ne {b p : Nat} {arr : Array Value} {t : TypeId} {f : Nat × Nat} (h : ∃ es n, w.heap[b]? = some (.map es n)) (hp : w.heap[p]? = some (.cells arr t f)) : b ≠ p := by
  rintro rfl
  obtain ⟨es, n, h⟩ := h
  rw [h] at hp; simp at hp
theorem CallB.fresh (h : CallB w0 tag tc q bm pv k c) (hb : Bl w0 w) (ht : ∀ b, b < w0.heap.size → tag b = tc → tag' b = tc) (hg : w0.heap.size ≤ gm) : CallB w tag' tc q bm (.map (some gm)) k c := by
  obtain ⟨ov, cv, ev, vv, nv, av, h1, h2, h3, h4⟩ := h
  have ho := Only.of_bl (S := fun _ => False) hb
  refine ⟨ov, cv, ev, vv, nv, av, h1.only ho (fun _ _ _ e => e.elim) (fun e => e) (fun _ _ _ _ e => e) ht, h2, h3, fun b hb' e => ?_⟩
  have := (h1.q.ans.map hb').1
  simp at e
  omega
theorem CallOk.mu (h : CallOk w tag tc q c ov cv ev vv nv av) : ∀ b, b < w.heap.size → tag b = tc → b = q → Mu w b := fun b _ _ e => by rw [e]; exact Mu.of_ne h.hq (by decide)
theorem ClK.mu (h : ClK w tag tc p q n m vo ce id X lv rv vv nv av bm born clk) : ∀ b, b < w.heap.size → tag b = tc → b = p → Mu w b := fun b _ _ e => by rw [e]; exact Mu.of_ne h.hp (by decide)
theorem ClK.lp (h : ClK w tag tc p q n m vo ce id X lv rv vv nv av bm born clk) : p < w.heap.size := (Array.getElem?_eq_some_iff.1 h.hp).1
theorem ClK.lb (h : ClK w tag tc p q n m vo ce id X lv rv vv nv av bm born clk) : bm < w.heap.size := (Array.getElem?_eq_some_iff.1 h.mp).1
/-- The client's own block turns. -/
theorem ClK.reP (h : ClK w tag tc p q n m vo ce id X lv rv vv nv av bm born clk) (ho : Only (fun b => b = p) w w') (hp' : w'.heap[p]? = some (.cells (cliL n m vo ce id lv rv bm X'.asked X'.pr vv' nv' av').toArray 114 (0, 0))) (hpend : X'.pend = X.pend) (hres : X'.res = X.res) (pr : QR w tag tc X'.pr vv' nv' av') (nb : NeMap av' (.map (some bm))) (call : ∀ c, X.pend = some c → CallB w tag tc q bm av' X.res.length c) : ClK w' tag tc p q n m vo ce id X' lv rv vv' nv' av' bm born clk := by
  have ht : ∀ b, b < w.heap.size → tag b = tc → tag b = tc := fun _ _ e => e
  refine ⟨hp', h.tp, h.lay.only ho h.mu ht, by
      rw [hres]
      exact h.res.only ho h.mu (fun b hb _ _ e => by
        obtain ⟨xs, h1, _⟩ := h.res
        exact own_ne_block h1 h.hp (by decide) (by rw [hb, e])) ht, h.tb, by rw [hpend]; exact (ho.block bm h.lb fun e => map_ne ⟨_, _, h.mp⟩ h.hp e).trans h.mp, by rw [hpend]; exact h.bc, pr.only ho h.mu (fun b hb _ _ e => map_ne (pr.ans.map hb).2.2 h.hp e) ht, nb, fun c hc => ?_⟩
  rw [hpend] at hc
  rw [hres]
  exact (call c hc).only ho h.mu (fun _ _ ⟨arr, ha⟩ e => by
    rw [e, h.hp] at ha; simp at ha) (fun _ _ _ hm _ e => map_ne hm h.hp e) ht
theorem CallOk.re (h : CallOk w tag tc q c ov cv ev vv nv av) (ho : Only (fun b => b = q) w w') (hq' : w'.heap[q]? = some (.cells (callL c' ov' cv' ev' vv' nv' av').toArray 164 (0, 0))) (r1 : Rd w tag tc 5 ov' (c'.own.val.map B8)) (r2 : Rd w tag tc 5 cv' (c'.cont.val.map B8)) (r3 : Rd w tag tc 5 ev' (c'.e.val.map B8)) (r4 : QR w tag tc c'.q vv' nv' av') : CallOk w' tag tc q c' ov' cv' ev' vv' nv' av' :=
  ⟨hq', h.tq, r1.only ho h.mu (.inr (.inl rfl)) (fun _ _ e => e), r2.only ho h.mu (.inr (.inl rfl)) (fun _ _ e => e), r3.only ho h.mu (.inr (.inl rfl)) (fun _ _ e => e), r4.only ho h.mu (fun _ hb _ _ e => map_ne (r4.ans.map hb).2.2 h.hq e) (fun _ _ e => e)⟩
/-- The call's block turns. -/
theorem ClK.reQ (h : ClK w tag tc p q n m vo ce id X lv rv vv nv av bm born clk) (hc : X.pend = some c) (k : CallOk w tag tc q c ov cv ev vv' nv' av') (ho : Only (fun b => b = q) w w') {ov2 cv2 ev2 vv2 nv2 av2 : Value} (hQ : CallOk w' tag tc q c' ov2 cv2 ev2 vv2 nv2 av2) (hl : c.num < X.res.length) (hn : c'.num = c.num) (nb : NeMap av2 (.map (some bm))) (nc : NeMap av2 av) : ClK w' tag tc p q n m vo ce id { X with pend := some c' } lv rv vv nv av bm born clk := by
  have ht : ∀ b, b < w.heap.size → tag b = tc → tag b = tc := fun _ _ e => e
  have hpq : p ≠ q := fun e => by
    have := h.hp
    rw [e, k.hq] at this; simp at this
  refine ⟨(ho.block p h.lp hpq).trans h.hp, h.tp, h.lay.only ho k.mu ht, h.res.only ho k.mu (fun b hb _ _ e => by
        obtain ⟨xs, h1, _⟩ := h.res
        exact own_ne_block h1 k.hq (by decide) (by rw [hb, e])) ht, h.tb, ?_, ?_, h.pr.only ho k.mu (fun b hb _ _ e => map_ne (h.pr.ans.map hb).2.2 k.hq e) ht, h.nb, fun c2 hc2 => ?_⟩
  · rw [ho.block bm h.lb fun e => map_ne ⟨_, _, h.mp⟩ k.hq e, h.mp, hc]
    simp [pendE, hn]
  · exact .inl (h.bc.resolve_right (by rw [hc]; simp))
  · simp only [Option.some.injEq] at hc2
    subst hc2
    exact ⟨_, _, _, _, _, _, hQ, by rw [hn]; exact hl, nb, nc⟩
set_option maxHeartbeats 1000000 in
/-- The numbers of questions. -/
theorem ClK.asked (h : ClK w tag tc p q n m vo ce id X lv rv vv nv av bm born clk) (a : Int) : ClK (w.setCell ⟨p, 9, none⟩ (.int .i64 a)) tag tc p q n m vo ce id { X with asked := a } lv rv vv nv av bm born clk :=
  h.reP ((Only.refl (fun b => b = p) w).setCell ⟨p, 9, none⟩ (.inl rfl) _) (set_heap 9 _ w _ h.hp) rfl rfl h.pr h.nb h.call
set_option maxHeartbeats 1000000 in
/-- A new question of the call. -/
theorem ClK.setQ (h : ClK w tag tc p q n m vo ce id X lv rv vv nv av bm born clk) (hc : X.pend = some c) (kd nr pl ck cl ca : Int) (val nodes : List Int) (v2 n2 : Value) (due : Bool) (gm : Nat) (hv : Rd w tag tc 5 v2 (val.map B8)) (hn : Rd w tag tc 3 n2 (nodes.map (Value.int .i64))) (hg : w.heap[gm]? = some (.map #[] 0)) (tg : tag gm = tc) (g1 : gm ≠ bm) (g2 : av ≠ .map (some gm)) :
    ClK (puts w q 16 [.int .i64 kd, .int .i64 nr, .int .i64 0, .int .i64 pl, .int .i64 ck, .int .i64 cl, .int .i64 ca, v2, n2, .bool due, .map (some gm)]) tag tc p q n m vo ce id { X with pend := some { c with q := ⟨kd, nr, pl, ⟨ck, cl, ca, val⟩, nodes, due, []⟩ } } lv rv vv nv av bm born clk := by
  obtain ⟨ov, cv, ev, v3, n3, a3, k, hl, k2, k3⟩ := h.call c hc
  have ho : Only (fun b => b = q) w (puts w q 16 [.int .i64 kd, .int .i64 nr, .int .i64 0, .int .i64 pl, .int .i64 ck, .int .i64 cl, .int .i64 ca, v2, n2, .bool due, .map (some gm)]) := puts_only (S := fun b => b = q) (.inl rfl) _ 16 w (Only.refl _ w)
  refine h.reQ hc k ho (k.re (c' := { c with q := ⟨kd, nr, pl, ⟨ck, cl, ca, val⟩, nodes, due, []⟩ }) ho (puts_heap _ 16 w _ k.hq) k.own k.cont k.e ⟨hv, hn, .inr ⟨gm, [], rfl, tg, hg, rfl, fun i z hz => by simp at hz⟩, fun e => by simp at e⟩) hl rfl ?_ ?_
  · intro b hb e
    simp at hb e
    omega
  · intro b hb e
    simp at hb
    subst hb
    exact g2 e
end
end Go.Proofs.YtnhjmiglegdamaaGreat

namespace Go.Proofs.YtnhjmiglegdamaaGreat
open Go.RowKit Go.Maps
attribute [local go_sem ↓] Go.wp_at_zero Go.wp_at_succ
section
variable {w w0 w' : World} {tag tag' : Nat → Nat} {tc p q n m : Nat} {vo ce id : Int} {X X' : CX} {lv rv vv nv av pv vv' nv' av' ov cv ev ov' cv' ev' : Value} {bm born clk k gm : Nat} {c c' : PC}
theorem ClK.cellAt (h : ClK w tag tc p q n m vo ce id X lv rv vv nv av bm born clk) (i : Nat) {v : Value} (e : (cliL n m vo ce id lv rv bm X.asked X.pr vv nv av)[i]? = some v) : w.cell? ⟨p, i, none⟩ = some v := by
  rw [cell_of_row w p i _ 114 (0, 0) h.hp]; simpa using e
theorem ClK.frz (h : ClK w tag tc p q n m vo ce id X lv rv vv nv av bm born clk) (i : Nat) : w.frozen? ⟨p, i, none⟩ = false := frozen_of_row w p i _ 114 h.hp
theorem CallOk.cellAt (h : CallOk w tag tc q c ov cv ev vv nv av) (i : Nat) {v : Value} (e : (callL c ov cv ev vv nv av)[i]? = some v) : w.cell? ⟨q, i, none⟩ = some v := by
  rw [cell_of_row w q i _ 164 (0, 0) h.hq]; simpa using e
theorem CallOk.frz (h : CallOk w tag tc q c ov cv ev vv nv av) (i : Nat) : w.frozen? ⟨q, i, none⟩ = false := frozen_of_row w q i _ 164 h.hq
set_option maxRecDepth 100000 in
set_option maxHeartbeats 2000000 in
theorem cl_number (h : ClK w tag tc p q n m vo ce id X lv rv vv nv av bm born clk) (ha : 0 ≤ X.asked) (hb : X.asked ≤ 1000000) :
    Calls Tryz.prog 191 #[.pointer (some ⟨p, 0, none⟩)] w fun en w' => en = .returned (.int .i64 (X.asked + 1)) ∧ ClK w' tag tc p q n m vo ce id { X with asked := X.asked + 1 } lv rv vv nv av bm born clk ∧ Only (fun b => b = p) w w' := by
  have H := hid (h.asked (X.asked + 1))
  have c9 := h.cellAt 9 rfl
  have f9 := h.frz 9
  have lp := h.lp
  have ho : Hid (Only (fun b => b = p) w (w.setCell ⟨p, 9, none⟩ (.int .i64 (X.asked + 1)))) := (Only.refl (fun b => b = p) w).setCell ⟨p, 9, none⟩ (.inl rfl) _
  clear h
  generalize X.asked = a at *
  go_enter Tryz.func191, Tryz.ntmps191
  go_wp2
  go_ret
  exact ⟨rfl, H.out, ho.out⟩
theorem Cl.of (h : ClK w tag tc p q n m vo ce id X lv rv vv nv av bm born clk) : Cl w tag tc p q n m vo ce id X := ⟨_, _, _, _, _, _, _, _, h⟩
theorem pq_tc (h : ClK w tag tc p q n m vo ce id X lv rv vv nv av bm born clk) (k : CallOk w tag tc q c ov cv ev vv' nv' av') (ho : Only (fun b => b = p ∨ b = q) w w') : Only (Tc tag tc w) w w' := ho.mono fun b lb e => by
  rcases e with e | e
  · exact ⟨by rw [e]; exact h.tp, h.mu b lb (by rw [e]; exact h.tp) e⟩
  · exact ⟨by rw [e]; exact k.tq, k.mu b lb (by rw [e]; exact k.tq) e⟩
theorem ask_mid {W W' w2 : World} {g : Nat} {kd nr pl ck cl ca : Int} {v : Value} (ht : tag g ≠ tc) (hk : ClK w2 tag tc p q n m vo ce id X lv rv vv nv av bm born clk) (hg : w2.heap[g]? = some (.cells #[.int .i64 kd, .int .i64 0, .int .i64 0, .int .i64 pl, .int .i64 ck, .int .i64 cl, .int .i64 ca, v] 100 (0, 0))) (ho : Only (fun b => b = p) W' w2) (hb : Bl W W') :
    Hid (ClK ((w2.setCell ⟨g, 1, none⟩ (.int .i64 nr)).setCell ⟨g, 2, none⟩ (.int .i64 0)) tag tc p q n m vo ce id X lv rv vv nv av bm born clk) ∧ Hid (((w2.setCell ⟨g, 1, none⟩ (.int .i64 nr)).setCell ⟨g, 2, none⟩ (.int .i64 0)).heap[g]? = some (.cells #[.int .i64 kd, .int .i64 nr, .int .i64 0, .int .i64 pl, .int .i64 ck, .int .i64 cl, .int .i64 ca, v] 100 (0, 0))) ∧ Hid (Only (fun b => b = p ∨ b = g) W ((w2.setCell ⟨g, 1, none⟩ (.int .i64 nr)).setCell ⟨g, 2, none⟩ (.int .i64 0))) := by
  have O : Only (fun b => b = g) w2 ((w2.setCell ⟨g, 1, none⟩ (.int .i64 nr)).setCell ⟨g, 2, none⟩ (.int .i64 0)) := ((Only.refl (fun b => b = g) w2).setCell ⟨g, 1, none⟩ (.inl rfl) _).setCell ⟨g, 2, none⟩ (.inl rfl) _
  refine ⟨hk.only O (fun b _ e => by rw [e]; exact ht) (fun _ _ e => e), set_heap 2 _ _ _ (set_heap 1 _ w2 [.int .i64 kd, .int .i64 0, .int .i64 0, .int .i64 pl, .int .i64 ck, .int .i64 cl, .int .i64 ca, v] hg), ((Only.of_bl hb).trans (ho.mono fun _ _ e => .inl e)).trans (O.mono fun _ _ e => .inr e)⟩
set_option maxRecDepth 100000 in
set_option maxHeartbeats 4000000 in
theorem cl_ask (h : ClK w tag tc p q n m vo ce id X lv rv vv nv av bm born clk) (hc : X.pend = some c) (ha : 0 ≤ X.asked) (hb : X.asked ≤ 1000000) (kd pl ck cl ca : Int) (val nodes : List Int) (va na : Option Addr) (vc nc : Nat) (hv : Rd w tag tc 5 (.slice va val.length vc) (val.map B8)) (hn : Rd w tag tc 3 (.slice na nodes.length nc) (nodes.map (Value.int .i64))) :
    Calls Tryz.prog 187 #[.pointer (some ⟨p, 0, none⟩), .pointer (some ⟨q, 0, none⟩), .slice na nodes.length nc, .agg #[.int .i64 kd, .int .i64 0, .int .i64 0, .int .i64 pl, .int .i64 ck, .int .i64 cl, .int .i64 ca, .slice va val.length vc]] w fun en w' => en = .returned (.tuple #[]) ∧ Cl w' (tagTo tag w.heap.size tc) tc p q n m vo ce id (X.ask c nodes kd pl ⟨ck, cl, ca, val⟩) ∧ Only (Tc tag tc w) w w' := by
  obtain ⟨ov, cv, ev, v3, n3, a3, k, hl, k2, k3⟩ := h.call c hc
  obtain ⟨W, hW⟩ : ∃ W, w.alloc (.cells #[.int .i64 kd, .int .i64 0, .int .i64 0, .int .i64 pl, .int .i64 ck, .int .i64 cl, .int .i64 ca, .slice va val.length vc] 100) = W := ⟨_, rfl⟩
  have bW := (Bl.refl w).alloc (.cells #[.int .i64 kd, .int .i64 0, .int .i64 0, .int .i64 pl, .int .i64 ck, .int .i64 cl, .int .i64 ca, .slice va val.length vc] 100)
  have hX := heap_alloc_new w (.cells #[.int .i64 kd, .int .i64 0, .int .i64 0, .int .i64 pl, .int .i64 ck, .int .i64 cl, .int .i64 ca, .slice va val.length vc] 100)
  rw [hW] at bW hX
  have HN : Hid (∀ W', Bl W W' → _) := fun W' hW' => cl_number (h.bl (tag' := tagTo tag w.heap.size (tc + 1)) (bW.trans hW') (fun b hb e => by rw [tagTo_old _ _ _ _ hb]; exact e)) ha hb
  have H := hid h
  have Hk := hid k
  have Hv := hid hv
  have Hn := hid hn
  have hp0 := h.lp
  have hq0 := k.lt
  have HWW := hid hW
  have BW := hid bW
  have HX := hid hX
  have lg : w.heap.size < W.heap.size := (Array.getElem?_eq_some_iff.1 hX).1
  have d5 := (h.bl (tag' := tag) bW (fun _ _ e => e)).cellAt 5 rfl
  obtain ⟨⟨q0, q1, q2, q3, q4, q5, q6, q7⟩, _, _⟩ := row8 hX
  have f1 := frozen_of_row W w.heap.size 1 _ 100 hX
  have f2 := frozen_of_row W w.heap.size 2 _ 100 hX
  have lpW := Nat.lt_of_lt_of_le hp0 bW.lt
  clear h k hv hn hW bW hX
  go_enter Tryz.func187, Tryz.ntmps187
  go_upto_region 1 with fail
  rw [HWW.out]
  clear HWW
  go_cut [] (fun wx => Hid (ClK wx (tagTo tag w.heap.size (tc + 1)) tc p q n m vo ce id { X with asked := X.asked + 1 } lv rv vv nv av bm born clk) ∧ Hid (wx.heap[w.heap.size]? = some (.cells #[.int .i64 kd, .int .i64 (X.asked + 1), .int .i64 0, .int .i64 pl, .int .i64 ck, .int .i64 cl, .int .i64 ca, .slice va val.length vc] 100 (0, 0))) ∧ Hid (Only (fun b => b = p ∨ b = w.heap.size) W wx))
  case first =>
    go_region_with (go_at_call 191; refine (HN.out _ ?hb).mono ?_; (case hb => first | exact (Bl.refl _).drewN _ | exact (Bl.refl _).drew | exact Bl.refl _); rintro en w2 ⟨rfl, hk2, ho2⟩; have e1 := (ho2.block w.heap.size lg (by omega)).trans HX.out; have z5 := hk2.cellAt 5 rfl; have z1 := cell_of_row w2 w.heap.size 1 _ 100 (0, 0) e1; have z2 := cell_of_row w2 w.heap.size 2 _ 100 (0, 0) e1; have g1 := frozen_of_row w2 w.heap.size 1 _ 100 e1; have g2 := frozen_of_row w2 w.heap.size 2 _ 100 e1; have lp2 := hk2.lp; have lg2 := (Array.getElem?_eq_some_iff.1 e1).1; have HE1 := hid e1; have HK2 := hid hk2; have HO2 := hid ho2; clear hk2 ho2 e1)
    all_goals (go_wp2_with fail; go_meet)
    all_goals exact ask_mid (by rw [tagTo_new _ _ _ _ (Nat.le_refl _)]; omega) HK2.out HE1.out HO2.out (by first | exact Bl.refl _ | exact (Bl.refl _).drew | exact (Bl.refl _).drewN _)
  case rest =>
    obtain ⟨HC, HB, HO⟩ := hcut
    obtain ⟨⟨z0, z1, z2, z3, z4, z5, z6, z7⟩, _, lz⟩ := row8 HB.out
    have HQ := hid (newQuestion_any wc na nodes.length nc kd (X.asked + 1) 0 pl ck cl ca va val.length vc)
    have lwW := BW.out.lt
    have lWc := HO.out.size
    clear q0 q1 q2 q3 q4 q5 q6 q7 f1 f2 d5 HN HX
    go_wp2_with fail
    refine HQ.out.mono ?_
    rintro en w3 ⟨gm, rfl, hgm, hm3, b3⟩
    have H3 := (HC.out.bl b3 (tag' := tagTo tag w.heap.size tc) (fun b hb e => by
      by_cases hlt : b < w.heap.size
      · rw [tagTo_old _ _ _ _ hlt] at e ⊢; exact e
      · rw [tagTo_new _ _ _ _ (by omega)]))
    obtain ⟨ov4, cv4, ev4, v4, n4, a4, k4, _, _, _⟩ := H3.call c hc
    have l3 := k4.lt
    have y16 := k4.cellAt 16 rfl
    have y17 := k4.cellAt 17 rfl
    have y18 := k4.cellAt 18 rfl
    have y19 := k4.cellAt 19 rfl
    have y20 := k4.cellAt 20 rfl
    have y21 := k4.cellAt 21 rfl
    have y22 := k4.cellAt 22 rfl
    have y23 := k4.cellAt 23 rfl
    have y24 := k4.cellAt 24 rfl
    have y25 := k4.cellAt 25 rfl
    have y26 := k4.cellAt 26 rfl
    have g16 := k4.frz 16
    have g17 := k4.frz 17
    have g18 := k4.frz 18
    have g19 := k4.frz 19
    have g20 := k4.frz 20
    have g21 := k4.frz 21
    have g22 := k4.frz 22
    have g23 := k4.frz 23
    have g24 := k4.frz 24
    have g25 := k4.frz 25
    have g26 := k4.frz 26
    have bWc : Only (fun b => b = p) w wc := ⟨HO.out.os.trans BW.out.os, HO.out.tape.trans BW.out.tape, HO.out.output.trans BW.out.output, by omega, fun i hi hs => (HO.out.block i (by omega) (by omega)).trans (BW.out.heap hi)⟩
    have O3 := hid (bWc.trans (Only.of_bl b3))
    have lb3 := b3.lt
    have Hm3 := hid hm3
    have H3' := hid H3
    have hlb := H3.lb
    have hgb : gm ≠ bm := by have := HC.out.lb; omega
    have hga : Hid (av ≠ .map (some gm)) := fun e => by
      have := (HC.out.pr.ans.map e).1
      omega
    have V3 : Hid (Rd w3 (tagTo tag w.heap.size tc) tc 5 (.slice va val.length vc) (val.map B8)) := Hv.out.only O3.out (fun b _ _ e => by rw [e]; exact H.out.mu p H.out.lp H.out.tp rfl) (.inr (.inl rfl)) (fun b hb e => by rw [tagTo_old _ _ _ _ hb]; exact e)
    have N3 : Hid (Rd w3 (tagTo tag w.heap.size tc) tc 3 (.slice na nodes.length nc) (nodes.map (Value.int .i64))) := Hn.out.only O3.out (fun b _ _ e => by rw [e]; exact H.out.mu p H.out.lp H.out.tp rfl) (.inl rfl) (fun b hb e => by rw [tagTo_old _ _ _ _ hb]; exact e)
    clear HQ hm3 b3 H3 k4 HC HB HO bWc z0 z1 z2 z3 z4 z5 z6 z7
    go_wp2
    go_end0
    refine ⟨rfl, Cl.of (H3'.out.setQ (c := c) hc kd (X.asked + 1) pl ck cl ca val nodes _ _ true gm V3.out N3.out Hm3.out (tagTo_new _ _ _ _ (by omega)) hgb hga.out), pq_tc H.out Hk.out ?_⟩
    exact puts_only (S := fun b => b = p ∨ b = q) (.inl (.inr rfl)) [.int .i64 kd, .int .i64 (X.asked + 1), .int .i64 0, .int .i64 pl, .int .i64 ck, .int .i64 cl, .int .i64 ca, .slice va val.length vc, .slice na nodes.length nc, .bool true, .map (some gm)] 16 w3 (O3.out.mono fun b _ e => .inl e)
end
end Go.Proofs.YtnhjmiglegdamaaGreat

namespace Go.Proofs.YtnhjmiglegdamaaGreat
open Go.RowKit Go.Maps
attribute [local go_sem ↓] Go.wp_at_zero Go.wp_at_succ
section
variable {w w0 w' : World} {tag tag' : Nat → Nat} {tc p q n m : Nat} {vo ce id : Int} {X X' : CX} {lv rv vv nv av pv vv' nv' av' ov cv ev ov' cv' ev' : Value} {bm born clk k gm : Nat} {c c' : PC}
/-- The settings may be, the address is one. -/
structure AdOk (n m : Nat) (vo ce a : Int) : Prop where
  fit : fit n m vo ce = true
  lo : 0 ≤ a
  hi : a < n * ce
theorem AdOk.loc {a : Int} (h : AdOk n m vo ce a) : loc n m vo ce a = (a % n, a / n, 0) := by
  unfold Go.Proofs.YtnhjmiglegdamaaGreat.loc
  rw [if_pos h.fit, if_neg (by have := h.lo; have := h.hi; omega)]
theorem AdOk.bd {a : Int} (h : AdOk n m vo ce a) : 1 ≤ n ∧ n ≤ 3 ∧ 1 ≤ m ∧ m ≤ 3 ∧ 0 ≤ a ∧ a < 48 := by
  obtain ⟨f1, f2, f3, f4⟩ := fit_bd h.fit
  obtain ⟨f5, f6⟩ := fit_bd2 h.fit
  have := (mul_bd f1 f2 f3 f4).2
  have := h.lo
  have := h.hi
  omega
set_option maxRecDepth 100000 in
set_option maxHeartbeats 4000000 in
theorem cl_chain (h : ClK w tag tc p q n m vo ce id X lv rv vv nv av bm born clk) (hc : X.pend = some c) (hA : AdOk n m vo ce c.addr) :
    Calls Tryz.prog 186 #[.pointer (some ⟨p, 0, none⟩), .pointer (some ⟨q, 0, none⟩)] w fun en w' => ∃ na nc, en = .returned (.slice na m nc) ∧ Bl w w' ∧ Rd w' tag tc 3 (.slice na m nc) ((chainOf n m c.addr).map (Value.int .i64)) := by
  obtain ⟨ov, cv, ev, v3, n3, a3, hk, hl, k2, k3⟩ := h.call c hc
  obtain ⟨b1, b2, b3, b4, b5, b6⟩ := hA.bd
  obtain ⟨g, arr, rfl, tg, hg, hx⟩ := h.lay
  obtain ⟨j, hj⟩ : ∃ j : Nat, c.addr % n = (j : Int) := ⟨(c.addr % n).toNat, by have := Int.emod_nonneg c.addr (show (n : Int) ≠ 0 by omega); omega⟩
  have hjn : j < n := by have := Int.emod_lt_of_pos c.addr (show (0 : Int) < n by omega); omega
  have HL := hid (fun w => locate_any n m vo ce c.addr w)
  rw [hA.loc, hj] at HL
  obtain ⟨x, hx1, hx2⟩ := hx j hjn
  have hch : (List.range m).map (fun (i : Nat) => Value.int .i64 (j * m + i)) = (chainOf n m c.addr).map (Value.int .i64) := by
    unfold chainOf
    rw [hj, List.map_map]
    rfl
  rw [hch] at hx2
  obtain ⟨na, nc, hxv⟩ := hx2.shape
  have hlen : ((chainOf n m c.addr).map (Value.int .i64)).length = m := by simp [chainOf]
  rw [hlen] at hxv
  subst hxv
  have cg : w.cell? ⟨g, j, none⟩ = some (.slice na m nc) := by rw [cell_of_row w g j arr 24 (0, 0) hg]; exact hx1
  have lg := (Array.getElem?_eq_some_iff.1 hg).1
  have c0 := h.cellAt 0 rfl
  have c1 := h.cellAt 1 rfl
  have c2 := h.cellAt 2 rfl
  have c3 := h.cellAt 3 rfl
  have c6 := h.cellAt 6 rfl
  have e2 := hk.cellAt 2 rfl
  have lp := h.lp
  have lq := hk.lt
  have HX := hid hx2
  have hj0 : (0 : Int) ≤ (j : Int) := by omega
  have hjI : (j : Int) < (n : Int) := by omega
  clear h hk hx hx1 hx2 hch hlen hg hj
  unfold tup at HL
  go_enter Tryz.func186, Tryz.ntmps186
  go_upto_region 1 with fail
  go_cut [5, 6, 7] (fun y y2 y3 wx => y = .int .i64 j ∧ (∃ i : Int, y2 = .int .i64 i) ∧ (∃ i : Int, y3 = .int .i64 i) ∧ Hid (Bl w wx))
  case first =>
    go_region_held3 (fun W => W.cell? ⟨p, 0, none⟩ = some (.int .i64 n) ∧ W.cell? ⟨p, 1, none⟩ = some (.int .i64 m) ∧ W.cell? ⟨p, 2, none⟩ = some (.int .i64 vo) ∧ W.cell? ⟨p, 3, none⟩ = some (.int .i64 ce) ∧ W.cell? ⟨q, 2, none⟩ = some (.int .i64 c.addr)) (go_keep) (first | (go_at_call 87; refine (HL.out _).mono ?_; rintro en w2 ⟨rfl, hb2⟩; have hB : Bl w w2 := Bl.trans (by first | exact Bl.refl _ | exact (Bl.refl _).drew | exact (Bl.refl _).drewN _) hb2; have z0 := (hB.cell lp).trans c0; have z1 := (hB.cell lp).trans c1; have z2 := (hB.cell lp).trans c2; have z3 := (hB.cell lp).trans c3; have z4 := (hB.cell lq).trans e2; have HB2 := hid hB; clear hb2 hB))
    all_goals (go_wp2_with fail; go_meet)
    all_goals exact ⟨rfl, ⟨_, rfl⟩, ⟨_, rfl⟩, HB2.out⟩
  case rest =>
    obtain ⟨rfl, ⟨i2, rfl⟩, ⟨i3, rfl⟩, HB⟩ := hcut
    have d6 := (HB.out.cell lp).trans c6
    have dg := (HB.out.cell lg).trans cg
    have lpc := Nat.lt_of_lt_of_le lp HB.out.lt
    have lgc := Nat.lt_of_lt_of_le lg HB.out.lt
    clear c0 c1 c2 c3 c6 e2 cg
    go_wp2
    go_ret
    exact ⟨na, nc, rfl, HB.out, HX.out.bl HB.out (fun _ _ e => e)⟩
/-- A call of the client: what it is behind it, and what has turned. -/
def CStep (w : World) (tag : Nat → Nat) (tc p q n m : Nat) (vo ce id : Int) (X' : CX) (w' : World) : Prop := Cl w' (tagTo tag w.heap.size tc) tc p q n m vo ce id X' ∧ Only (Tc tag tc w) w w'
theorem Cl.retag (h : Cl w tag tc p q n m vo ce id X) (ht : ∀ b, b < w.heap.size → tag b = tc → tag' b = tc) : Cl w tag' tc p q n m vo ce id X := h.bl (Bl.refl w) ht
theorem CStep.pre {W : World} (h : CStep W tag tc p q n m vo ce id X w') (hb : Bl w W) : CStep w tag tc p q n m vo ce id X w' := by
  have hl := hb.lt
  refine ⟨h.1.retag fun b _ e => ?_, ⟨h.2.os.trans hb.os, h.2.tape.trans hb.tape, h.2.output.trans hb.output, Nat.le_trans hb.lt h.2.size, fun i hi hs => (h.2.block i (by omega) fun e => hs ⟨e.1, fun arr t f hh => e.2 arr t f ((hb.heap hi).trans hh)⟩).trans (hb.heap hi)⟩⟩
  by_cases hlt : b < w.heap.size
  · rw [tagTo_old _ _ _ _ (by omega)] at e
    rw [tagTo_old _ _ _ _ hlt]; exact e
  · rw [tagTo_new _ _ _ _ (by omega)]
theorem CStep.post {w1 w2 : World} (h : CStep w tag tc p q n m vo ce id X w1) (hb : Bl w1 w2) : CStep w tag tc p q n m vo ce id X w2 := ⟨h.1.bl hb (fun _ _ e => e), h.2.trans (Only.of_bl hb)⟩
theorem CStep.trans {w1 w2 : World} (h : CStep w tag tc p q n m vo ce id X w1) (k : CStep w1 (tagTo tag w.heap.size tc) tc p q n m vo ce id X' w2) : CStep w tag tc p q n m vo ce id X' w2 := by
  have hl := h.2.size
  refine ⟨k.1.retag fun b _ e => ?_, Tc.trans h.2 k.2⟩
  by_cases hlt : b < w1.heap.size
  · rw [tagTo_old _ _ _ _ hlt] at e; exact e
  · rw [tagTo_new _ _ _ _ (by omega)]
theorem Cl.q2 (h : Cl w tag tc p q n m vo ce id X) (hc : X.pend = some c) : w.cell? ⟨q, 2, none⟩ = some (.int .i64 c.addr) := by
  obtain ⟨lv, rv, vv, nv, av, bm, born, clk, h⟩ := h
  obtain ⟨ov, cv, ev, v3, n3, a3, hk, _⟩ := h.call c hc
  exact hk.cellAt 2 rfl
theorem CStep.q2 (h : CStep w tag tc p q n m vo ce id X w') (hc : X.pend = some c) : w'.cell? ⟨q, 2, none⟩ = some (.int .i64 c.addr) := h.1.q2 hc
set_option maxRecDepth 100000 in
set_option maxHeartbeats 4000000 in
theorem cl_look (h : ClK w tag tc p q n m vo ce id X lv rv vv nv av bm born clk) (hc : X.pend = some c) (hA : AdOk n m vo ce c.addr) (ha : 0 ≤ X.asked) (hb : X.asked ≤ 1000000) :
    Calls Tryz.prog 148 #[.pointer (some ⟨p, 0, none⟩), .pointer (some ⟨q, 0, none⟩)] w fun en w' => en = .returned (.tuple #[]) ∧ CStep w tag tc p q n m vo ce id (X.look n m c) w' := by
  obtain ⟨ov, cv, ev, v3, n3, a3, hk, hl, k2, k3⟩ := h.call c hc
  have HC : Hid (∀ W, Bl w W → _) := fun W hW => cl_chain (h.bl hW (tag' := tag) (fun _ _ e => e)) hc hA
  have hlen : (chainOf n m c.addr).length = m := by simp [chainOf]
  have HK : Hid (∀ W, Bl w W → ∀ na nc, Rd W tag tc 3 (.slice na m nc) ((chainOf n m c.addr).map (Value.int .i64)) → _) := fun W hW na nc hr => cl_ask (h.bl hW (tag' := tag) (fun _ _ e => e)) hc ha hb 3 c.addr 0 0 0 [] (chainOf n m c.addr) none na 0 nc Rd.nil (by rw [hlen]; exact hr)
  rw [hlen] at HK
  have e2 := hk.cellAt 2 rfl
  have lq := hk.lt
  clear h hk hlen
  go_enter Tryz.func148, Tryz.ntmps148
  go_region_held3 (fun W => W.cell? ⟨q, 2, none⟩ = some (.int .i64 c.addr)) (go_keep) (first | (go_at_call 186; refine (HC.out _ ?hb).mono ?_; (case hb => first | exact Bl.refl _ | exact (Bl.refl _).drew | exact (Bl.refl _).drewN _); rintro en w2 ⟨na, nc, rfl, hb2, hr2⟩; have hB : Bl w w2 := Bl.trans (by first | exact Bl.refl _ | exact (Bl.refl _).drew | exact (Bl.refl _).drewN _) hb2; have z4 := (hB.cell lq).trans e2; have HB2 := hid hB; have HR2 := hid hr2; clear hb2 hB hr2) | (go_at_call 187; refine (HK.out _ (HB2.out.trans ?hb) _ _ (HR2.out.bl ?hc (fun _ _ e => e))).mono ?_; (case hb => first | exact Bl.refl _ | exact (Bl.refl _).drew | exact (Bl.refl _).drewN _); (case hc => first | exact Bl.refl _ | exact (Bl.refl _).drew | exact (Bl.refl _).drewN _); rintro en w3 ⟨rfl, hs3⟩; have HS3 := hid (CStep.pre hs3 (HB2.out.trans (by first | exact Bl.refl _ | exact (Bl.refl _).drew | exact (Bl.refl _).drewN _))); have z5 := HS3.out.q2 rfl; clear hs3))
  all_goals
    go_wp2
    go_end0
    exact ⟨rfl, HS3.out⟩
end
end Go.Proofs.YtnhjmiglegdamaaGreat
